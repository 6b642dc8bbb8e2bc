import PyProof.Rows.All
import Wide.All
import OpenK.AllK
import Wide.FinOn
import HandS.ForMost
import HandS.Steps
import HandS.Walk
import HandS.IsInst
import HandS.Codes
import HandS.Defaults
import HandS.Head0
import HandS.Head1
import HandS.Head2
import HandS.HeadEnd
import HandS.HeadHook1
import HandS.HeadHook2
import HandS.RevTup
import HandS.MapObj
import HandS.Replace
import HandS.DictComp
import HandS.Style
import HandS.SetFor
import HandS.Strs
import HandS.More
import HandS.Flow
import KE.KRevSl
import HandS.ForExc
import HandS.SortKw
import KE.SortKeyHeap
import HandS.AnyAll
import HandS.HeadWalk
import HandS.FStr
import HandS.SetKeys
import HandS.Zip
import KE.DataFind
import HandS.Deep
import HandS.Wide
import PySem.Challenge.RW_reachbook_k18_whole_comes_and_knots
set_option Elab.async false
set_option Elab.async false
set_option linter.all false
set_option maxRecDepth 100000
set_option maxHeartbeats 2000000
/-! HX: rules with named readings, and the steps of a reading, backwards. -/
namespace HX
open PySem PySem.Spec PyProof.Rows L2
/-! ### named readings -/
def xCatS : R2 := fun x y H Q => ∃ i j, x = .str i ∧ y = .str j ∧ i.length + j.length ≤ sizeLine ∧ Q (.str (i ++ j)) H
def xLenS : List V → Hp → VK → Prop := fun xs H Q => ∃ z, xs = [.str z] ∧ z.length ≤ sizeLine ∧ Q (.int z.length) H
def xLenL (K : PySem.W.Frag) : List V → Hp → VK → Prop := fun xs H Q => ∃ p ys, xs = [.ref p] ∧ (SqL K H p ys ∨ SqT K H p ys) ∧ Q (.int ys.length) H
def xAbs : List V → Hp → VK → Prop := fun xs H Q => ∃ i, xs = [.int i] ∧ Q (.int (if i < 0 then -i else i)) H
def xMax2 : List V → Hp → VK → Prop := fun xs H Q => ∃ i j, xs = [.int i, .int j] ∧ Q (.int (if j > i then j else i)) H
def xMin2 : List V → Hp → VK → Prop := fun xs H Q => ∃ i j, xs = [.int i, .int j] ∧ Q (.int (if j < i then j else i)) H
def xStrI : List V → Hp → VK → Prop := fun xs H Q => ∃ i, xs = [.int i] ∧ i.natAbs.log2 < 1920 ∧ Q (.str (toString i)) H
def xIntS : List V → Hp → VK → Prop := fun xs H Q => ∃ a n, xs = [.str a] ∧ PySem.intText? a = some n ∧ a.length ≤ 640 ∧ Q (.int n) H
def xIntB : List V → Hp → VK → Prop := fun xs H Q => (∃ i, xs = [.int i] ∧ Q (.int i) H) ∨ ∃ k, xs = [.bl k] ∧ Q (.int (if k then 1 else 0)) H
def xListOf (K : PySem.W.Frag) : List V → Hp → VK → Prop := fun xs H Q => ∃ p ys, xs = [.ref p] ∧ (SqL K H p ys ∨ SqT K H p ys) ∧ ∀ l, H l = none → Q (.ref l) (upd H l (.lst ys))
def xSplit : V → List V → Hp → VK → Prop := fun x xs H Q => ∃ a b, x = .str a ∧ xs = [.str b] ∧ (b.length == 0) = false ∧ a.length + 2 ≤ sizeLine ∧ rNewStrs (Txt.split a b) H Q
def xJoin (K : PySem.W.Frag) : V → List V → Hp → VK → Prop := fun x xs H Q => ∃ a p, ∃ ys : List Str, x = .str a ∧ xs = [.ref p] ∧ (SqL K H p (ys.map V.str) ∨ SqT K H p (ys.map V.str)) ∧
      (ys.map (·.length)).sum + ys.length * a.length ≤ 16777216 ∧ Q (.str (Txt.join a ys)) H
section
variable {X : Cx}
theorem x_catS : OpR X (binaryOp .Add) xCatS := op_add_str
theorem x_lenS : CallR X (.builtin "len") xLenS := call_len_str
theorem x_lenL : CallR X (.builtin "len") (xLenL X.K) := call_len_seq
theorem x_abs : CallR X (.builtin "abs") xAbs := call_abs
theorem x_max2 (hc : X.calm = true) : CallR X (.builtin "max") xMax2 := call_max2 hc
theorem x_min2 (hc : X.calm = true) : CallR X (.builtin "min") xMin2 := call_min2 hc
theorem x_strI : CallR X (.type "str") xStrI := call_str_int
theorem x_intS : CallR X (.type "int") xIntS := call_int_str
theorem x_intB : CallR X (.type "int") xIntB := call_int1
theorem x_list : CallR X (.type "list") (xListOf X.K) := call_list_of
theorem x_split {o e : Expr} {to te : TE} {apos pos : Pos} (ho : PE X o to) (he : PE X e te) (hs : starEach [e] X.env = [(false, eval e X.env)] := by rfl) (hbase : attributeBase o "split" X.env (eval o X.env) = eval o X.env := by rfl) (hline : (apos.endLine == pos.line) = true := by rfl) :
    PE X (.Call (.Attribute o "split" apos) [e] [] pos) (tM1 xSplit to te) := pe_split ho he hs hbase hline
theorem x_join {o e : Expr} {to te : TE} {apos pos : Pos} (ho : PE X o to) (he : PE X e te) (hs : starEach [e] X.env = [(false, eval e X.env)] := by rfl) (hbase : attributeBase o "join" X.env (eval o X.env) = eval o X.env := by rfl) (hline : (apos.endLine == pos.line) = true := by rfl) :
    PE X (.Call (.Attribute o "join" apos) [e] [] pos) (tM1 (xJoin X.K) to te) := pe_join ho he hs hbase hline
end
/-! ### continuations -/
def kB (Q : Bool → Hp → Prop) : VK := fun x H' => ∃ k, x = .bl k ∧ Q k H'
def kInt (Q : Option Int → Hp → Prop) : VK := fun x H' => ∃ i, x = .int i ∧ Q (some i) H'
def kAndV (tb : TE) (σ : L2.St) (Q : VK) : VK := fun x H1 => ∃ c, x = .bl c ∧ if c = true then tb σ H1 Q else Q (.bl false) H1
def kOrV (tb : TE) (σ : L2.St) (Q : VK) : VK := fun x H1 => ∃ c, x = .bl c ∧ if c = true then Q (.bl true) H1 else tb σ H1 Q
def kNotV (Q : VK) : VK := fun x H1 => ∃ c, x = .bl c ∧ Q (.bl (!c)) H1
def kTru (K : PySem.W.Frag) (Q : Bool → Hp → Prop) : VK := fun x H' => ∃ k, TruV K x H' k ∧ Q k H'
def kStr (Q : VK) : VK := fun x H1 => (∃ a, x = .str a) ∧ Q x H1
def kTy (K : PySem.W.Frag) (T : String) (Q : VK) : VK := fun x H1 => tyV K T x H1 ∧ Q x H1
def kListI (K : PySem.W.Frag) (R : It → Hp → Prop) : VK := fun x H1 => ∃ a, x = .ref a ∧ (∃ xs, SqL K H1 a xs) ∧ R (Itl K a) H1
def kTupI (K : PySem.W.Frag) (R : It → Hp → Prop) : VK := fun x H1 => ∃ a, x = .ref a ∧ (∃ xs, SqT K H1 a xs) ∧ R (Itt K a) H1
def kStrI (R : It → Hp → Prop) : VK := fun v H1 => ∃ x, v = .str x ∧ R (Its x) H1
def kChain (r' : R2) (tc : TE) (σ : L2.St) (y : V) (Q : VK) : VK := fun z H3 => ∃ k, z = .bl k ∧ (if k = true then tc σ H3 fun w' H4 => r' y w' H4 Q else Q (.bl false) H3)
def kRng1 (QR : It → Hp → Prop) : List V → Hp → Prop := fun vs H1 => ∃ j : Int, vs = [.int j] ∧ -(2 ^ 62) ≤ j ∧ j < 2 ^ 62 ∧ QR (Itr 0 j.toNat) H1
def kRng2 (QR : It → Hp → Prop) : List V → Hp → Prop := fun vs H1 => ∃ i j : Int, vs = [.int i, .int j] ∧ (-(2 ^ 62) ≤ i ∧ i < 2 ^ 62 ∧ -(2 ^ 62) ≤ j ∧ j < 2 ^ 62) ∧ QR (Itr i (j - i).toNat) H1
def ForW (J : It) (g : TG) (tb : TS) (D : Ends) (σ : L2.St) (H : Hp) : Prop := ∃ W : Nat → Nat → L2.St → Hp → Prop, (∃ m, W 0 m σ H) ∧ ∀ i m σ H, W i m σ H →
  (J.stop i H ∧ D.nx σ H) ∨ (J.go i H ∧ ∃ N : L2.St → Hp → Prop, (∀ σ' H', N σ' H' → ∃ m', m' < m ∧ W (i + 1) m' σ' H') ∧ ∀ x H', J.yld i H x H' → g x σ H' fun σ2 H2 => tb { D with nx := N, ct := N, bk := D.nx } σ2 H2)
def LcW (J : It) (g : TG) (tt : TT) (te : TE) (vs : List Nat) (σ : L2.St) (H1 : Hp) (Q : VK) : Prop := ∀ D, H1 D = none → ∃ W : Nat → Nat → Hp → Prop, (∃ m, W 0 m (upd H1 D (.lst []))) ∧ ∀ i m H, W i m H →
  (J.stop i H ∧ Q (.ref D) H) ∨ (J.go i H ∧ ∃ Nx : Hp → Prop, (∀ H', Nx H' → ∃ m', m' < m ∧ W (i + 1) m' H') ∧ ∀ x H', J.yld i H x H' → g x (wipe σ vs) H' fun σ2 H2 => wipe σ2 vs = wipe σ vs ∧ tt σ2 H2 fun b H3 =>
    if b = true then te σ2 H3 fun y H4 => ∃ acc, H4 D = some (.lst acc) ∧ acc.length < sizeLine ∧ Nx (upd H4 D (.lst (acc ++ [y]))) else Nx H3)
/-! ### steps -/
section
variable {K : PySem.W.Frag} {σ : L2.St} {H : Hp} {i : Nat} {v x y z : V} {ta tb te tc : TE} {Q : VK} {QB : Bool → Hp → Prop} {QA : List V → Hp → Prop} {QO : Option Int → Hp → Prop} {r r' : R2} {D : Ends} {t u : TS} {g : TG} {tt tt' : TT} {R : It → Hp → Prop} {tas : TA}
theorem i_var (e : σ[i]? = some (some v)) (q : Q v H) : tVar i σ H Q := ⟨v, e, q⟩
theorem i_c (q : Q v H) : tC v σ H Q := q
theorem i_op (q : ta σ H fun x H1 => tb σ H1 fun y H2 => r x y H2 Q) : tOp r ta tb σ H Q := q
theorem i_un {ru : V → Hp → VK → Prop} (q : ta σ H fun x H1 => ru x H1 Q) : tUn ru ta σ H Q := q
theorem i_rI {C : Int → Int → Prop} {f : Int → Int → V} {a b : Int} (q : Q (f a b) H) (c : C a b) : rI C f (.int a) (.int b) H Q := ⟨a, b, rfl, rfl, c, q⟩
theorem i_rI0 {f : Int → Int → V} {a b : Int} (q : Q (f a b) H) : rI0 f (.int a) (.int b) H Q := ⟨a, b, rfl, rfl, q⟩
theorem i_rGe {a b : Int} (q : Q (.bl (decide (b ≤ a))) H) : rGe (.int a) (.int b) H Q := ⟨a, b, rfl, rfl, q⟩
theorem i_rGt {a b : Int} (q : Q (.bl (decide (b < a))) H) : rGt (.int a) (.int b) H Q := ⟨a, b, rfl, rfl, q⟩
theorem i_rU {f : Int → V} {a : Int} (q : Q (f a) H) : rU f (.int a) H Q := ⟨a, rfl, q⟩
theorem i_rEqI {a b : Int} (q : Q (.bl (decide (a = b))) H) : rEq (.int a) (.int b) H Q := ⟨rfl, by rw [dec_int, Bool.beq_eq_decide_eq]; exact q⟩
theorem i_rNeI {a b : Int} (q : Q (.bl (!decide (a = b))) H) : rNe (.int a) (.int b) H Q := ⟨rfl, by rw [dec_int, Bool.beq_eq_decide_eq]; exact q⟩
theorem i_rEqS {a b : Str} (q : Q (.bl (decide (a = b))) H) : rEq (.str a) (.str b) H Q := ⟨rfl, by rw [dec_str, Bool.beq_eq_decide_eq]; exact q⟩
theorem i_rNeS {a b : Str} (q : Q (.bl (!decide (a = b))) H) : rNe (.str a) (.str b) H Q := ⟨rfl, by rw [dec_str, Bool.beq_eq_decide_eq]; exact q⟩
theorem i_rEqB {a b : Bool} (q : Q (.bl (decide (a = b))) H) : rEq (.bl a) (.bl b) H Q := ⟨rfl, by rw [dec_bl, Bool.beq_eq_decide_eq]; exact q⟩
theorem i_rNeB {a b : Bool} (q : Q (.bl (!decide (a = b))) H) : rNe (.bl a) (.bl b) H Q := ⟨rfl, by rw [dec_bl, Bool.beq_eq_decide_eq]; exact q⟩
theorem i_rIsN (q : Q (.bl (decide (x = .non))) H) : rIsN x .non H Q := ⟨rfl, q⟩
theorem i_rNotN (q : Q (.bl (!decide (x = .non))) H) : rNotN x .non H Q := ⟨rfl, q⟩
theorem i_rInS {c : Nat} {z : Str} (q : Q (.bl (decide (c ∈ z.cps.toList))) H) : rInS (.str ⟨#[c]⟩) (.str z) H Q := ⟨c, z, rfl, rfl, q⟩
theorem i_rNotInS {c : Nat} {z : Str} (q : Q (.bl (!decide (c ∈ z.cps.toList))) H) : rNotInS (.str ⟨#[c]⟩) (.str z) H Q := ⟨c, z, rfl, rfl, q⟩
theorem i_catS {a b : Str} (q : Q (.str (a ++ b)) H) (c : a.length + b.length ≤ sizeLine) : xCatS (.str a) (.str b) H Q := ⟨a, b, rfl, rfl, c, q⟩
theorem i_tcb {rr : List V → Hp → VK → Prop} (q : tas σ H fun vs H1 => rr vs H1 Q) : tCB rr tas σ H Q := q
theorem i_nil (q : QA [] H) : tNil σ H QA := q
theorem i_cons (q : ta σ H fun x H1 => tas σ H1 fun xs H2 => QA (x :: xs) H2) : tCons ta tas σ H QA := q
theorem i_lenS {s : Str} (q : Q (.int s.length) H) (c : s.length ≤ sizeLine) : xLenS [.str s] H Q := ⟨s, rfl, c, q⟩
theorem i_lenL {p : Addr} {xs : List V} (h : SqL K H p xs) (q : Q (.int xs.length) H) : xLenL K [.ref p] H Q := ⟨p, xs, rfl, .inl h, q⟩
theorem i_lenT {p : Addr} {xs : List V} (h : SqT K H p xs) (q : Q (.int xs.length) H) : xLenL K [.ref p] H Q := ⟨p, xs, rfl, .inr h, q⟩
theorem i_abs {a : Int} (q : Q (.int (a.natAbs : Int)) H) : xAbs [.int a] H Q := ⟨a, rfl, by
  have e : (if a < 0 then -a else a) = (a.natAbs : Int) := by split <;> omega
  rw [e]; exact q⟩
theorem i_max2 {a b : Int} (q : Q (.int (max a b)) H) : xMax2 [.int a, .int b] H Q := ⟨a, b, rfl, by
  have e : (if b > a then b else a) = max a b := by split <;> omega
  rw [e]; exact q⟩
theorem i_min2 {a b : Int} (q : Q (.int (min a b)) H) : xMin2 [.int a, .int b] H Q := ⟨a, b, rfl, by
  have e : (if b < a then b else a) = min a b := by split <;> omega
  rw [e]; exact q⟩
theorem i_strI {a : Int} (q : Q (.str (toString a)) H) (c : a.natAbs.log2 < 1920) : xStrI [.int a] H Q := ⟨a, rfl, c, q⟩
theorem i_intB {k : Bool} (q : Q (.int (if k then 1 else 0)) H) : xIntB [.bl k] H Q := .inr ⟨k, rfl, q⟩
theorem i_test (q : te σ H (kB QB)) : tTest te σ H QB := q
theorem i_tB (q : te σ H (kB QB)) : tB te σ H QB := q
theorem i_kB {k : Bool} (q : QB k H) : kB QB (.bl k) H := ⟨k, rfl, q⟩
theorem i_and (q : tt σ H fun c H1 => if c = true then tt' σ H1 QB else QB false H1) : tAnd tt tt' σ H QB := q
theorem i_or (q : tt σ H fun c H1 => if c = true then QB true H1 else tt' σ H1 QB) : tOr tt tt' σ H QB := q
theorem i_not (q : tt σ H fun c H1 => QB (!c) H1) : tNot tt σ H QB := q
theorem i_if (q : tt σ H fun c H1 => if c = true then ta σ H1 Q else tb σ H1 Q) : tIf tt ta tb σ H Q := q
theorem i_andV (q : ta σ H (kAndV tb σ Q)) : tAndV ta tb σ H Q := q
theorem i_orV (q : ta σ H (kOrV tb σ Q)) : tOrV ta tb σ H Q := q
theorem i_notV (q : ta σ H (kNotV Q)) : tNotV ta σ H Q := q
theorem i_kAndV {c : Bool} (q : if c = true then tb σ H Q else Q (.bl false) H) : kAndV tb σ Q (.bl c) H := ⟨c, rfl, q⟩
theorem i_kOrV {c : Bool} (q : if c = true then Q (.bl true) H else tb σ H Q) : kOrV tb σ Q (.bl c) H := ⟨c, rfl, q⟩
theorem i_kNotV {c : Bool} (q : Q (.bl (!c)) H) : kNotV Q (.bl c) H := ⟨c, rfl, q⟩
theorem i_chain (q : ta σ H fun x H1 => tb σ H1 fun y H2 => r x y H2 (kChain r' tc σ y Q)) : tChain r r' ta tb tc σ H Q := q
theorem i_kChain {k : Bool} (q : if k = true then tc σ H fun w' H4 => r' y w' H4 Q else Q (.bl false) H) : kChain r' tc σ y Q (.bl k) H := ⟨k, rfl, q⟩
theorem i_seq (q : t { D with nx := u D } σ H) : tSeq t u D σ H := q
theorem i_next (q : D.nx σ H) : tNext D σ H := q
theorem i_drop (q : te σ H fun _ H1 => D.nx σ H1) : tDrop te D σ H := q
theorem i_ret (q : te σ H D.rt) : tRet te D σ H := q
theorem i_retN (q : D.rt .non H) : tRetN D σ H := q
theorem i_ifS (q : tt σ H fun b H1 => if b = true then t D σ H1 else u D σ H1) : tIfS tt t u D σ H := q
theorem i_asg (q : te σ H fun x H1 => g x σ H1 D.nx) : tAsg te g D σ H := q
theorem i_gName {QS : L2.St → Hp → Prop} (q : QS (σ.set i (some v)) H) : gName i v σ H QS := q
theorem i_for {wi : TI} (q : wi σ H fun J H1 => ForW J g t D σ H1) : tFor wi g t D σ H := q
theorem i_lc {wi : TI} {vs : List Nat} (q : wi σ H fun J H1 => LcW J g tt te vs σ H1 Q) : tLc wi g tt te vs σ H Q := q
theorem i_iList (q : ta σ H (kListI K R)) : iList K ta σ H R := q
theorem i_iTup (q : ta σ H (kTupI K R)) : iTup K ta σ H R := q
theorem i_iStr (q : ta σ H (kStrI R)) : iStr ta σ H R := q
theorem i_kListI {a : Addr} {xs : List V} (h : SqL K H a xs) (q : R (Itl K a) H) : kListI K R (.ref a) H := ⟨a, rfl, ⟨xs, h⟩, q⟩
theorem i_kTupI {a : Addr} {xs : List V} (h : SqT K H a xs) (q : R (Itt K a) H) : kTupI K R (.ref a) H := ⟨a, rfl, ⟨xs, h⟩, q⟩
theorem i_kStrI {s : Str} (q : R (Its s) H) : kStrI R (.str s) H := ⟨s, rfl, q⟩
theorem i_lst (q : tas σ H fun xs H1 => xs.length ≤ sizeLine ∧ ∀ p, H1 p = none → Q (.ref p) (upd H1 p (.lst xs))) : tLst tas σ H Q := q
theorem i_tup (q : tas σ H fun xs H1 => xs.length ≤ sizeLine ∧ ∀ p, H1 p = none → Q (.ref p) (upd H1 p (.tup xs))) : tTup tas σ H Q := q
theorem i_ixL {p : Addr} {xs : List V} {j : Int} (h : SqL K H p xs) (e : atI xs j = some v) (q : Q v H) : rIxL K (.ref p) (.int j) H Q := ⟨p, xs, j, v, rfl, rfl, h, e, q⟩
theorem i_ixT {p : Addr} {xs : List V} {j : Int} (h : SqT K H p xs) (e : atI xs j = some v) (q : Q v H) : rIxT K (.ref p) (.int j) H Q := ⟨p, xs, j, v, rfl, rfl, h, e, q⟩
theorem i_ixS {s : Str} {j : Int} {c : Nat} (q : Q (.str ⟨#[c]⟩) H) (hs : s.length ≤ sizeLine) (e : atI s.cps.toList j = some c) : rIxS (.str s) (.int j) H Q := ⟨s, j, c, rfl, rfl, hs, e, q⟩
theorem i_call {sp : Sp} {dvs : List V} {E : XK} (q : tas σ H fun vs H1 => sp (vs ++ dvs) H1 Q E) : tCall sp dvs E tas σ H Q := q
theorem i_m1 {rm : V → List V → Hp → VK → Prop} (q : ta σ H (kStr fun x H1 => te σ H1 fun y H2 => rm x [y] H2 Q)) : tM1 rm ta te σ H Q := q
theorem i_kStr {s : Str} (q : Q (.str s) H) : kStr Q (.str s) H := ⟨⟨s, rfl⟩, q⟩
theorem i_bm {T : String} {rm : V → List V → Hp → VK → Prop} (q : ta σ H (kTy K T fun x H1 => tas σ H1 fun xs H2 => rm x xs H2 Q)) : tBM K T rm ta tas σ H Q := q
theorem i_bm0 {T : String} {rm : V → List V → Hp → VK → Prop} (q : ta σ H (kTy K T fun x H1 => rm x [] H1 Q)) : tBM0 K T rm ta σ H Q := q
theorem i_kTyL {p : Addr} {xs : List V} (h : SqL K H p xs) (q : Q (.ref p) H) : kTy K "list" Q (.ref p) H := ⟨.inl ⟨rfl, xs, h⟩, q⟩
theorem i_append {l : Addr} {xs : List V} {y : V} (h : H l = some (.lst xs)) (q : Q .non (upd H l (.lst (xs ++ [y])))) (c : xs.length < sizeLine) : rAppend (.ref l) [y] H Q := ⟨l, xs, y, rfl, rfl, h, c, q⟩
theorem i_split {a b : Str} (q : ∀ p, H p = none → Q (.ref p) (upd H p (.lst ((Txt.split a b).map V.str)))) (h : (b.length == 0) = false) (c : a.length + 2 ≤ sizeLine) : xSplit (.str a) [.str b] H Q := ⟨a, b, rfl, rfl, h, c, q⟩
theorem i_part (q : te σ H (kInt QO)) : tPart te σ H QO := q
theorem i_kInt {a : Int} (q : QO (some a) H) : kInt QO (.int a) H := ⟨a, rfl, q⟩
theorem i_noPart (q : QO none H) : tNoPart σ H QO := q
theorem i_sl {rs : V → Option Int → Option Int → Hp → VK → Prop} {tl th : TO} (q : te σ H fun x H1 => tl σ H1 fun l H2 => th σ H2 fun u H3 => rs x l u H3 Q) : tSl rs te tl th σ H Q := q
theorem i_slL {a : Addr} {xs : List V} {lo hi : Option Int} (h : SqL K H a xs) (q : ∀ p, H p = none → Q (.ref p) (upd H p (.lst (cutV xs lo hi)))) : rSlL K (.ref a) lo hi H Q := ⟨a, xs, rfl, h, q⟩
theorem i_range1 {QR : It → Hp → Prop} (q : tas σ H (kRng1 QR)) : iRng1 tas σ H QR := q
theorem i_range2 {QR : It → Hp → Prop} (q : tas σ H (kRng2 QR)) : iRng2 tas σ H QR := q
theorem i_kRng1 {j : Int} {QR : It → Hp → Prop} (q : QR (Itr 0 j.toNat) H) (c : -(2 ^ 62) ≤ j ∧ j < 2 ^ 62) : kRng1 QR [.int j] H := ⟨j, rfl, c.1, c.2, q⟩
theorem i_kRng2 {a b : Int} {QR : It → Hp → Prop} (q : QR (Itr a (b - a).toNat) H) (c : -(2 ^ 62) ≤ a ∧ a < 2 ^ 62 ∧ -(2 ^ 62) ≤ b ∧ b < 2 ^ 62) : kRng2 QR [.int a, .int b] H := ⟨a, b, rfl, c, q⟩
theorem i_gTup {a : Addr} {xs : List V} {n : Nat} {gs : TGs} {QS : L2.St → Hp → Prop} (h : SqT K H a xs) (e : xs.length = n) (q : gs xs σ H QS) : gTup K n gs (.ref a) σ H QS := ⟨a, xs, rfl, h, e, q⟩
theorem i_gCons {g : TG} {gs : TGs} {xs : List V} {QS : L2.St → Hp → Prop} (q : g v σ H fun σ' H' => gs xs σ' H' QS) : gCons g gs (v :: xs) σ H QS := ⟨v, xs, rfl, q⟩
theorem i_gNil {QS : L2.St → Hp → Prop} (q : QS σ H) : gNil [] σ H QS := ⟨rfl, q⟩
theorem i_gSub {to ti : TE} {ts : TSet} {QS : L2.St → Hp → Prop} (q : to σ H fun o H1 => ti σ H1 fun i H2 => ts o i v H2 fun H3 => QS σ H3) : gSub to ti ts v σ H QS := q
theorem i_setL {p : Addr} {xs : List V} {k : Int} {j : Nat} {QH : Hp → Prop} (h : H p = some (.lst xs)) (e : ixN xs.length k = some j) (q : QH (upd H p (.lst (xs.set j v)))) : rSetL (.ref p) (.int k) v H QH := ⟨p, xs, k, j, rfl, rfl, h, e, q⟩
def kZip (K : PySem.W.Frag) (R : It → Hp → Prop) : List V → Hp → Prop := fun vs H1 => ∃ a b xs ys, vs = [.ref a, .ref b] ∧ SqL K H1 a xs ∧ SqL K H1 b ys ∧ R (Itz K a b) H1
theorem i_iZip (q : tas σ H (kZip K R)) : iZip K tas σ H R := q
theorem i_kZip {a b : Addr} {xs ys : List V} (h1 : SqL K H a xs) (h2 : SqL K H b ys) (q : R (Itz K a b) H) : kZip K R [.ref a, .ref b] H := ⟨a, b, xs, ys, rfl, h1, h2, q⟩
theorem i_cat {l b : Addr} {xs zs : List V} (h1 : H l = some (.lst xs)) (h2 : H b = some (.lst zs)) (c : xs.length + zs.length ≤ sizeLine) (q : ∀ p, H p = none → Q (.ref p) (upd H p (.lst (xs ++ zs)))) : rCat (.ref l) (.ref b) H Q := ⟨l, b, xs, zs, rfl, rfl, h1, h2, c, q⟩
theorem i_rep {l : Addr} {k : Int} {xs : List V} (h : H l = some (.lst xs)) (c1 : -(2 ^ 63) ≤ k) (c2 : k < 2 ^ 63) (c3 : xs.length * k.toNat ≤ sizeLine) (q : ∀ p, H p = none → Q (.ref p) (upd H p (.lst (List.replicate k.toNat xs).flatten))) : rRep (.ref l) (.int k) H Q := ⟨l, k, xs, rfl, rfl, h, c1, c2, c3, q⟩
theorem i_join {a : Str} {p : Addr} {ys : List Str} (h : SqL K H p (ys.map V.str)) (c : (ys.map (·.length)).sum + ys.length * a.length ≤ 16777216) (q : Q (.str (Txt.join a ys)) H) : xJoin K (.str a) [.ref p] H Q := ⟨a, p, ys, rfl, rfl, .inl h, c, q⟩
theorem i_yes (q : QB true H) : tYes σ H QB := q
theorem i_ift {A B : Prop} (q : A) : if true = true then A else B := by rw [if_pos rfl]; exact q
theorem i_iff {A B : Prop} (q : B) : if false = true then A else B := by rw [if_neg Bool.false_ne_true]; exact q
theorem i_dec {p A B : Prop} [Decidable p] (h1 : p → A) (h2 : ¬ p → B) : if decide p = true then A else B := by
  by_cases h : p
  · rw [if_pos (decide_eq_true h)]; exact h1 h
  · rw [if_neg (by simp [h])]; exact h2 h
theorem i_ndec {p A B : Prop} [Decidable p] (h1 : ¬ p → A) (h2 : p → B) : if (!decide p) = true then A else B := by
  by_cases h : p
  · rw [if_neg (by simp [h])]; exact h2 h
  · rw [if_pos (by simp [h])]; exact h1 h
theorem i_nb {b : Bool} {A B : Prop} (q : if b = true then B else A) : if (!b) = true then A else B := by
  cases b <;> exact q
theorem i_b {b : Bool} {A B : Prop} (h1 : b = true → A) (h2 : b = false → B) : if b = true then A else B := by
  cases b with
  | true => exact i_ift (h1 rfl)
  | false => exact i_iff (h2 rfl)
end
end HX

set_option Elab.async false
set_option linter.all false
set_option maxRecDepth 100000
set_option maxHeartbeats 2000000
/-! HXrev: sep.join(reversed(list of texts)); a figure's place among the figures. -/
namespace HX
open PySem PySem.Spec PyProof.Rows L2
section
variable {prog : Program} {w : World} {A : Around} {E : Value → Shared → Prop} {s : Shared}
theorem join_rev {x : Str} {t : Tok} {it l : Addr} {items : Array Value} {ys : List Str} {Q : Value → Shared → Prop} (hh : A.handled = none) (hit : s.heap.IsRevIter it l ((items.size : Int) - 1)) (hl : s.heap.IsList l items) (hne : l ≠ it) (hn : items.size ≤ sizeLine)
    (hP : ∀ acc : Array Value, ItemsOf (fun i v => items[items.size - 1 - i]? = some v) acc items.size → StrsAre acc.toList ys) (hok : (ys.map (·.length)).sum + ys.length * x.length ≤ 16777216)
    (hq : ∀ (h' : Heap) (k t' : Nat), (∀ b o, b ≠ it → s.heap.get? b = some o → h'.get? b = some o) → Q (.str (Txt.join x ys) t') { s with heap := h', toks := k }) :
    wpAny (model prog w) A (call (.builtin "str.join") [.str x t, .ref it]) Q E s := by
  refine wpAny_call (codeAny_call_builtin F.slot_str_join.plain F.entry_str_join (F.slot_str_join.check _ _ _ _ _ _ _ _ (typeIs_str _ _ _) (F.args_str_join_2 _ _) ?_))
  rw [join_tree_other]
  refine wpAny_bind (wpAny_typeOf hit.typeIs ?_)
  show wpAny _ A.in1 ((pyIter (.ref it)).tryCatch _ >>= fun i => collect i >>= fun items => joinTail x items) _ _ s
  refine wpAny_bind (wpAny_tryCatch (wpAny_pyIter_revIter hit ?_))
  refine wpAny_bind (RT.collect_rev (A := A.in1) hh hit hl hne hn fun h' tk acc hk hacc => ?_)
  obtain ⟨l, hl', ht⟩ := strsAre_values (hP acc hacc)
  subst ht
  rw [hl']
  have hok' := joinOk_of hok
  unfold JoinOk at hok'
  rw [Bool.not_eq_true'] at hok'
  have g : Gives (joinTail x (strValues l)) (joinMade x l) := by
    have g0 := gives_joinTail x l hok'
    cases l with
    | nil => exact g0
    | cons p r => cases r with
      | nil => exact g0
      | cons q r' => exact g0
  exact g prog w A (wants Q E) _ (post_join l ⟨joinFit_length hok', fun t' k => hq h' k t' hk⟩)
end
end HX
namespace HX
open PySem PySem.Spec PyProof.Rows L2
theorem rev_at {ys : List Str} {its : List Value} (r : Vals (ys.map V.str) its) {acc : Array Value} (h : ItemsOf (fun i v => its.toArray[its.toArray.size - 1 - i]? = some v) acc its.toArray.size) : StrsAre acc.toList ys.reverse := by
  have hl : its.length = ys.length := by rw [← r.length, List.length_map]
  obtain ⟨h1, h2⟩ := h
  have key : ∀ (n : Nat) (L : List Value) (zs : List Str), L.length = n → zs.length = n → (∀ (i : Nat) (v : Value), L[i]? = some v → ∃ (y : Str) (t : Tok), zs[i]? = some y ∧ v = Value.str y t) → StrsAre L zs := by
    intro n
    induction n with
    | zero =>
      intro L zs e1 e2 _
      rw [List.length_eq_zero_iff.mp e1, List.length_eq_zero_iff.mp e2]
      exact .nil
    | succ n ih =>
      intro L zs e1 e2 k
      cases L with
      | nil => simp at e1
      | cons v L =>
        cases zs with
        | nil => simp at e2
        | cons z zs =>
          obtain ⟨y, t, hy, rfl⟩ := k 0 v rfl
          have ey : z = y := Option.some.inj hy
          subst ey
          exact .cons z t (ih L zs (by simpa using e1) (by simpa using e2) fun i v' hv => k (i + 1) v' (by simpa using hv))
  refine key ys.length acc.toList ys.reverse ?_ (by simp) fun i v hv => ?_
  · rw [Array.length_toList, h1]; simp [hl]
  · have hv' : acc[i]? = some v := by simpa using hv
    have q := h2 i v hv'
    have hi : i < ys.length := by
      have := (Array.getElem?_eq_some_iff.mp hv').1
      rw [h1] at this
      simpa [hl] using this
    have q2 : its[its.length - 1 - i]? = some v := by simpa using q
    have hj : its.length - 1 - i < ys.length := by omega
    obtain ⟨u, hu, ru⟩ := r.get (i := its.length - 1 - i) (x := V.str ys[its.length - 1 - i]) (by rw [List.getElem?_map, List.getElem?_eq_getElem hj]; rfl)
    rw [q2] at hu
    obtain rfl := Option.some.inj hu
    obtain ⟨t, rfl⟩ := (show ∃ t, v = Value.str _ t from ru)
    refine ⟨_, t, ?_, rfl⟩
    rw [List.getElem?_reverse hi, ← hl, List.getElem?_eq_getElem hj]
section
variable {X : Cx}
def kJoinRev (K : PySem.W.Frag) (sep : Str) (Q : VK) : List V → Hp → Prop := fun vs H2 => ∃ (q : Addr) (ys : List Str), vs = [.ref q] ∧ SqL K H2 q (ys.map V.str) ∧ (ys.map (·.length)).sum + ys.length * sep.length ≤ 16777216 ∧ Q (.str (Txt.join sep ys.reverse)) H2
/-- sep.join(reversed(xs)) -/
def tJoinRev (K : PySem.W.Frag) (to : TE) (ta : TA) : TE := fun σ H Q => to σ H fun x H1 => ∃ a : Str, x = .str a ∧ ta σ H1 (kJoinRev K a Q)
theorem x_joinRev {o e : Expr} {to : TE} {ta : TA} {apos pos p pos2 : Pos} (hc : X.calm = true) (ho : PE X o to) (hg : Gl X "reversed") (hm : X.mg "reversed" = none) (ha : PA X [e] ta)
    (hs1 : starEach [.Call (.Name "reversed" p) [e] [] pos2] X.env = [(false, eval (.Call (.Name "reversed" p) [e] [] pos2) X.env)] := by rfl) (hs : starEach [e] X.env = [(false, eval e X.env)] := by rfl)
    (hbase : attributeBase o "join" X.env (eval o X.env) = eval o X.env := by rfl) (hline : (apos.endLine == pos.line) = true := by rfl) :
    PE X (.Call (.Attribute o "join" apos) [.Call (.Name "reversed" p) [e] [] pos2] [] pos) (tJoinRev X.K to ta) := by
  refine ⟨fun pins s σ H Q I h => ?_⟩
  refine PySem.Call_method1 hbase hs1 hline (thn (ho.run pins s σ H _ I h) fun v s1 ⟨x, H1, I1, r1, q1⟩ => ?_)
  obtain ⟨a, rfl, q1⟩ := q1
  obtain ⟨t, rfl⟩ := _root_.id r1
  refine ⟨"str", _, F.plainAttrs_str, F.slot_str_join, F.type_str_join, typeIs_str _ _ _, (fun _ e => nomatch e), Calls.callWith_builtin rfl (Calls.evalArgs_plain (Calls.spliced_cons ?_))⟩
  refine Call_ (ld_blt I1 hg hm PyProof.Rows.boot_reversed (PyProof.Rows.callWith_type1 (thn (ha.run pos2 pins s1 σ H1 _ I1 q1) fun us s2 ⟨vs, H2, I2, r2, q2⟩ => ?_) hs rfl))
  obtain ⟨q, ys, rfl, hq, hz, q3⟩ := q2
  cases r2 with
  | cons r rr =>
    cases rr
    cases r
    obtain ⟨its, rv, pl, hsz⟩ := I2.list hq
    have hit : (s2.heap.push (revObj q ((its.toArray.size : Int) - 1))).IsRevIter s2.heap.objs.size q ((its.toArray.size : Int) - 1) := ⟨_, Heap.get?_push_size _ rfl, rfl, rfl⟩
    have hlt : q < s2.heap.objs.size := by obtain ⟨o, ho, _⟩ := pl.isList; exact Heap.lt_size ho
    refine call_reversed_list pl.isList (Calls.spliced_nil (join_rev (s := { s2 with heap := s2.heap.push (revObj q ((its.toArray.size : Int) - 1)) }) (ys := ys.reverse) (I2.ok.hd hc) hit (pl.isList.push _) (Nat.ne_of_lt hlt) (by rw [List.size_toArray, ← rv.length]; exact hsz) (fun acc hacc => rev_at rv hacc) (by simpa [List.sum_reverse] using hz) fun h' k t' hk => ?_))
    exact ⟨.str _, H2, I2.kept (t' := k) (fun b o e => hk b o (Nat.ne_of_lt (Heap.lt_size e)) (Heap.get?_push_of_some _ e)), ⟨t', rfl⟩, q3⟩
end
section
variable {K : PySem.W.Frag} {σ : L2.St} {H : Hp} {to : TE} {ta : TA} {Q : VK}
def kRev0 (K : PySem.W.Frag) (ta : TA) (σ : L2.St) (Q : VK) : VK := fun x H1 => ∃ a : Str, x = .str a ∧ ta σ H1 (kJoinRev K a Q)
theorem i_joinRev (q : to σ H (kRev0 K ta σ Q)) : tJoinRev K to ta σ H Q := q
theorem i_kRev0 {a : Str} (q : ta σ H (kJoinRev K a Q)) : kRev0 K ta σ Q (.str a) H := ⟨a, rfl, q⟩
theorem i_kJoinRev {a : Str} {p : Addr} {ys : List Str} (h : SqL K H p (ys.map V.str)) (c : (ys.map (·.length)).sum + ys.length * a.length ≤ 16777216) (q : Q (.str (Txt.join a ys.reverse)) H) : kJoinRev K a Q [.ref p] H := ⟨p, ys, rfl, h, c, q⟩
end
/-! ### a figure's place -/
def figs : Str := "0123456789"
theorem occ_fig : ∀ d : Nat, d < 10 → Builtin.Str.occurrences figs ⟨#[48 + d]⟩ 0 figs.length 1 = [d] := by decide +kernel
def xIndexF : V → List V → Hp → VK → Prop := fun x xs H Q => ∃ d : Nat, x = .str figs ∧ xs = [.str ⟨#[48 + d]⟩] ∧ d < 10 ∧ Q (.int (d : Nat)) H
theorem mt_indexF {X : Cx} : MtR X "str.index" xIndexF := by
  intro pins s σ H x xs v us Q I rx rs h
  obtain ⟨d, rfl, rfl, hd, q⟩ := h
  exact mt_sindex pins s σ H _ _ v us Q I rx rs ⟨figs, _, d, [], rfl, rfl, occ_fig d hd, q⟩
theorem x_indexS {X : Cx} {o e : Expr} {to te : TE} {apos pos : Pos} (ho : PE X o to) (he : PE X e te) (hs : starEach [e] X.env = [(false, eval e X.env)] := by rfl) (hbase : attributeBase o "index" X.env (eval o X.env) = eval o X.env := by rfl) (hline : (apos.endLine == pos.line) = true := by rfl) :
    PE X (.Call (.Attribute o "index" apos) [e] [] pos) (tM1 xIndexF to te) := pe_m1 F.slot_str_index F.type_str_index mt_indexF ho he hs hbase hline
end HX

set_option Elab.async false
set_option linter.all false
set_option maxRecDepth 100000
set_option maxHeartbeats 2000000
/-! HXweb: further rules: a dict against the empty one, steps of 1 and -1, texts taken out of a list. -/
namespace HX
open PySem PySem.Spec PyProof.Rows L2
section
variable {X : Cx}
/-- d != {} -/
def rNeD0 : R2 := fun x y H Q => ∃ a b ks, x = .ref a ∧ y = .ref b ∧ H a = some (.dK ks) ∧ H b = some (.dK []) ∧ Q (.bl (!ks.isEmpty)) H
theorem op_ne_dict0 (hu : X.A.units < cLine) : OpR X (compareOp .NotEq) rNeD0 := by
  intro pins s σ H x y v u Q I rx ry h
  obtain ⟨a, b, ks, rfl, rfl, ea, eb, q⟩ := h
  obtain rfl : v = Value.ref a := rx
  obtain rfl : u = Value.ref b := ry
  obtain ⟨_, ya, va, ra, da⟩ := (show ObjOk X.prog X.w H s.heap a (.dK ks) from I.hok a _ ea)
  obtain ⟨_, yb, vb, rb, db⟩ := (show ObjOk X.prog X.w H s.heap b (.dK []) from I.hok b _ eb)
  cases rb
  have la : va.length = ks.length := ra.length.symm
  refine PySem.W.keq_ne (knd := mixKind X.prog X.w) (r := true) ya yb da db hu (fun e => ?_) (fin_bl I q ?_)
  · have e0 : va = [] := List.length_eq_zero_iff.mp (by simpa using e)
    subst e0
    have k0 : ks = [] := List.length_eq_zero_iff.mp (by rw [← la]; rfl)
    subst k0
    exact hits_all (kvs := []) .nil ra fun _ h => by simp at h
  · rw [la]
    cases ks <;> simp
/-- xs[::k], k one or minus one -/
def kStepL (K : PySem.W.Frag) (x : V) (Q : VK) : Option Int → Hp → Prop := fun o H2 => ∃ a xs k, x = .ref a ∧ o = some k ∧ SqL K H2 a xs ∧ (k = 1 ∨ k = -1) ∧ ∀ p, H2 p = none → Q (.ref p) (upd H2 p (.lst (if k = 1 then xs else xs.reverse)))
def tStepL (K : PySem.W.Frag) (te : TE) (tk : TO) : TE := fun σ H Q => te σ H fun x H1 => tk σ H1 (kStepL K x Q)
theorem i_stepL {K : PySem.W.Frag} {te : TE} {tk : TO} {σ : L2.St} {H : Hp} {Q : VK} (q : te σ H fun x H1 => tk σ H1 (kStepL K x Q)) : tStepL K te tk σ H Q := q
theorem i_kStepL {K : PySem.W.Frag} {H : Hp} {Q : VK} {a : Addr} {xs : List V} {k : Int} (h : SqL K H a xs) (c : k = 1 ∨ k = -1) (q : ∀ p, H p = none → Q (.ref p) (upd H p (.lst (if k = 1 then xs else xs.reverse)))) : kStepL K (.ref a) Q (some k) H := ⟨a, xs, k, rfl, rfl, h, c, q⟩
theorem pick_one (items : Array Value) : slicePick items none none (some 1) = items := by
  unfold slicePick
  have e : sliceBounds none none (some 1) items.size = (0, (items.size : Int), 1) := by
    first
    | rfl
    | simp [sliceBounds]
  rw [e]
  show ((sliceRange 0 (items.size : Int) 1).filterMap (items[·]?)).toArray = _
  have r : sliceRange 0 (items.size : Int) 1 = List.range items.size := by
    unfold sliceRange
    have h1 : ((1 : Int) > 0) := by decide
    by_cases h : (0 : Int) < (items.size : Int)
    · have e : ((items.size : Int) - 0 + 1 - 1) / 1 = (items.size : Int) := by
        rw [Int.ediv_one]; omega
      simp only [h1, if_true, h, e, Int.toNat_natCast]
      conv => rhs; rw [← List.map_id (List.range items.size)]
      apply List.map_congr_left
      intro k hk
      simp
    · have e : items.size = 0 := by omega
      simp [e]
  rw [r, PySem.W.krv_all]
theorem pe_stepL {e ek : Expr} {te tk : TE} {p3 pos : Pos} (he : PE X e te) (hk : PE X ek tk) : PE X (.Subscript e (.Slice none none (some ek) p3) pos) (tStepL X.K te (tPart tk)) := by
  refine ⟨fun pins s σ H Q I h => ?_⟩
  refine Subscript_ (thn (he.run pins s σ H _ I h) fun v s1 ⟨x, H1, I1, r1, q1⟩ => ?_)
  have hst : PO X (some ek) (tPart tk) := po_some hk
  refine wpAny_Slice (thn (po_none.run pins s1 σ H1 (fun o H2 => o = none ∧ H2 = H1) I1 ⟨rfl, rfl⟩) fun vl s2 ⟨l, H2, I2, pl, el, e2⟩ => ?_)
  subst el e2
  refine thn (po_none.run pins s2 σ H2 (fun o H3 => o = none ∧ H3 = H2) I2 ⟨rfl, rfl⟩) fun vu s3 ⟨u, H3, I3, pu, eu, e3⟩ => ?_
  subst eu e3
  refine thn (hst.run pins s3 σ H3 _ I3 q1) fun vs s4 ⟨o, H4, I4, ps, a, xs, k, ex, eo, hx, hk, q⟩ => ?_
  subst eo ex
  obtain rfl : v = Value.ref a := r1
  have I5 : Inv X pins σ H4 { s4 with heap := s4.heap.push { cls := .type "slice", data := .fields #[vl, vu, vs] } } := I4.kept (t' := s4.toks) fun b ob q => Heap.get?_push_of_some _ q
  obtain ⟨its, r, ht, hz⟩ := I5.list hx
  have hlen := r.length
  show wpAny (model X.prog X.w) X.A (subscriptTail e (.Slice none none (some ek) p3) (.ref a) (.ref s4.heap.objs.size)) (EP X pins σ Q) X.xe { s4 with heap := s4.heap.push { cls := .type "slice", data := .fields #[vl, vu, vs] } }
  refine tail_any (ops := [.ref a, .ref s4.heap.objs.size]) ht.isList.typeIs (PySem.slot_list_getitem.lookup) ?_ (by with_unfolding_all rfl)
  have hk0 : k ≠ 0 := by rcases hk with h | h <;> rw [h] <;> decide
  refine wpAny_getItem_list_slice ht.isList (Heap.IsSliceOf.new _ vl vu vs) pl pu ps (by simpa using hk0) ?_ (by rw [List.size_toArray]; omega)
  rcases hk with rfl | rfl
  · rw [pick_one]
    refine ⟨.ref _, _, I5.laid (t' := s4.toks) (o := .lst xs) (fun b ob q => Heap.get?_push_of_some _ q) (Nat.le_refl _) ?_, rfl, q _ (I5.hok.fresh (Nat.le_refl _))⟩
    exact ⟨hz, _, 0, r, Heap.get?_push_size _ rfl⟩
  · rw [PySem.W.krv_pick]
    refine ⟨.ref _, _, I5.laid (t' := s4.toks) (o := .lst xs.reverse) (fun b ob q => Heap.get?_push_of_some _ q) (Nat.le_refl _) ?_, rfl, q _ (I5.hok.fresh (Nat.le_refl _))⟩
    exact ⟨by rw [List.length_reverse]; exact hz, _, 0, r.reverse, Heap.get?_push_size _ rfl⟩
/-! ### list.remove of a text -/
def rRemS : V → List V → Hp → VK → Prop := fun x xs H Q => ∃ (l : Addr) (ys : List Str) (k : Str) (j : Nat), x = .ref l ∧ xs = [.str k] ∧ H l = some (.lst (ys.map V.str)) ∧ ys[j]? = some k ∧ (∀ m : Nat, m < j → ys[m]? ≠ some k) ∧ Q .non (upd H l (.lst ((ys.eraseIdx j).map V.str)))
theorem erase_mapS : ∀ (l : List Str) (j : Nat), (l.map V.str).eraseIdx j = (l.eraseIdx j).map V.str
  | [], j => by simp
  | a :: r, 0 => by simp
  | a :: r, j + 1 => by simp [erase_mapS r j]
theorem strs_get {us : List Value} {ys : List Str} (h : StrsAre us ys) {m : Nat} {y : Str} (e : ys[m]? = some y) : ∃ t, us[m]? = some (.str y t) := by
  induction h generalizing m with
  | nil => simp at e
  | cons z t r ih =>
    cases m with
    | zero =>
      have : z = y := by simpa using e
      subst this
      exact ⟨t, rfl⟩
    | succ m => simpa using ih (m := m) (by simpa using e)
theorem mt_removeS : MtM X "list.remove" rRemS := by
  intro pins s σ H x xs v us Q I rx rxs h
  obtain ⟨l, ys, k, j, rfl, rfl, hH, hj, hno, q⟩ := h
  cases rx
  obtain ⟨u, rfl, ru⟩ := rxs.one
  obtain ⟨t, rfl⟩ := ru
  obtain ⟨z, its, n, r, hl, e⟩ := I.lstM hH
  have hi : StrsAre its ys := strs_of_vals r
  rw [List.length_map] at hl z
  have hjn : j < ys.length := (List.getElem?_eq_some_iff.mp hj).1
  have hjl : j < its.toArray.size := by rw [List.size_toArray]; omega
  refine call_meets PySem.F.slot_list_remove ⟨_, e, rfl⟩ PySem.F.entry_list_remove (PySem.F.args_list_remove_2 _ _)
    (MeetsSeq.list_remove l its.toArray n (.str k t) (isStrOf k) (fun y hy => eq_isStrOf k t hi y (by simpa using hy)) j hjl ?_ ?_ (by rw [List.size_toArray]; omega)) ⟨e, ?_⟩
  · obtain ⟨tj, hjt⟩ := strs_get hi hj
    obtain ⟨h1, h2⟩ := List.getElem?_eq_some_iff.mp hjt
    have e1 : its.toArray[j] = .str k tj := by simpa using h2
    rw [e1]
    exact beq_self_eq_true k
  · intro m hm hmj
    have hmn : m < ys.length := by omega
    obtain ⟨tm, hmt⟩ := strs_get hi (List.getElem?_eq_getElem hmn)
    obtain ⟨h1, h2⟩ := List.getElem?_eq_some_iff.mp hmt
    have e1 : its.toArray[m] = .str ys[m] tm := by simpa using h2
    rw [e1]
    refine beq_eq_false_iff_ne.mpr fun e2 => hno m hmj ?_
    rw [List.getElem?_eq_getElem hmn, e2]
  · have rr := r.eraseIdx j
    rw [erase_mapS] at rr
    refine ⟨.non, _, I.lset (its' := its.eraseIdx j) (t' := s.toks) hH e ?_ rr ?_, rfl, q⟩
    · show its.toArray.eraseIdxIfInBounds j = (its.eraseIdx j).toArray
      rw [List.eraseIdxIfInBounds_toArray]
    · rw [List.length_map, List.length_eraseIdx]
      split <;> omega
end
end HX

/-! ### the head's facts and one more Bool -/
namespace He
open PySem PySem.Spec PyProof.Rows L2
def obsX (ex : PySem.W.Frag → Bool) (fa : List Fa) (fn : List DefD) (K : PySem.W.Frag) : AlD := (ex K && (obsD fa fn K).1, (obsD fa fn K).2)
def SaysX (ex : PySem.W.Frag → Bool) (fa : List Fa) (fn : List DefD) (K : PySem.W.Frag) : Prop := obsX ex fa fn K = valD fn
theorem SaysX.both {ex : PySem.W.Frag → Bool} {fa : List Fa} {fn : List DefD} {K : PySem.W.Frag} (h : SaysX ex fa fn K) : ex K = true ∧ SaysD fa fn K := by
  have h0 : obsX ex fa fn K = valD fn := h
  have h1 : (ex K && (obsD fa fn K).1) = true := by
    have e := congrArg Prod.fst h0
    exact e
  have h2 : (obsD fa fn K).2 = (valD fn).2 := by
    have e := congrArg Prod.snd h0
    exact e
  obtain ⟨a, b⟩ := ba h1
  exact ⟨a, Prod.ext b h2⟩
def obsXG (n : Nat) (ex : PySem.W.Frag → Bool) (fa : List Fa) (fn : List DefD) (g : Addr → Option Obj) : AlD := obsX ex fa fn (frG g (asD g n))
def hookX (n : Nat) (ex : PySem.W.Frag → Bool) (fa : List Fa) (fn : List DefD) : PySem.W.Hook where
  α := AlD
  obs := fun s => obsXG n ex fa fn s.heap.get?
  val := fun _ => valD fn
  says := fun _ h => ∃ K : PySem.W.Frag, K.In h ∧ SaysX ex fa fn K
  of := fun _ _ e => ⟨_, frG_in, e⟩
  keeps := fun _ _ _ ⟨K, hK, c⟩ k => ⟨K, PySem.W.Frag.In.keeps hK k, c⟩
theorem obsXG_eq {n : Nat} {ex : PySem.W.Frag → Bool} {fa : List Fa} {fn : List DefD} {g : Addr → Option Obj} {s : Shared} (h : ∀ a, g a = s.heap.get? a) : obsXG n ex fa fn g = (hookX n ex fa fn).obs s := by
  have e : g = s.heap.get? := funext h
  rw [e] <;> rfl
end He

/-! ### the same rules, the fragment named (within a comprehension's block) -/
namespace HX
open PySem PySem.Spec PyProof.Rows L2
section
variable {X : Cx}
theorem pe_fldK (K : PySem.W.Frag) (hK : X.K = K) {e : PySem.Expr} {f : Str} {pos : Pos} {ta : TE} (h : PE X e ta) (hb : attributeBase e f X.env (eval e X.env) = eval e X.env) : PE X (e.Attribute f pos) (tFld K ta f) := by
  subst hK
  exact pe_fld h hb
theorem op_in_seqK (K : PySem.W.Frag) (hK : X.K = K) : OpR X (compareOp .In) (rIn K false) := by
  subst hK
  exact op_in_seq
theorem op_notIn_seqK (K : PySem.W.Frag) (hK : X.K = K) : OpR X (compareOp .NotIn) (rIn K true) := by
  subst hK
  exact op_notIn_seq
theorem sl_listK (K : PySem.W.Frag) (hK : X.K = K) : SlR X (rSlL K) := by
  subst hK
  exact sl_list
theorem sl_tupK (K : PySem.W.Frag) (hK : X.K = K) : SlR X (rSlT K) := by
  subst hK
  exact sl_tup
theorem ix_listK (K : PySem.W.Frag) (hK : X.K = K) : IxR X (rIxL K) := by
  subst hK
  exact ix_list
theorem ix_tupK (K : PySem.W.Frag) (hK : X.K = K) : IxR X (rIxT K) := by
  subst hK
  exact ix_tup
theorem op_catTK (K : PySem.W.Frag) (hK : X.K = K) : OpR X (binaryOp .Add) (rCatT K) := by
  subst hK
  exact op_catT
theorem op_eqDK (K : PySem.W.Frag) (hK : X.K = K) (hu : X.A.units + 64 < cLine) : OpR X (compareOp .Eq) (rEqD K) := by
  subst hK
  exact op_eqD hu
theorem op_neDK (K : PySem.W.Frag) (hK : X.K = K) (hu : X.A.units + 64 < cLine) : OpR X (compareOp .NotEq) (rNeD K) := by
  subst hK
  exact op_neD hu
theorem x_lenLK (K : PySem.W.Frag) (hK : X.K = K) : CallR X (.builtin "len") (xLenL K) := by
  subst hK
  exact x_lenL
theorem pg_tupK (K : PySem.W.Frag) (hK : X.K = K) {pos : Pos} {es : List PySem.Expr} {k : Nat} {t : TGs} {n : Nat} (hc : X.calm = true) (h : PGs X es t) (h1 : (assignEach es X.env).length = n := by rfl) (h2 : (assignEach es X.env).findIdx? (·.1) = none := by rfl) : PG X (.Tuple es k pos) (gTup K n t) := by
  subst hK
  exact pg_tup hc h h1 h2
theorem x_isiK (K : PySem.W.Frag) (hK : X.K = K) : CallR X (.builtin "isinstance") (rIsi K) := by
  subst hK
  exact call_isi
def xDict : List V → Hp → VK → Prop := fun xs H Q => ∃ (a : Addr) (kvs : List (Key × V)), xs = [.ref a] ∧ Rd H a (.dK kvs) ∧ ∀ p, H p = none → Q (.ref p) (upd H p (.dK kvs))
theorem x_dict : CallR X (.type "dict") xDict := call_dictD
def xSortedD : List V → Hp → VK → Prop := fun xs H Q => ∃ (a : Addr) (kvs : List (Key × V)) (ks : List Int), xs = [.ref a] ∧ Rd H a (.dK kvs) ∧ kvs.map (·.1) = ks.map Sum.inl ∧ ks.length < 64 ∧ ∀ (ys : List Int) (p : Addr), ys.Perm ks → ys.Pairwise (· ≤ ·) → H p = none → Q (.ref p) (upd H p (.lst (ys.map V.int)))
theorem x_sortedD (h : X.calm = true) : CallR X (.builtin "sorted") xSortedD := call_sortedDI h
end
end HX

set_option Elab.async false
set_option linter.all false
set_option maxRecDepth 100000
set_option maxHeartbeats 4000000
/-! HXk: sorted(xs, key=f), f a def of the program whose promise is a whole number. -/
namespace HX
open PySem PySem.Spec PyProof.Rows L2
open PySem.W (KeepsBut EachIs)
theorem each_vals {vs : List Value} {xs : List V} (h : EachIs (fun v x => RelV x v) vs xs) : Vals xs vs := by
  induction h with
  | nil => exact .nil
  | cons r _ ih => exact .cons r ih
theorem vals_each {vs : List Value} {xs : List V} (h : Vals xs vs) : EachIs (fun v x => RelV x v) vs xs := by
  induction h with
  | nil => exact .nil
  | cons r _ ih => exact .cons r ih
theorem vals_at {vs : List Value} {xs : List V} (h : Vals xs vs) {j : Nat} {v : Value} (e : vs[j]? = some v) : ∃ x, xs[j]? = some x ∧ RelV x v := by
  induction h generalizing j with
  | nil => simp at e
  | cons r _ ih =>
    cases j with
    | zero => cases e; exact ⟨_, rfl, r⟩
    | succ j => exact ih (j := j) e
theorem each_ints {h : Heap} {kf : V → Int} {vs : List Value} {xs : List V} (e : EachIs (fun v x => ∃ t, v = Value.int (kf x) t) vs xs) : EachIs (fun v d => ∃ as, Reads h v d as) vs (xs.map fun x => PyData.int (kf x)) := by
  induction e with
  | nil => exact .nil
  | cons h1 _ ih =>
    obtain ⟨t, rfl⟩ := h1
    exact .cons ⟨[], .int ..⟩ ih
section
variable {X : Cx} {pins : List (Addr × Obj)} {σ : L2.St} {H : Hp} {s : Shared}
theorem inv_lt_fs (I : L2.Inv X pins σ H s) {b : Addr} (hb : b ∈ X.fs) : b < s.heap.objs.size := by
  obtain ⟨_, o, ho, _⟩ := I.ok.funs.mem hb
  exact Nat.lt_of_lt_of_le (Heap.lt_size ho) I.sz
theorem inv_lt_loc (I : L2.Inv X pins σ H s) : X.env.locals < s.heap.objs.size := by
  obtain ⟨m, ⟨o, _, _, ho, _⟩, _⟩ := I.loc
  exact Heap.lt_size ho
theorem inv_lt_cell (I : L2.Inv X pins σ H s) {x : Str} {c : Addr} (h : X.env.cells.lookup x = some c) : c < s.heap.objs.size := by
  obtain ⟨v, o, ho, _⟩ := I.cell x c h
  exact Heap.lt_size ho
/-- sorted by a key that is a whole number -/
def byKey (kf : V → Int) (xs : List V) : List V := xs.mergeSort fun a b => decide (kf a ≤ kf b)
theorem byKey_len (kf : V → Int) (xs : List V) : (byKey kf xs).length = xs.length := (List.mergeSort_perm _ _).length_eq
theorem sortKey_run {Q : VK} {CX : CXT} {k : Nat} {f : Addr} {fd : FuncData} {p : Str} {sp : Sp} {E : XK} {l : Addr} {xs : List V} {us ws : List Value} {kf : V → Int} (I : L2.Inv X pins σ H s) (r : Vals [.ref l] us) (rz : Vals [.ref f] ws) (hs : SqL X.K H l xs) (hu : X.A.units + 64 < cLine)
    (F : FnOk X.prog X.w X.K X.mg X.base CX k f fd [p] sp) (hr : Room (k + 2) X.A) (hb : L2.Binds X.K fd [p] []) (hx : ∀ s e s', ¬ CX X.stack H s E e s')
    (hsp : ∀ x ∈ xs, sp [x] H (fun v H' => v = .int (kf x) ∧ H' = H) E)
    (q : ∀ a, H a = none → Q (.ref a) (upd H a (.lst (byKey kf xs)))) :
    wpAny (model X.prog X.w) X.A (call (.builtin "sorted") us ([Str.ofString "key"].zip ws)) (EP X pins σ Q) X.xe s := by
  obtain rfl := Vals.ref1 r
  obtain rfl := Vals.ref1 rz
  obtain ⟨its, rv, hl, hz⟩ := I.list hs
  have hlen := rv.length
  have hz' : its.length ≤ sizeLine := by rw [← hlen]; exact hz
  have hcell : ∀ (o : Obj), o.data = .seq #[] 0 → True := fun _ _ => trivial
  refine PySem.W.sorted_of_sort (vs := its) hl.isList hz' (PyProof.Rows.ksk_s1 _ _) (fun _ => PyProof.Rows.ksk_l1 _ _) fun E' => ?_
  show wpAny (model X.prog X.w) X.A.in1.in1 (Builtin.«list.sort» ⟨[.ref (s.heap.objs.size + 1)], [(Str.ofString "key", Value.ref f)]⟩) _ E' _
  rw [PyProof.Rows.ksk_t1]
  have ho := PySem.W.copyHeap_at s.heap its
  have hold : ∀ b o, s.heap.get? b = some o → (PySem.W.copyHeap s.heap its).get? b = some o := fun b o e => PySem.W.copyHeap_old e
  generalize PySem.W.copyHeap s.heap its = h0 at ho hold ⊢
  have hla : s.heap.objs.size ≤ s.heap.objs.size + 1 := Nat.le_succ _
  generalize s.heap.objs.size + 1 = a at ho hla ⊢
  have na0 : ∀ {b o}, s.heap.get? b = some o → b ≠ a := fun {b o} e => Nat.ne_of_lt (Nat.lt_of_lt_of_le (Heap.lt_size e) hla)
  have ha : a < h0.objs.size := Heap.lt_size ho
  obtain ⟨e1, ho1⟩ : ∃ e1, (h0.update a (Obj.mapSeq fun _ => (#[] : Array Value))).get? a = some (seqObj "list" #[] e1) := ⟨_, get?_update_seq ho fun _ => #[]⟩
  have hkS : ((h0.update a (Obj.mapSeq fun _ => (#[] : Array Value))).push (seqObj "tuple" its.toArray 0)).objs.size = h0.objs.size + 1 := by rw [size_push', Heap.size_update]
  unfold ksk_tree
  refine wpAny_bind (listItems_at ho rfl ?_)
  refine wpAny_bind (listUpdate_at ho rfl ?_ (by rw [List.size_toArray]; exact hz') (Nat.zero_le _))
  refine wpAny_bind (seqEpoch_at ho1 rfl ?_)
  refine wpAny_bind (wpAny_newTuple ?_ (by show its.length ≤ _; exact hz'))
  refine wpAny_bind (wpAny_newList ?_ (Nat.zero_le _))
  refine wpAny_holding ?_
  have hp1 : ∀ b o, s.heap.get? b = some o → (((h0.update a (Obj.mapSeq fun _ => (#[] : Array Value))).push (seqObj "tuple" its.toArray 0)).push (seqObj "list" #[] 0)).get? b = some o := fun b o e =>
    Heap.get?_push_of_some _ (Heap.get?_push_of_some _ ((Heap.get?_update_ne _ _ _ _ (na0 e)).trans (hold b o e)))
  have hna : (((h0.update a (Obj.mapSeq fun _ => (#[] : Array Value))).push (seqObj "tuple" its.toArray 0)).push (seqObj "list" #[] 0)).get? a = some (seqObj "list" #[] e1) := Heap.get?_push_of_some _ (Heap.get?_push_of_some _ ho1)
  have hnk : (((h0.update a (Obj.mapSeq fun _ => (#[] : Array Value))).push (seqObj "tuple" its.toArray 0)).push (seqObj "list" #[] 0)).get? ((h0.update a (Obj.mapSeq fun _ => (#[] : Array Value))).push (seqObj "tuple" its.toArray 0)).objs.size = some (seqObj "list" #[] 0) := Heap.get?_push_size _ rfl
  have hka : ((h0.update a (Obj.mapSeq fun _ => (#[] : Array Value))).push (seqObj "tuple" its.toArray 0)).objs.size ≠ a := by rw [hkS]; omega
  have hlk : s.heap.objs.size ≤ ((h0.update a (Obj.mapSeq fun _ => (#[] : Array Value))).push (seqObj "tuple" its.toArray 0)).objs.size := by rw [hkS]; omega
  show wpAny _ _ (ksk_rest a (.ref f) false its.toArray e1 (.ref ((h0.update a (Obj.mapSeq fun _ => (#[] : Array Value))).push (seqObj "tuple" its.toArray 0)).objs.size)) _ _ { s with heap := (((h0.update a (Obj.mapSeq fun _ => (#[] : Array Value))).push (seqObj "tuple" its.toArray 0)).push (seqObj "list" #[] 0)) }
  generalize ((h0.update a (Obj.mapSeq fun _ => (#[] : Array Value))).push (seqObj "tuple" its.toArray 0)).objs.size = kS at hnk hka hlk hkS ⊢
  generalize (((h0.update a (Obj.mapSeq fun _ => (#[] : Array Value))).push (seqObj "tuple" its.toArray 0)).push (seqObj "list" #[] 0)) = h1 at hp1 hna hnk ⊢
  have Ha : H a = none := I.hok.fresh hla
  have Hk : H kS = none := I.hok.fresh hlk
  have I1 : L2.Inv X pins σ H { s with heap := h1, toks := s.toks } := I.kept hp1
  -- the places of both are none of the others
  have la : a ≠ X.env.locals := fun e => absurd (inv_lt_loc I) (by rw [← e]; exact Nat.not_lt.mpr hla)
  have lk : kS ≠ X.env.locals := fun e => absurd (inv_lt_loc I) (by rw [← e]; exact Nat.not_lt.mpr hlk)
  have fa : a ∉ X.fs := fun e => absurd (inv_lt_fs I e) (Nat.not_lt.mpr hla)
  have fk : kS ∉ X.fs := fun e => absurd (inv_lt_fs I e) (Nat.not_lt.mpr hlk)
  have ca : ∀ x c, X.env.cells.lookup x = some c → c ≠ a := fun x c h e => absurd (inv_lt_cell I h) (by rw [e]; exact Nat.not_lt.mpr hla)
  have ck : ∀ x c, X.env.cells.lookup x = some c → c ≠ kS := fun x c h e => absurd (inv_lt_cell I h) (by rw [e]; exact Nat.not_lt.mpr hlk)
  have pa : ∀ p ∈ X.pn ++ pins, p.1 ≠ a := fun p hp => na0 (I.pin p hp).1
  have pk : ∀ p ∈ X.pn ++ pins, p.1 ≠ kS := fun p hp => Nat.ne_of_lt (Nat.lt_of_lt_of_le (Heap.lt_size (I.pin p hp).1) hlk)
  have sa : X.s_0.heap.objs.size ≤ a := Nat.le_trans I.sz hla
  have sk : X.s_0.heap.objs.size ≤ kS := Nat.le_trans I.sz hlk
  unfold ksk_rest
  refine wpAny_bind (wpAny_rule ?_)
  rw [List.forIn_toArray]
  refine wpAny_bind (ksk_fold (fun i s' => ∃ kA e, L2.Inv X pins σ H s' ∧ s'.heap.get? kS = some (seqObj "list" kA e) ∧ s'.heap.get? a = some (seqObj "list" #[] e1) ∧ EachIs (fun v x => ∃ t, v = Value.int (kf x) t) kA.toList (xs.take i)) its 0 _
    ⟨#[], 0, I1, hnk, hna, by rw [List.take_zero]; exact EachIs.nil⟩ ?step ?done)
  case step =>
    rintro j x s' hx' ⟨kA, e, I', nk', na', hk⟩
    simp only [Nat.zero_add] at hk ⊢
    obtain ⟨v, hv, rv'⟩ := vals_at rv hx'
    have hm := List.mem_of_getElem? hv
    have hj : j < xs.length := (List.getElem?_eq_some_iff.mp hv).1
    have hz3 : kA.size ≤ sizeLine := by
      have h1 := hk.length
      rw [Array.length_toList, List.length_take] at h1
      omega
    have I2 : L2.Inv X ((kS, seqObj "list" kA e) :: (a, seqObj "list" #[] e1) :: pins) σ H s' := I'.pins_of fun p hp => by
      rcases List.mem_cons.mp hp with rfl | hp
      · exact ⟨nk', Hk, lk, fk, fun v h => by cases h⟩
      rcases List.mem_cons.mp hp with rfl | hp
      · exact ⟨na', Ha, la, fa, fun v h => by cases h⟩
      · exact I'.pin p (List.mem_append_right _ hp)
    refine wpAny_bind (wpAny_attempt (wpAny_mono (?turn : wpAny (model X.prog X.w) X.A.in1.in1 (call (.ref f) [x]) (fun u s'' => L2.Inv X ((kS, seqObj "list" kA e) :: (a, seqObj "list" #[] e1) :: pins) σ H s'' ∧ ∃ t, u = Value.int (kf v) t) (fun _ _ => False) s') (fun u s'' he => ?_) fun _ _ hF => hF.elim))
    case turn =>
      refine wpAny_call (codeAny_mono (F.run X.A.in1.in1 X.stack s' H ⟨[x], []⟩ [x] [v] _ E hr.in1.in1 I2.env0.in1.in1 (hb s' [x] I2.kIn rfl) (.cons rv' .nil) (hsp v hm)) fun rr s'' hq => ?_)
      cases rr with
      | error ex => exact (hx _ _ _ hq).elim
      | ok fl =>
        cases fl with
        | ret u =>
          obtain ⟨v2, H', I3, r3, rfl, rfl⟩ := I2.after hq
          exact ⟨I3, r3⟩
        | next => exact False.elim hq
        | brk => exact False.elim hq
        | cont => exact False.elim hq
    obtain ⟨I3, t, rfl⟩ := he
    have nk2 := (I3.pin _ (List.mem_append_right _ (List.mem_cons_self ..))).1
    have na2 := (I3.pin _ (List.mem_append_right _ (List.mem_cons_of_mem _ (List.mem_cons_self ..)))).1
    have I4 : L2.Inv X pins σ H s'' := I3.pins_of fun p hp => I3.pin p (List.mem_append_right _ (List.mem_cons_of_mem _ (List.mem_cons_of_mem _ hp)))
    try dsimp only at nk2 na2 ⊢
    have s1 := Heap.SameBut.update s''.heap kS (Obj.mapSeq (·.push (Value.int (kf v) t)))
    obtain ⟨c2, hc2⟩ : ∃ c2, (s''.heap.update kS (Obj.mapSeq (·.push (Value.int (kf v) t)))).get? kS = some (seqObj "list" (kA.push (Value.int (kf v) t)) c2) := ⟨_, get?_update_seq nk2 (·.push (Value.int (kf v) t))⟩
    have ek : xs.take (j + 1) = xs.take j ++ [v] := by rw [List.take_add_one, hv]; simp
    have ea : (kA.push (Value.int (kf v) t)).toList = kA.toList ++ [Value.int (kf v) t] := by simp
    refine wpAny_bind (listUpdate_at nk2 rfl ?_ hz3 (Nat.le_trans (Nat.le_of_eq (Array.size_push ..)) (Nat.succ_le_succ hz3)))
    have I5 : L2.Inv X pins σ H { s'' with heap := s''.heap.update kS (Obj.mapSeq (·.push (Value.int (kf v) t))), toks := s''.toks } :=
      I4.turned (it := kS) (fun b o hb e => (s1.2 b hb).trans e) Hk lk (.inr sk) ck pk
    refine wpAny_pure ⟨rfl, kA.push (Value.int (kf v) t), c2, I5, hc2, (s1.2 a hka.symm).trans na2, ?_⟩
    rw [ea, ek]
    exact PySem.W.each_snoc ⟨t, rfl⟩ hk
  case done =>
    rintro s' ⟨kA, e, I', nk', na', hk⟩
    have hk' : EachIs (fun v d => ∃ as, Reads s'.heap v d as) kA.toList (xs.map fun x => PyData.int (kf x)) := by
      have e3 : xs.take (0 + its.length) = xs := List.take_of_length_le (by omega)
      rw [e3] at hk
      exact each_ints hk
    have hsz : kA.size = its.length := by
      have h1 := hk'.length
      rw [Array.length_toList, List.length_map] at h1
      omega
    have hal : PySem.W.AllAlike (xs.map fun x => PyData.int (kf x)) := fun d hd d' hd' => by
      obtain ⟨x, _, rfl⟩ := List.mem_map.mp hd
      obtain ⟨y, _, rfl⟩ := List.mem_map.mp hd'
      rfl
    have hsk : PySem.W.Sortable (xs.map fun x => PyData.int (kf x)) := .inr fun d hd => by
      obtain ⟨x, _, rfl⟩ := List.mem_map.mp hd
      exact ⟨by simp, by simp⟩
    have hub : ∀ d, d ∈ xs.map (fun x => PyData.int (kf x)) → X.A.in1.in1.units + d.depth < cLine := fun d hd => by
      obtain ⟨x, _, rfl⟩ := List.mem_map.mp hd
      show X.A.units + 1 + 1 + (PyData.int (kf x)).depth < cLine
      have : (PyData.int (kf x)).depth = 0 := by simp [PyData.depth]
      omega
    obtain ⟨G, g1, g2⟩ := restrict s'.heap fun b => decide (b ≠ kS)
    have gk : G.get? kS = none := g2 kS (by simp)
    have kp : KeepsBut a G s'.heap := fun b o _ e => by
      by_cases hb : b = kS
      · rw [hb, gk] at e; cases e
      · rw [← g1 b (by simpa using hb)]; exact e
    try dsimp only
    refine wpAny_bind (listItems_at nk' rfl ?_)
    refine PySem.W.keyH_end (κ := PySem.W.dataKind s'.heap (xs.map fun x => PyData.int (kf x))) (h₁ := G) kp gk nk' na' hka (PySem.W.SortsAt.data (s := s') hk' hal hsk hub) hsz hz' fun h3 tk3 c k3 n3 => ?_
    have ko : PySem.W.KeyedOut false (xs.map fun x => PyData.int (kf x)) its (PySem.W.sortVals (PySem.W.dataKind s'.heap (xs.map fun x => PyData.int (kf x))) false kA.toList its) := ⟨s'.heap, kA.toList, hal, rfl, hk'⟩
    have eo := PySem.W.keyedOut_each (fun x => PyData.int (kf x)) ko (vals_each rv)
    rw [PySem.W.dataLe_int] at eo
    have ev := each_vals eo
    generalize PySem.W.sortVals (PySem.W.dataKind s'.heap (xs.map fun x => PyData.int (kf x))) false kA.toList its = out at n3 ev
    have hl3 : (byKey kf xs).length ≤ sizeLine := by rw [byKey_len]; exact hz
    have keepG : ∀ b o, b ≠ kS → b ≠ a → s'.heap.get? b = some o → h3.get? b = some o := fun b o h1 h2 e => k3 b o h2 ((g1 b (by simpa using h1)).trans e)
    have nch : ∀ b, b ∉ ([kS, a] : List Addr) → b ≠ kS ∧ b ≠ a := fun b h => ⟨fun e => h (by simp [e]), fun e => h (by simp [e])⟩
    have hne : ∀ b o, H b = some o → b ≠ kS ∧ b ≠ a := fun b o e => ⟨fun z => (by rw [z, Hk] at e; cases e), fun z => (by rw [z, Ha] at e; cases e)⟩
    refine ⟨rfl, .ref a, upd H a (.lst (byKey kf xs)), ?_, rfl, q a Ha⟩
    refine I'.step (g' := s'.gens) (d' := s'.drawn) (t' := tk3) (ch := [kS, a]) (fun b hb => ?_) (fun b o _ _ hc e _ => keepG b o (nch b hc).1 (nch b hc).2 e) (fun b o _ _ hc e _ => ⟨o.slots, keepG b o (nch b hc).1 (nch b hc).2 e⟩)
      (fun b o hc _ n => by rw [upd_ne (nch b hc).2]; exact n) (fun b o hc e => ⟨o, keepG b o (nch b hc).1 (nch b hc).2 e⟩)
      (fun b ys e => by rw [upd_ne (hne b _ e).2]; exact e) (fun b o u e => by rw [upd_ne (hne b _ e).2]; exact e) (fun b ps e => ⟨#[], by rw [upd_ne (hne b _ e).2, e]; simp⟩) (fun m hm => ?_) (fun b u e => ?_) I'.bare
    · simp only [List.mem_cons, List.not_mem_nil, or_false] at hb
      rcases hb with rfl | rfl
      · exact ⟨.inr sk, lk, ck, pk⟩
      · exact ⟨.inr sa, la, ca, pa⟩
    · obtain ⟨o, es, ep, ho, r⟩ := hm
      exact ⟨o, es, ep, keepG _ o lk.symm la.symm ho, r⟩
    · by_cases hb : b = a
      · subst hb
        rw [upd_same] at e
        cases e
        exact ⟨hl3, out, c, ev, n3⟩
      · rw [upd_ne hb] at e
        have nb := hne b u e
        refine (I'.hok b u e).stay (fun c' v hc q => keepG c' v ?_ ?_ q) (fun c' q => ?_) fun c' xs q => ?_
        · rcases hc with z | z
          · rw [z]; exact nb.1
          · exact (hne c' _ z).1
        · rcases hc with z | z
          · rw [z]; exact nb.2
          · exact (hne c' _ z).2
        · rw [upd_ne (hne c' _ q).2]; exact q
        · rw [upd_ne (hne c' _ q).2]; exact q
end
end HX
namespace HX
open PySem PySem.Spec PyProof.Rows L2
section
variable {X : Cx}
def xSortKey (K : PySem.W.Frag) (f : Addr) (sp : Sp) : List V → List V → Hp → VK → Prop := fun xs zs H Q => ∃ l ys kf, xs = [.ref l] ∧ zs = [.ref f] ∧ SqL K H l ys ∧ (∀ y ∈ ys, sp [y] H (fun v H' => v = .int (kf y) ∧ H' = H) E0) ∧ ∀ a, H a = none → Q (.ref a) (upd H a (.lst (byKey kf ys)))
theorem cr_sortKeyF {k : Nat} {f : Addr} {fd : FuncData} {p : Str} {sp : Sp} (F : FnOk X.prog X.w X.K X.mg X.base CX0 k f fd [p] sp) (hr : Room (k + 2) X.A) (hb : L2.Binds X.K fd [p] []) (hu : X.A.units + 64 < cLine) : CallRK X (.builtin "sorted") [Str.ofString "key"] (xSortKey X.K f sp) := by
  intro pins s σ H vs zs us ws Q I r rz h
  obtain ⟨l, ys, kf, rfl, rfl, hs, hsp, q⟩ := h
  exact sortKey_run I r rz hs hu F hr hb (fun _ _ _ h => h) hsp q
theorem i_ckw {r : List V → List V → Hp → VK → Prop} {t tk : TA} {σ : L2.St} {H : Hp} {Q : VK} (q : t σ H fun vs H1 => tk σ H1 fun zs H2 => r vs zs H2 Q) : tCKw r t tk σ H Q := q
end
end HX

set_option Elab.async false
set_option linter.all false
set_option maxRecDepth 100000
set_option maxHeartbeats 4000000
/-! HXj: any(test for x in xs) over a list of anything, the test by rules of its own; the def's table is held as a thing of which only this is known: it is a table. -/
namespace AnyL
open PySem PySem.Spec PyProof.Rows L2
/-- the table at P, whatever it holds -/
def TabO (P : Addr) : HO := .ext fun h => ∃ ps : Array Value, h.get? P = some { cls := .none, data := .fields ps } ∧ TriplesOk ps.toList
section
variable {X : Cx} {pins : List (Addr × Obj)} {σ : L2.St} {H : Hp} {s : Shared} {P : Addr}
theorem tabO_get {pr : Program} {w : World} {h : Heap} (hok : HOk pr w H h) (hP : H P = some (TabO P)) : ∃ ps : Array Value, h.get? P = some { cls := .none, data := .fields ps } ∧ TriplesOk ps.toList :=
  (show ObjOk pr w H h P (.ext _) from hok P _ hP).1
theorem tabO_ok {pr : Program} {w : World} {h : Heap} {ps : Array Value} (e : h.get? P = some { cls := .none, data := .fields ps }) (t : TriplesOk ps.toList) : ObjOk pr w H h P (TabO P) :=
  ⟨⟨ps, e, t⟩, ⟨_, e⟩, fun h1 h2 ⟨qs, e1, t1⟩ k => ⟨qs, k _ e1, t1⟩⟩
/-- the table may have grown, all else is kept -/
theorem hok_tab {pr : Program} {w : World} {h h' : Heap} (hok : HOk pr w H h) (hP : H P = some (TabO P)) (k : ∀ b o, b ≠ P → h.get? b = some o → h'.get? b = some o)
    (hm : ∃ ps : Array Value, h'.get? P = some { cls := .none, data := .fields ps } ∧ TriplesOk ps.toList) : HOk pr w H h' := fun b u e => by
  by_cases hb : b = P
  · subst hb
    rw [hP] at e
    cases e
    obtain ⟨ps, e1, t1⟩ := hm
    exact tabO_ok e1 t1
  · refine (hok b u e).stay (fun d v hd q => k d v ?_ q) (fun _ q => q) fun _ _ q => q
    rcases hd with z | z
    · rw [z]; exact hb
    · intro c
      rw [c, hP] at z
      cases z
theorem inv_tabO {h' : Heap} {g' : Array GenState} {d' : Drawn} {t' : Nat} (I : Inv X pins σ H s) (hP : H P = some (TabO P)) (k : ∀ b o, b ≠ P → s.heap.get? b = some o → h'.get? b = some o)
    (hm : ∃ ps : Array Value, h'.get? P = some { cls := .none, data := .fields ps } ∧ TriplesOk ps.toList) (hg : AllBare g') :
    Inv X pins σ H { s with heap := h', gens := g', drawn := d', toks := t' } := by
  have nN : ∀ b, H b = none → b ≠ P := fun b e z => by
    rw [z, hP] at e
    cases e
  refine I.step (g' := g') (d' := d') (ch := []) (fun b hb => absurd hb (by simp)) (fun b o _ _ _ e n => k b o (nN b n) e) (fun b o _ _ _ e n => ⟨o.slots, k b o (nN b n) e⟩)
    (fun b o _ e n => n) (fun b o _ e => ?_) (fun b xs e => e) (fun b o u e => e) (fun b qs e => ⟨#[], by simpa using e⟩) (fun m hn => ?_) (hok_tab I.hok hP k hm) hg
  · by_cases hb : b = P
    · obtain ⟨ps, e1, _⟩ := hm
      rw [hb]
      exact ⟨_, e1⟩
    · exact ⟨o, k b o hb e⟩
  · obtain ⟨ob, es, ep, ho, r⟩ := hn
    exact ⟨ob, es, ep, k _ ob (nN _ I.free) ho, r⟩
end
/-! ### the test of an element -/
abbrev TV : Type := L2.St → V → Hp → (V → Prop) → Prop
/-- what the generator's frame sees -/
structure Sees (X : Cx) (σ : L2.St) (scope : Scope) (x : Str) (H : Hp) (cenv : Env) (s : Shared) (m : Str → Option Value) (v : V) : Prop where
  sc : cenv.scope = scope
  cl : cenv.cells = cloFrom X.env.cells scope.names []
  hok : HOk X.prog X.w H s.heap
  kin : X.K.In s.heap
  cap : ∀ (i : Nat) (y : Str) (z : V), X.N[i]? = some y → σ[i]? = some (some z) → X.env.kindOf y = some .cell → ∃ c u, X.env.cells.lookup y = some c ∧ s.heap.IsCell c (some u) ∧ RelV z u
  ns : s.heap.Ns cenv.locals m
  at_ : ∃ u, m x = some u ∧ RelV v u
theorem ns_keeps {h h' : Heap} {a : Addr} {m : Str → Option Value} (n : h.Ns a m) (k : ∀ b o, h.get? b = some o → h'.get? b = some o) : h'.Ns a m := by
  obtain ⟨ob, es, ep, ho, r⟩ := n
  exact ⟨ob, es, ep, k _ _ ho, r⟩
theorem keeps_trans {a b c : Shared} (h1 : Keeps a b) (h2 : Keeps b c) : Keeps a c := by
  obtain ⟨h', k, rfl, e⟩ := h1
  obtain ⟨h'', k2, rfl, e2⟩ := h2
  exact ⟨h'', k2, rfl, fun b o q => e2 b o (e b o q)⟩
section
variable {X : Cx} {σ : L2.St} {scope : Scope} {x : Str} {H : Hp} {cenv : Env} {s s' : Shared} {m : Str → Option Value} {v : V}
theorem Sees.keeps (h : Sees X σ scope x H cenv s m v) (k : Keeps s s') : Sees X σ scope x H cenv s' m v := by
  obtain ⟨h', k2, rfl, e⟩ := k
  refine ⟨h.sc, h.cl, h.hok.kept e, h.kin.keeps e, fun i y z e1 e2 e3 => ?_, ns_keeps h.ns e, h.at_⟩
  obtain ⟨c, u, a1, ⟨ob, a2, a3⟩, a4⟩ := h.cap i y z e1 e2 e3
  exact ⟨c, u, a1, ⟨ob, e _ _ a2, a3⟩, a4⟩
/-- an expression within the generator: its value by t -/
structure EE (X : Cx) (scope : Scope) (x : Str) (e : Expr) (t : TV) : Prop where
  run : ∀ (σ : L2.St) (H : Hp) (cenv : Env) (A' : Around) (E' : Value → Shared → Prop) (s : Shared) (m : Str → Option Value) (v : V) (q : V → Prop), Sees X σ scope x H cenv s m v → t σ v H q →
    wpAny (model X.prog X.w) A' (eval e cenv) (fun y s₃ => (∃ z, RelV z y ∧ q z) ∧ Keeps s s₃) E' s
def eX : TV := fun _ v _ q => q v
def eVar (i : Nat) : TV := fun σ _ _ q => ∃ z, σ[i]? = some (some z) ∧ q z
def eFld (K : PySem.W.Frag) (t : TV) (f : Str) : TV := fun σ v H q => t σ v H fun z => ∃ a C dx fs y, z = .ref a ∧ H a = some (.ins C dx fs) ∧ Cls K C ∧ NoAttr K C f ∧ fs.lookup f = some y ∧ q y
def eIn (K : PySem.W.Frag) (b : Bool) (t u : TV) : TV := fun σ v H q => t σ v H fun z => u σ v H fun y => ∃ p xs, y = .ref p ∧ SqL K H p xs ∧ flatV z = true ∧ xs.all flatV = true ∧ q (.bl (if b = true then !inV z xs else inV z xs))
def eAnd (t u : TV) : TV := fun σ v H q => t σ v H fun z => ∃ b, z = .bl b ∧ if b = true then u σ v H q else q (.bl false)
variable {e a b : Expr} {t u : TV} {p1 pos : Pos} {f : Str}
theorem ee_x (hk : scope.kind = .function) (hl : scope.names.lookup x = some .local) (hd : (x == ("__debug__" : Str)) = false := by decide) : EE X scope x (.Name x p1) eX := by
  refine ⟨fun σ H cenv A' E' s m v q h ht => ?_⟩
  obtain ⟨u, e1, r⟩ := h.at_
  refine wpAny_Name (wpAny_loadName_local (by rw [h.sc]; exact hk) (show cenv.scope.names.lookup x = some .local by rw [h.sc]; exact hl) h.ns e1 ?_) hd
  exact ⟨⟨v, r, ht⟩, GxR.keeps_refl _⟩
theorem ee_var {i : Nat} {y : Str} (hk : scope.kind = .function) (hN : X.N[i]? = some y) (hc : X.env.kindOf y = some .cell) (hl : scope.names.lookup y = some .free)
    (hcl : ∀ c, X.env.cells.lookup y = some c → (cloFrom X.env.cells scope.names []).lookup y = some c) (hd : (y == ("__debug__" : Str)) = false := by decide) (hcd : (y == ("__classdict__" : Str)) = false := by decide) : EE X scope x (.Name y p1) (eVar i) := by
  refine ⟨fun σ H cenv A' E' s m v q h ⟨z, e1, ht⟩ => ?_⟩
  obtain ⟨c, u, a1, a2, a3⟩ := h.cap i y z hN e1 hc
  refine wpAny_Name (wpAny_loadName_free (by rw [h.sc]; exact hk) (show cenv.scope.names.lookup y = some .free by rw [h.sc]; exact hl) (by rw [h.cl]; exact hcl c a1) a2 ?_ hcd) hd
  exact ⟨⟨z, a3, ht⟩, GxR.keeps_refl _⟩
theorem ee_fld (he : EE X scope x e t) (hb : ∀ cenv : Env, attributeBase e f cenv (eval e cenv) = eval e cenv) : EE X scope x (.Attribute e f pos) (eFld X.K t f) := by
  refine ⟨fun σ H cenv A' E' s m v q h ht => attr_of (hb cenv) ?_⟩
  refine wpAny_mono (he.run σ H cenv A' E' s m v _ h ht) (fun y s1 hy => ?_) fun _ _ e => e
  obtain ⟨⟨z, rz, a, C, dx, fs, w, rfl, ha, c, n, l, hq⟩, kp⟩ := hy
  obtain rfl : y = Value.ref a := rz
  have h1 := h.keeps kp
  obtain ⟨mA, O, r, _, _, _⟩ := ins_get h1.hok ha
  obtain ⟨u, hu, ru⟩ := RelO.some_of (v := w) (o := mA f) (by rw [← l]; exact r f)
  exact get_map h1.kin O (c.get f) c.hd n hu (handed_of ru) ⟨⟨w, ru, hq⟩, keeps_trans kp (GxR.keeps_tok _ _)⟩
theorem ee_in {op : CmpOp} {bb : Bool} (hop : op = if bb = true then .NotIn else .In) (ha : EE X scope x a t) (hb : EE X scope x b u) (hm : behindInMarks op b = false) : EE X scope x (.Compare a [op] [b] pos) (eIn X.K bb t u) := by
  refine ⟨fun σ H cenv A' E' s m v q h ht => wpAny_Compare1 ?_ hm⟩
  refine wpAny_mono (ha.run σ H cenv A' E' s m v _ h ht) (fun y s1 hy => ?_) fun _ _ e => e
  obtain ⟨⟨z, rz, hu⟩, k1⟩ := hy
  have h1 := h.keeps k1
  refine wpAny_mono (hb.run σ H cenv A' E' s1 m v _ h1 hu) (fun y2 s2 hy2 => ?_) fun _ _ e => e
  obtain ⟨⟨z2, rz2, p, xs, rfl, hp, fz, fx, hq⟩, k2⟩ := hy2
  obtain rfl : y2 = Value.ref p := rz2
  have h2 := h1.keeps k2
  have k12 := keeps_trans k1 k2
  obtain ⟨its, r, pl⟩ : ∃ its : List Value, Vals xs its ∧ s2.heap.IsList p its.toArray := by
    rcases hp with hp | ⟨o, its, n, hk, hc, hd, hs, hz, r⟩
    · obtain ⟨z, its, n, r, e⟩ := hp.ok h2.hok
      exact ⟨its, r, PlainL.isList ⟨_, n, e, rfl, rfl, rfl⟩⟩
    · exact ⟨its.toList, r, PlainL.isList ⟨o, n, h2.kin p o hk, hc, hd, by simpa using hs⟩⟩
  subst hop
  cases bb with
  | false =>
    refine SeqAt.in_listAt (eqU z) pl (fun w hw => mem_eqAt rz fz r fx w (by simpa using hw)) ?_
    rw [show its.toArray.any (eqU z) = its.any (eqU z) by simp, any_eqU r fx]
    exact ⟨⟨.bl _, rfl, hq⟩, k12⟩
  | true =>
    refine SeqAt.notIn_listAt (eqU z) pl (fun w hw => mem_eqAt rz fz r fx w (by simpa using hw)) ?_
    rw [show its.toArray.any (eqU z) = its.any (eqU z) by simp, any_eqU r fx]
    exact ⟨⟨.bl _, rfl, hq⟩, k12⟩
theorem ee_and {rest : List Expr} (ha : EE X scope x a t) (hb : EE X scope x (.BoolOp .And (b :: rest) pos) u) : EE X scope x (.BoolOp .And (a :: b :: rest) pos) (eAnd t u) := by
  refine ⟨fun σ H cenv A' E' s m v q h ht => BoolOp_and ?_⟩
  refine wpAny_mono (ha.run σ H cenv A' E' s m v _ h ht) (fun y s1 hy => ?_) fun _ _ e => e
  obtain ⟨⟨z, rz, bb, rfl, hq⟩, k1⟩ := hy
  cases rz
  refine wpAny_truthy_bool ?_
  cases bb with
  | true =>
    refine wpAny_mono (hb.run σ H cenv A' E' s1 m v _ (h.keeps k1) hq) (fun y s2 hy => ⟨hy.1, keeps_trans k1 hy.2⟩) fun _ _ e => e
  | false => exact ⟨⟨.bl false, rfl, hq⟩, k1⟩
theorem ee_one {op : BoolOp} (ha : EE X scope x a t) : EE X scope x (.BoolOp op [a] pos) t :=
  ⟨fun σ H cenv A' E' s m v q h ht => BoolOp_one (ha.run σ H cenv A' E' s m v q h ht)⟩
end
/-! ### the generator -/
section
variable {X : Cx} {pins : List (Addr × Obj)} {σ : L2.St} {H : Hp} {s : Shared}
def trV (pb : V → Bool) (l : List V) (j : Nat) : Bool := match l[j]? with
  | some b => pb b
  | none => false
theorem trV_some {pb : V → Bool} {l : List V} {j : Nat} {b : V} (h : l[j]? = some b) : trV pb l j = pb b := by
  unfold trV
  rw [h]
theorem any_trV (l : List V) (pb : V → Bool) : (List.range l.length).any (trV pb l) = l.any pb := by
  rw [Bool.eq_iff_iff, List.any_eq_true, List.any_eq_true]
  constructor
  · intro ⟨j, hj, h⟩
    have hj' := List.mem_range.mp hj
    rw [trV_some (List.getElem?_eq_getElem hj')] at h
    exact ⟨l[j], List.getElem_mem hj', h⟩
  · intro ⟨b, hb, h⟩
    obtain ⟨j, hj, e⟩ := List.getElem_of_mem hb
    refine ⟨j, List.mem_range.mpr hj, ?_⟩
    rw [trV_some (List.getElem?_eq_getElem hj), e]
    exact h
/-- the generator g over xs, ready to be walked, in the state s5 -/
def Ready (X : Cx) (pins : List (Addr × Obj)) (σ : L2.St) (H1 : Hp) (xs : List V) (pb : V → Bool) (g : Addr) (s5 : Shared) : Prop :=
  ∃ (fp wr : List Addr) (G : Array GenState → Array GenState → Prop) (F : Nat → Value → Prop) (St : Nat → Shared → Prop),
    WalksS X.prog X.w X.A.in1 g fp wr G xs.length F St ∧ St 0 s5 ∧ TruthOf X.prog X.w X.A.in1 F (trV pb xs) ∧ ∀ s', Moved wr G s5 s' → Inv X pins σ H1 s'
theorem gen_any {c P : Addr} {elt iter : Expr} {x : Str} {px gpos : Pos} {scope : Scope} {t : TV} {te : TE} {k : Nat} {Q' : Value → Shared → Prop} {R : List V → (V → Bool) → Hp → Prop}
    (hr : Room k X.A) (TB : GxR.TabB X.base X.mg c P) (hcode : X.env.code = .ref c) (S : GxR.GenS X.env scope x) (hi : PE X iter te) (hel : EE X scope x elt t)
    (hs : ∀ v, genFold iter X.env v = pure v) (I : Inv X pins σ H s)
    (h : te σ H fun v H1 => ∃ (yl : Addr) (xs : List V) (pb : V → Bool), v = .ref yl ∧ SqL X.K H1 yl xs ∧ H1 P = some (TabO P) ∧ (∀ z ∈ xs, t σ z H1 fun w => w = .bl (pb z)) ∧ R xs pb H1)
    (hv : ∀ (i : Nat) (y : Str), X.N[i]? = some y → X.env.kindOf y = some .cell → Vis X.env.scope y)
    (hQ : ∀ xs pb H1 g s5, R xs pb H1 → Ready X pins σ H1 xs pb g s5 → Q' (.ref g) s5) :
    wpAny (model X.prog X.w) X.A (eval (.GeneratorExp elt [⟨.Name x px, iter, [], 0⟩] scope gpos) X.env) Q' X.xe s := by
  refine wpAny_GeneratorExp_walksQ hr.hd S.co (closure_ok S.free) S.cell S.dot S.loc S.kind (by have := hr.dp; omega) ?_ hs
  refine thn (hi.run pins s σ H _ I h) fun xv s1 ⟨v, H1, I1, r1, q1⟩ => ?_
  obtain ⟨yl, xs, pb, rfl, hyl, hP, hel1, q1⟩ := q1
  obtain rfl : xv = Value.ref yl := r1
  obtain ⟨its, rv, hl, hz⟩ := I1.list hyl
  have hIL := hl.isList
  have hlen : its.length = xs.length := rv.length.symm
  obtain ⟨ps, hPs, ht⟩ := tabO_get I1.hok hP
  have hPlt : P < s1.heap.objs.size := Heap.lt_size hPs
  have hylt : yl < s1.heap.objs.size := by
    obtain ⟨_, e, _⟩ := _root_.id hIL
    exact Heap.lt_size e
  have hylP : yl ≠ P := fun z => by
    obtain ⟨_, e, _, _, hd1⟩ := _root_.id hIL
    rw [z, hPs] at e
    cases e
    cases hd1
  have hcl : cStatics < s1.heap.objs.size := let ⟨_, hns, _⟩ := I1.nolimit; hns.lt
  have hcP : cStatics ≠ P := fun e => by
    obtain ⟨_, hns, _⟩ := I1.nolimit
    obtain ⟨o', es, ep, ho, hd, _⟩ := hns
    rw [e, hPs] at ho
    cases ho
    cases hd
  -- what is captured stands in cells
  have cap1 : ∀ (i : Nat) (y : Str) (z : V), X.N[i]? = some y → σ[i]? = some (some z) → X.env.kindOf y = some .cell → ∃ c u, X.env.cells.lookup y = some c ∧ s1.heap.IsCell c (some u) ∧ RelV z u := by
    intro i y z e1 e2 e3
    obtain ⟨m, _, hlk⟩ := I1.loc
    obtain ⟨u, ru, lk⟩ := hlk i y z e1 e2 (hv i y e1 e3)
    rcases lk with ⟨q, _⟩ | ⟨_, c, hc, hcell⟩
    · rw [e3] at q; cases q
    · exact ⟨c, u, hc, hcell, ru⟩
  refine wpAny_pyIter_list hIL ?_
  generalize ho : ({ cls := .type "list_iterator", data := .fields #[.ref yl, .int 0 0] } : Obj) = o
  have hitr : (s1.heap.push o).IsListIter s1.heap.objs.size yl 0 := by
    subst ho
    exact ⟨_, Heap.get?_push_size _ rfl, rfl, rfl⟩
  have hP2 : (s1.heap.push o).get? P = some { cls := .none, data := .fields ps } := Heap.get?_push_of_some _ hPs
  have cd : PySem.W.CodeHd (s1.heap.push o) c P := TB.code.keeps fun b u e => Heap.get?_push_of_some _ (I1.bk b u e)
  have lim2 : (s1.heap.push o).NoLimit := I1.nolimit.push o
  have sz2 : (s1.heap.push o).objs.size = s1.heap.objs.size + 1 := Heap.size_push ..
  have cont : ∀ (code : Value) (h3 : Heap) (tk : Nat) (ps' : Array Value), Heap.ExtBut P (s1.heap.push o) h3 → (s1.heap.push o).objs.size ≤ h3.objs.size → h3.get? P = some { cls := .none, data := .fields ps' } → TriplesOk ps'.toList →
      wpAny (model X.prog X.w) X.A (builtinsFor X.env.globals X.env.builtins) (fun bi s₄ =>
        ∃ Ia fp wr n₀ Pf St₀ pz F, Value.ref s1.heap.objs.size = .ref Ia ∧ (∀ A' : Around, A'.handled = none → Walks X.prog X.w A' Ia fp wr n₀ Pf St₀) ∧ St₀ 0 s₄.heap ∧ (∀ b ∈ fp, b < s₄.heap.objs.size) ∧ s₄.heap.NoLimit ∧ cStatics ∉ wr ∧
          (∀ href : Heap, (∀ b o, s₄.heap.get? b = some o → href.get? b = some o) →
            QuietGen X.prog X.w (genEnv scope (cloFrom X.env.cells scope.names []) s₄.heap.objs.size code bi X.env) x [] elt (List.range s₄.heap.objs.size) wr Pf pz F href) ∧
          (∀ a h₅ tk gs, gs.bare = true → s₄.heap.objs.size < a → h₅.objs.size = a + 1 → (∀ b o, s₄.heap.get? b = some o → h₅.get? b = some o) →
            WalksS X.prog X.w X.A.in4 a (a :: s₄.heap.objs.size :: List.range s₄.heap.objs.size) (s₄.heap.objs.size :: wr) (GenOnlyQ s₄.gens.size) (passing pz n₀ 0).length
              (fun j y => ∃ i, (passing pz n₀ 0)[j]? = some i ∧ F i y) (GenAt X.prog X.w X.A.in4 a s₄.gens.size s₄.heap.objs.size (List.range s₄.heap.objs.size) wr pz n₀ F) →
            GenAt X.prog X.w X.A.in4 a s₄.gens.size s₄.heap.objs.size (List.range s₄.heap.objs.size) wr pz n₀ F 0 { s₄ with gens := s₄.gens.push gs, toks := tk, heap := h₅ } →
            Q' (.ref a) { s₄ with gens := s₄.gens.push gs, toks := tk, heap := h₅ })) X.xe { s1 with heap := h3, toks := tk } := by
    intro code h3 tk ps' hx hsz hP3 ht3
    obtain ⟨bm, ob, e1, e2, e3, e4, e5, e6, e7, e8⟩ := TB.bm
    have keep3 : ∀ b u, b ≠ P → s1.heap.get? b = some u → h3.get? b = some u := fun b u hb e => hx b u hb (Heap.get?_push_of_some _ e)
    have hIL3 : h3.IsList yl its.toArray := by
      obtain ⟨ob, e, r⟩ := _root_.id hIL
      exact ⟨ob, keep3 _ _ hylP e, r⟩
    have hItr3 : h3.IsListIter s1.heap.objs.size yl 0 := hitr.at fun u e => hx _ u (Nat.ne_of_gt hPlt) e
    refine wpAny_builtinsFor (m := X.mg) (by rw [I1.ok.glob]; exact ((I1.mod.glob.keeps I1.bk).push o).extBut hx TB.gP) e1 e2 (keep3 _ _ e4 (I1.bk _ _ e5)) e6 e7 e8 ?_
    refine ⟨s1.heap.objs.size, [s1.heap.objs.size, yl], [s1.heap.objs.size], its.toArray.size, (fun i v => its.toArray[i]? = some v), (fun i h => h.IsListIter s1.heap.objs.size yl i ∧ h.IsList yl its.toArray), (fun _ => true),
      (fun i y => ∃ z, xs[i]? = some z ∧ y = .bool (pb z)), rfl, (fun A' hA => Walks.list hA _ _ (Nat.ne_of_lt hylt) _), ⟨hItr3, hIL3⟩, ?_, lim2.extBut hx hcP, ?_, ?_, ?_⟩
    · intro b hb
      rcases List.mem_cons.mp hb with z | z
      · rw [z]
        show s1.heap.objs.size < h3.objs.size
        omega
      · rw [List.mem_singleton.mp z]
        show yl < h3.objs.size
        have e9 : s1.heap.objs.size ≤ h3.objs.size := by omega
        exact Nat.lt_of_lt_of_le hylt e9
    · intro z
      exact Nat.ne_of_lt hcl (List.mem_singleton.mp z)
    · intro href hhref
      refine ⟨fun A' E' i v s₂ m₂ hA hPv hn hm hk => ?_, fun A' E' i v s₂ m₂ hA hPv hp hn hm hk => ?_⟩
      · simp only [List.forIn_nil]
        exact wpAny_pure ⟨rfl, GxR.keeps_refl _⟩
      · have hv2 : its[i]? = some v := by simpa using hPv
        have hi2 : i < xs.length := by
          have := (List.getElem?_eq_some_iff.mp hv2).1
          omega
        obtain ⟨z, hz1⟩ : ∃ z, xs[i]? = some z := ⟨xs[i], List.getElem?_eq_getElem hi2⟩
        obtain ⟨u, hu, ru⟩ := rv.get hz1
        rw [hv2] at hu
        cases hu
        -- all that stood before is as it was, the table a table
        have at3 : ∀ b o, h3.get? b = some o → b ≠ s1.heap.objs.size → s₂.heap.get? b = some o := fun b o e hb => hk b (List.mem_range.mpr (Heap.lt_size e)) (fun c => hb (List.mem_singleton.mp c)) o (hhref b o e)
        have at1 : ∀ b o, b ≠ P → s1.heap.get? b = some o → s₂.heap.get? b = some o := fun b o hb e => at3 b o (keep3 b o hb e) (fun c => by
          have := Heap.lt_size e
          rw [c] at this
          exact absurd this (Nat.lt_irrefl _))
        have hP4 : s₂.heap.get? P = some { cls := .none, data := .fields ps' } := at3 P _ hP3 (Nat.ne_of_lt hPlt)
        have sees : Sees X σ scope x H1 (genEnv scope (cloFrom X.env.cells scope.names []) h3.objs.size code builtinsNs X.env) s₂ m₂ z := by
          refine ⟨rfl, rfl, hok_tab I1.hok hP at1 ⟨ps', hP4, ht3⟩, fun a o e => ?_, fun i y z e1 e2 e3 => ?_, hn, ⟨v, hm, ru⟩⟩
          · have hb : X.base.get? a = some o := I1.mod.kin a o e
            refine at1 a o (fun c => ?_) (I1.bk a o hb)
            have := (I1.bs a o hb).2
            rw [c, hP] at this
            cases this
          · obtain ⟨c, u, a1, ⟨ob, a2, a3⟩, a4⟩ := cap1 i y z e1 e2 e3
            refine ⟨c, u, a1, ⟨ob, at1 c ob (fun d => ?_) a2, a3⟩, a4⟩
            have := I1.freeC y c a1
            rw [d, hP] at this
            cases this
        refine wpAny_mono (hel.run σ H1 _ A' E' s₂ m₂ z _ sees (hel1 z (List.mem_of_getElem? hz1))) (fun y s3 r => ?_) fun _ _ e => e
        obtain ⟨⟨w, rw1, rfl⟩, kp⟩ := r
        exact ⟨⟨z, hz1, rw1⟩, kp⟩
    · intro g h5 tk5 gs hgb hag hsz5 hk5 W5 hgat
      simp only [GxR.passing_true, List.length_range] at W5
      have hn5 : its.toArray.size = xs.length := by rw [List.size_toArray, hlen]
      rw [hn5] at W5 hgat
      refine hQ xs pb H1 g _ q1 ⟨_, _, _, _, _, W5.in4_1, hgat, ?_, fun s' hm => ?_⟩
      · intro j y sj Qj Ej hy hQj
        obtain ⟨i, hij, z, hz1, rfl⟩ := hy
        obtain ⟨hj, ej⟩ := List.getElem?_eq_some_iff.mp hij
        rw [List.getElem_range] at ej
        subst ej
        have hQ2 : Qj (trV pb xs j) sj := hQj
        rw [trV_some hz1] at hQ2
        exact wpAny_truthy_bool hQ2
      · have nwr : ∀ b u, s1.heap.get? b = some u → b ∉ h3.objs.size :: [s1.heap.objs.size] := fun b u e hb => by
          have hl := Heap.lt_size e
          rcases List.mem_cons.mp hb with z | z
          · rw [z] at hl
            have h9 : (h3.objs.size : Nat) < s1.heap.objs.size := hl
            omega
          · rw [List.mem_singleton.mp z] at hl
            exact Nat.lt_irrefl _ hl
        have J := inv_tabO (h' := s'.heap) (g' := s'.gens) (d' := s'.drawn) (t' := s'.toks) I1 hP (fun b u hb e => hm.heap b u (nwr b u e) (hk5 b u (keep3 b u hb e)))
          ⟨ps', hm.heap P _ (nwr P _ hPs) (hk5 P _ hP3), ht3⟩ (AllBare.movedS (I1.bare.push hgb) hm)
        rw [GxR.sh_eta s1 s' hm.os] at J
        exact J
  refine ⟨lim2, ?_⟩
  cases hf : codeAmong gpos ps.toList with
  | none =>
    refine wpAny_genexprCodeX hcode (cd.code hP2 ht) (cd.tab hP2) hf fun c' h' tk hx hge hlt hco' _ htab' _ => ?_
    obtain ⟨o1, vs, f1, tf, fl, tg, inF, tx, tt, op, _, _, _, _, _, _, _, _, _, htr, _⟩ := hco'
    exact cont _ h' tk _ hx (Nat.le_trans hge (Nat.le_of_lt hlt)) htab'.2 htr
  | some cv =>
    refine wpAny_genexprCode_hit hcode (cd.code hP2 ht) hf ?_
    exact cont cv (s1.heap.push o) s1.toks ps (Heap.ExtBut.refl _ _) (Nat.le_refl _) hP2 ht
/-- any(test for x in e) -/
def tAnyL (K : PySem.W.Frag) (P : Addr) (t : TV) (te : TE) : TE := fun σ H Q => te σ H fun v H1 => ∃ (yl : Addr) (xs : List V) (pb : V → Bool), v = .ref yl ∧ SqL K H1 yl xs ∧ H1 P = some (TabO P) ∧ (∀ z ∈ xs, t σ z H1 fun w => w = .bl (pb z)) ∧ Q (.bl (xs.any pb)) H1
theorem pe_anyL {c P : Addr} {elt iter : Expr} {x : Str} {px p pos gpos : Pos} {scope : Scope} {t : TV} {te : TE} {k : Nat}
    (hr : Room k X.A) (hg : Gl X "any") (hm : X.mg "any" = none) (TB : GxR.TabB X.base X.mg c P) (hcode : X.env.code = .ref c) (S : GxR.GenS X.env scope x) (hi : PE X iter te) (hel : EE X scope x elt t)
    (hv : ∀ (i : Nat) (y : Str), X.N[i]? = some y → X.env.kindOf y = some .cell → Vis X.env.scope y)
    (hs : ∀ v, genFold iter X.env v = pure v)
    (he : starEach [.GeneratorExp elt [⟨.Name x px, iter, [], 0⟩] scope gpos] X.env = (false, eval (.GeneratorExp elt [⟨.Name x px, iter, [], 0⟩] scope gpos) X.env) :: starEach [] X.env := by rfl) :
    PE X (.Call (.Name "any" p) [.GeneratorExp elt [⟨.Name x px, iter, [], 0⟩] scope gpos] [] pos) (tAnyL X.K P t te) := by
  refine ⟨fun pins s σ H Q I h => ?_⟩
  refine wpAny_Call_Name_kw (ld_blt I hg hm boot_any ?_)
  refine PyProof.Rows.callWith_builtin1 ?_ he (by rfl)
  rw [he]
  show wpAny _ _ (spliced ((false, eval (.GeneratorExp elt [⟨.Name x px, iter, [], 0⟩] scope gpos) X.env) :: backTo pos (starEach [] X.env))) _ _ s
  refine Calls.spliced_cons (gen_any (R := fun xs pb H1 => Q (.bl (xs.any pb)) H1) hr TB hcode S hi hel hs I h hv fun xs pb H1 g s5 hR hG => ?_)
  obtain ⟨fp, wr, G, F, St, W, hst, htr, hI⟩ := hG
  refine Calls.spliced_nil ?_
  refine call_any_walkS (W.self 0 _ _ _ hst ⟨g, fp, wr, G, _, F, St, _, rfl, W, hst, htr, fun s' hmv => ?_⟩)
  refine ⟨.bl _, H1, hI s' hmv, rfl, ?_⟩
  rw [any_trV]
  exact hR
end
end AnyL

/-! HXb: the head's facts over a part of the heap that is collected with a number of bits for what is seen (no list is searched for doubles), the statics' names with it. -/
namespace He
open PySem PySem.Spec PyProof.Rows L2
/-- those not seen yet, seen from now on -/
def newB {α : Type} : List Addr → Nat → List Addr → (Nat → List Addr → α) → α
  | [], v, acc, k => k v acc
  | a :: r, v, acc, k => HandSHeadRun.frNat a fun a => match Nat.beq (Nat.land (Nat.shiftRight v a) 1) 0 with
    | true => HandSHeadRun.frNat (Nat.lor v (Nat.shiftLeft 1 a)) fun v => newB r v (a :: acc) k
    | false => newB r v acc k
def refsAt (g : Addr → Option Obj) (a : Addr) : List Addr := match g a with
  | some o => refsD o
  | none => []
/-- every one that the list names, n steps on -/
def asB (g : Addr → Option Obj) : Nat → Nat → List Addr → List Addr → List Addr
  | 0, _, _, all => all
  | n + 1, v, now, all => newB (now.flatMap (refsAt g)) v [] fun v l => asB g n v l.reverse (all ++ l.reverse)
def obsBG (n : Nat) (ex : PySem.W.Frag → Bool) (fa : List Fa) (fn : List DefD) (g : Addr → Option Obj) : AlD := obsX ex fa fn (frG g (asB g n (Nat.shiftLeft 1 mainGlobals) [mainGlobals] [mainGlobals] ++ [cStatics]))
def hookB (n : Nat) (ex : PySem.W.Frag → Bool) (fa : List Fa) (fn : List DefD) : PySem.W.Hook where
  α := AlD
  obs := fun s => obsBG n ex fa fn s.heap.get?
  val := fun _ => valD fn
  says := fun _ h => ∃ K : PySem.W.Frag, K.In h ∧ SaysX ex fa fn K
  of := fun _ _ e => ⟨_, frG_in, e⟩
  keeps := fun _ _ _ ⟨K, hK, c⟩ k => ⟨K, PySem.W.Frag.In.keeps hK k, c⟩
theorem obsBG_eq {n : Nat} {ex : PySem.W.Frag → Bool} {fa : List Fa} {fn : List DefD} {g : Addr → Option Obj} {s : Shared} (h : ∀ a, g a = s.heap.get? a) : obsBG n ex fa fn g = (hookB n ex fa fn).obs s := by
  have e : g = s.heap.get? := funext h
  rw [e] <;> rfl
end He

set_option Elab.async false
set_option linter.all false
set_option maxRecDepth 100000
set_option maxHeartbeats 4000000
/-! HXq: a def whose code object has a table (it makes a generator): the head's facts, the def's rule, the end. -/
namespace AnyL
open PySem PySem.Spec PyProof.Rows L2
/-- the code object of the def at f, its table -/
def cdV (K : PySem.W.Frag) (f : Addr) : Addr := match K.lookup f with
  | some ⟨_, _, .func fd, _⟩ => (match fd.code with
    | .ref c => c
    | _ => 0)
  | _ => 0
def tbV (K : PySem.W.Frag) (f : Addr) : Addr := match K.lookup (cdV K f) with
  | some ⟨_, _, .fields vs, _⟩ => (match (vs[11]? : Option Value) with
    | some (.ref P) => P
    | _ => 0)
  | _ => 0
def fldsB (vs : Array Value) : Bool := match vs.getD 18 .none, vs.getD 7 .none, vs.getD 9 .none, vs.getD 10 .none with
  | .str _ _, .int _ _, .bool _, .int _ _ => true
  | _, _, _, _ => false
theorem fldsB_ok {vs : Array Value} (h : fldsB vs = true) : ∃ file tf flags tg inF text tt, vs.getD 18 .none = .str file tf ∧ vs.getD 7 .none = .int flags tg ∧ vs.getD 9 .none = .bool inF ∧ vs.getD 10 .none = .int text tt := by
  unfold fldsB at h
  split at h
  · rename_i a b c d e f e1 e2 e3 e4
    exact ⟨_, _, _, _, _, _, _, e1, e2, e3, e4⟩
  · cases h
def codeB (K : PySem.W.Frag) (f : Addr) : Bool := match K.lookup f with
  | some ⟨_, _, .func fd, _⟩ => (match fd.code with
    | .ref c => (match K.lookup c with
      | some ⟨.type t, _, .fields vs, _⟩ => decide (t = "code") && ((match (vs[11]? : Option Value) with
        | some (.ref P) => decide (c ≠ P) && (K.lookup P).isNone
        | _ => false) && fldsB vs)
      | _ => false)
    | _ => false)
  | _ => false
structure CodeOf (K : PySem.W.Frag) (f : Addr) : Prop where
  fn : ∃ oc od fd osl, K.lookup f = some ⟨oc, od, .func fd, osl⟩ ∧ fd.code = .ref (cdV K f)
  hd : ∀ h : Heap, K.In h → PySem.W.CodeHd h (cdV K f) (tbV K f)
  out : K.lookup (tbV K f) = none
theorem codeB_ok {K : PySem.W.Frag} {f : Addr} (h : codeB K f = true) : CodeOf K f := by
  unfold codeB at h
  cases q : K.lookup f with
  | none => rw [q] at h; cases h
  | some o =>
    obtain ⟨oc, od, dt, osl⟩ := o
    rw [q] at h
    cases dt with
    | func fd =>
      cases q2 : fd.code with
      | ref c =>
        simp only [q2] at h
        have ec : cdV K f = c := by
          unfold cdV
          rw [q]
          simp only [q2]
        cases q3 : K.lookup c with
        | none => simp only [q3] at h; cases h
        | some o2 =>
          obtain ⟨cc, cd, ct, cs⟩ := o2
          rw [q3] at h
          cases cc with
          | type t =>
            cases ct with
            | fields vs =>
              have h : (decide (t = "code") && ((match (vs[11]? : Option Value) with
                | some (.ref P) => decide (c ≠ P) && (K.lookup P).isNone
                | _ => false) && fldsB vs)) = true := h
              obtain ⟨h1, h2⟩ := He.ba h
              obtain ⟨h3, h4⟩ := He.ba h2
              cases q4 : vs[11]? with
              | none => rw [q4] at h3; cases h3
              | some v11 =>
                rw [q4] at h3
                cases v11 with
                | ref P =>
                  obtain ⟨h5, h6⟩ := He.ba (show (decide (c ≠ P) && (K.lookup P).isNone) = true from h3)
                  have et : tbV K f = P := by
                    unfold tbV
                    rw [ec, q3]
                    simp only [q4]
                  refine ⟨⟨oc, od, fd, osl, q, by rw [ec]; exact q2⟩, fun hp X => ?_, by rw [et]; exact Option.isNone_iff_eq_none.mp h6⟩
                  rw [ec, et]
                  obtain ⟨file, tf, flags, tg, inF, text, tt, a1, a2, a3, a4⟩ := fldsB_ok h4
                  refine ⟨_, vs, file, tf, flags, tg, inF, text, tt, X _ _ q3, congrArg Value.type (of_decide_eq_true h1), rfl, q4, ?_, a1, a2, a3, a4, of_decide_eq_true h5⟩
                  rw [Array.getD_eq_getD_getElem?, q4]
                  rfl
                | _ => cases h3
            | _ => cases h
          | _ => cases ct <;> cases h
      | _ => simp only [q2] at h; cases h
    | _ => cases h
section
variable {P : Program} {w : World} {K : PySem.W.Frag} {mg : Str → Option Value} {base : Heap} {x qual : Str} {params : Arguments} {body : List Stmt} {scope : Scope} {dvs : List V} {kws : List (Str × V)} {f : Addr} {fd : FuncData}
/-- the rule for such a def: its code object is known -/
theorem tab_ok {CX : CXT} {N ps : List Str} {k : Nat} {sp : Sp} (F : FunD K x qual params body scope dvs kws f fd) (C : CodeOf K f) (S : FnScope N ps scope) (len : ∀ vs H Q E, sp vs H Q E → vs.length = ps.length)
    (hbody : ∀ (A : Around) (outer : List Env) (s : Shared) (H : Hp) (vs : List V) (Q : VK) (E : XK), Room k (A.deeper (envOfC qual scope s.heap.objs.size f (.ref (cdV K f)))) → sp vs H Q E →
      ∃ t, PSs (cxOf CX P w K mg base N qual scope f (.ref (cdV K f)) A outer s H E) body t ∧ t { nx := fun _ H' => Q .non H', rt := Q } (start N vs) H) : FnOk P w K mg base CX (k + 1) f fd ps sp := by
  obtain ⟨oc, od, dV, kV, doc, pm, an, cdv, ct, osl, rfl, lk, hcd, _, _⟩ := F.ex
  obtain ⟨oc2, od2, fd2, osl2, lk2, hc⟩ := C.fn
  rw [lk] at lk2
  cases lk2
  have e : cdv = .ref (cdV K f) := hc
  subst e
  exact fn_of lk hcd S len fun A outer s H vs Q E hr hsp => hbody A outer s H vs Q E hr hsp
/-- from a table that is known to one of which only this is known: it is a table -/
theorem fn_retab {k : Nat} {ps : List Str} {sp : Sp} {T : Addr} (F : FnOk P w K mg base C8.CX0 k f fd ps sp) :
    FnOk P w K mg base C8.CX0 k f fd ps (fun vs H Q E => H T = some (.tbl #[]) ∧ sp vs (upd H T (TabO T)) (fun v H' => H' T = some (TabO T) ∧ ∀ H2, Q v H2) E) := by
  refine ⟨fun vs H Q E h => F.len _ _ _ _ h.2, fun A outer s H args us vs Q E hr e0 hb hv ⟨hT, h⟩ => ?_⟩
  have at_ : ∀ b, b ≠ T → upd H T (TabO T) b = H b := fun b hb => upd_ne hb
  have nT : ∀ b, H b = none → b ≠ T := fun b e z => by rw [z, hT] at e; cases e
  have hn : ∀ b, H b = none → upd H T (TabO T) b = none := fun b e => (at_ b (nT b e)).trans e
  have e1 : s.heap.get? T = some { cls := .none, data := .fields #[] } := e0.hok T _ hT
  have hok : HOk P w (upd H T (TabO T)) s.heap := fun b u e => by
    by_cases hb : b = T
    · subst hb
      rw [upd_same] at e
      cases e
      exact tabO_ok e1 True.intro
    · rw [at_ b hb] at e
      refine (e0.hok b u e).stay (fun d v _ q => q) (fun d q => ?_) fun d xs q => ?_
      · rw [at_ d (fun z => by rw [z, hT] at q; cases q)]; exact q
      · rw [at_ d (fun z => by rw [z, hT] at q; cases q)]; exact q
  refine codeAny_mono (F.run A outer s (upd H T (TabO T)) args us vs _ E hr ⟨e0.frames, e0.mod, fun b o e => ⟨(e0.bs b o e).1, hn b (e0.bs b o e).2⟩, e0.bsz, e0.funs, fun b hb => hn b (e0.frf b hb), hok, e0.bare⟩ hb hv h) fun r s' q => ?_
  cases r with
  | error e => exact q
  | ok fl =>
    cases fl with
    | ret u =>
      obtain ⟨v, H', o1, o2, un, hk, rv, hT', q2⟩ := q
      obtain ⟨qs, g1, g2⟩ := tabO_get hk hT'
      refine ⟨v, upd H' T (.tbl qs), o1, o2, ?_, ?_, rv, q2 _⟩
      · have back : ∀ b, b ≠ T → upd H' T (.tbl qs) b = H' b := fun b hb => upd_ne hb
        refine ⟨fun b o e n h1 h2 => un.keep b o e (hn b n) h1 h2, fun b o e n h1 h2 => un.slot b o e (hn b n) h1 h2, fun b o e n h1 => ?_, un.there, fun b xs e => ?_, fun b o u e => ?_, fun b ps e => ?_⟩
        · rw [back b (nT b n)]
          exact un.free b o e (hn b n) h1
        · have hb : b ≠ T := fun z => by rw [z, hT] at e; cases e
          rw [back b hb]
          exact un.tups b xs (by rw [at_ b hb]; exact e)
        · have hb : b ≠ T := fun z => by rw [z, hT] at e; cases e
          rw [back b hb]
          exact un.frzs b o u (by rw [at_ b hb]; exact e)
        · by_cases hb : b = T
          · subst hb
            rw [hT] at e
            cases e
            exact ⟨qs, by rw [upd_same]; simp⟩
          · rw [back b hb]
            exact un.tbls b ps (by rw [at_ b hb]; exact e)
      · intro b u e
        by_cases hb : b = T
        · subst hb
          rw [upd_same] at e
          cases e
          exact g1
        · rw [upd_ne hb] at e
          refine (hk b u e).stay (fun d v _ q => q) (fun d q => ?_) fun d xs q => ?_
          · rw [upd_ne (fun z => by rw [z, hT'] at q; cases q)]; exact q
          · rw [upd_ne (fun z => by rw [z, hT'] at q; cases q)]; exact q
    | next => exact q
    | brk => exact q
    | cont => exact q
end
/-- the generator's scope within a def whose captured names are cells -/
theorem gens_of {qual x : Str} {dscope gscope : Scope} {n f : Addr} {cdv : Value} (hk : gscope.kind = .function) (hco : gscope.isCoroutine = false) (hc : (gscope.names.all fun y => decide (y.2 ≠ NameKind.cell)) = true)
    (hd : gscope.names.lookup (".0" : Str) = some NameKind.local) (hl : gscope.names.lookup x = some .local) (hf : (gscope.names.all fun y => decide (y.2 = NameKind.free → dscope.names.lookup y.1 = some .cell)) = true) : GxR.GenS (envOfC qual dscope n f cdv) gscope x := by
  refine ⟨hk, hco, fun y hy => of_decide_eq_true (List.all_eq_true.mp hc y hy), hd, hl, fun y hy e => ?_⟩
  have q := of_decide_eq_true (List.all_eq_true.mp hf y hy) e
  exact Option.isSome_iff_exists.mp (PySem.W.cellsFrom_some _ _ _ (.inl q))
theorem clo_acc {cells : List (Str × Addr)} {y : Str} {c : Addr} (e : cells.lookup y = some c) : ∀ (names : List (Str × NameKind)) (acc : List (Str × Addr)), (acc.lookup y = some c ∨ (acc.lookup y = none ∧ (y, NameKind.free) ∈ names)) → (cloFrom cells names acc).lookup y = some c
  | [], acc, h => by
    rcases h with h | ⟨_, h⟩
    · exact h
    · cases h
  | (n, k) :: r, acc, h => by
    unfold cloFrom
    by_cases hk : (k == NameKind.free) = true
    · rw [if_pos hk]
      refine clo_acc e r _ ?_
      rw [List.lookup_cons]
      cases hb : y == n with
      | true =>
        have en : y = n := by simpa using hb
        subst en
        left
        rw [e]
        rfl
      | false =>
        have ne : y ≠ n := by simpa using hb
        rcases h with h | ⟨h1, h2⟩
        · exact .inl h
        · rcases List.mem_cons.mp h2 with z | z
          · exact absurd (congrArg Prod.fst z) ne
          · exact .inr ⟨h1, z⟩
    · rw [if_neg hk]
      refine clo_acc e r _ (h.imp id fun ⟨h1, h2⟩ => ⟨h1, ?_⟩)
      rcases List.mem_cons.mp h2 with z | z
      · have : k = NameKind.free := (congrArg Prod.snd z).symm
        exact absurd (by rw [this]; rfl) hk
      · exact z
theorem clo_at {cells : List (Str × Addr)} {y : Str} {names : List (Str × NameKind)} (h : (y, NameKind.free) ∈ names) : ∀ c, cells.lookup y = some c → (cloFrom cells names []).lookup y = some c :=
  fun c e => clo_acc e names [] (.inr ⟨rfl, h⟩)
theorem sqL_retab {K : PySem.W.Frag} {H : Hp} {T a : Addr} {xs : List V} {o : HO} (n : K.lookup T = none) (hT : H T = some (.tbl #[])) (h : SqL K H a xs) : SqL K (upd H T o) a xs := by
  have na : a ≠ T := fun z => by
    rw [z] at h
    rcases h with (h | ⟨_, h⟩) | ⟨_, _, _, h, _⟩
    · rw [hT] at h; cases h
    · rw [hT] at h; cases h
    · rw [n] at h; cases h
  rcases h with (h | ⟨o, h⟩) | h
  · exact .inl (.inl ((upd_ne na).trans h))
  · exact .inl (.inr ⟨o, (upd_ne na).trans h⟩)
  · exact .inr h
end AnyL
namespace He
open PySem PySem.Spec PyProof.Rows L2
/-- what an object names, but for what a code object names -/
def refsT (g : Addr → Option Obj) (a : Addr) : List Addr := match g a with
  | some o => (match o.data with
    | .fields vs => (match Nat.ble 12 vs.size with
      | true => []
      | false => refsD o)
    | _ => refsD o)
  | none => []
def asT (g : Addr → Option Obj) : Nat → Nat → List Addr → List Addr → List Addr
  | 0, _, _, all => all
  | n + 1, v, now, all => newB (now.flatMap (refsT g)) v [] fun v l => asT g n v l.reverse (all ++ l.reverse)
def emptyB (g : Addr → Option Obj) (P : Addr) : Bool := match g P with
  | some ⟨.none, none, .fields vs, sl⟩ => Nat.beq vs.size 0 && Nat.beq sl.size 0
  | _ => false
theorem emptyB_ok {g : Addr → Option Obj} {P : Addr} (h : emptyB g P = true) : g P = some { cls := .none, data := .fields #[] } := by
  unfold emptyB at h
  split at h
  · rename_i vs sl e
    obtain ⟨h1, h2⟩ := ba h
    rw [e, Array.eq_empty_of_size_eq_zero (Nat.eq_of_beq_eq_true h1), Array.eq_empty_of_size_eq_zero (Nat.eq_of_beq_eq_true h2)]
  · cases h
def exT (ex : PySem.W.Frag → Bool) (xs : List Str) (g : Addr → Option Obj) (K : PySem.W.Frag) : Bool := (xs.all fun x => AnyL.codeB K (ga K x) && emptyB g (AnyL.tbV K (ga K x))) && ex K
def obsTG (n : Nat) (ex : PySem.W.Frag → Bool) (xs : List Str) (fa : List Fa) (fn : List DefD) (g : Addr → Option Obj) : AlD := obsX (exT ex xs g) fa fn (frG g (asT g n (Nat.shiftLeft 1 mainGlobals) [mainGlobals] [mainGlobals] ++ [cStatics]))
/-- the tables are there, empty -/
def Empties (K : PySem.W.Frag) (xs : List Str) (h : Heap) : Prop := ∀ x ∈ xs, AnyL.CodeOf K (ga K x) ∧ h.get? (AnyL.tbV K (ga K x)) = some { cls := .none, data := .fields #[] }
theorem saysT {ex : PySem.W.Frag → Bool} {xs : List Str} {fa : List Fa} {fn : List DefD} {K : PySem.W.Frag} {h : Heap} (e : SaysX (exT ex xs h.get?) fa fn K) : SaysX ex fa fn K ∧ Empties K xs h := by
  have h0 : obsX (exT ex xs h.get?) fa fn K = valD fn := e
  obtain ⟨h1, h2⟩ := e.both
  obtain ⟨h3, h4⟩ := ba h1
  refine ⟨?_, fun x hx => ?_⟩
  · have e1 : ex K = exT ex xs h.get? K := h4.trans h1.symm
    show (ex K && (obsD fa fn K).1, (obsD fa fn K).2) = valD fn
    rw [e1]
    exact h0
  · obtain ⟨a, b⟩ := ba (List.all_eq_true.mp h3 x hx)
    exact ⟨AnyL.codeB_ok a, emptyB_ok b⟩
def hookT (n : Nat) (ex : PySem.W.Frag → Bool) (xs : List Str) (fa : List Fa) (fn : List DefD) : PySem.W.Hook where
  α := AlD
  obs := fun s => obsTG n ex xs fa fn s.heap.get?
  val := fun _ => valD fn
  says := fun _ h => ∃ K : PySem.W.Frag, K.In h ∧ SaysX ex fa fn K ∧ Empties K xs h
  of := fun _ _ e => ⟨_, frG_in, saysT e⟩
  keeps := fun _ _ _ ⟨K, hK, c, t⟩ k => ⟨K, PySem.W.Frag.In.keeps hK k, c, fun x hx => ⟨(t x hx).1, k _ _ (t x hx).2⟩⟩
theorem obsTG_eq {n : Nat} {ex : PySem.W.Frag → Bool} {xs : List Str} {fa : List Fa} {fn : List DefD} {g : Addr → Option Obj} {s : Shared} (h : ∀ a, g a = s.heap.get? a) : obsTG n ex xs fa fn g = (hookT n ex xs fa fn).obs s := by
  have e : g = s.heap.get? := funext h
  rw [e] <;> rfl
end He

set_option Elab.async false
set_option linter.all false
set_option maxRecDepth 100000
set_option maxHeartbeats 4000000
namespace K18
open PySem PySem.Spec PyProof.Rows L2 HX

def top (i : Nat) : Stmt := PySem.Challenge.pw_reachbook_k18_whole_comes_and_knots.main.body.getD i (.Pass ⟨0, 0, 0, 0⟩)
abbrev s_wall : Stmt := (top 0)
abbrev N_wall : List Str := ["k"]
theorem sc_wall : FnScope N_wall ["k"] (defScope s_wall) := ⟨rfl, rfl, rfl, by decide +kernel, rfl, by decide +kernel, by decide +kernel⟩
abbrev s_has_only : Stmt := (top 14)
abbrev N_has_only : List Str := ["text", "signs", "sign"]
theorem sc_has_only : FnScope N_has_only ["text", "signs"] (defScope s_has_only) := ⟨rfl, rfl, rfl, by decide +kernel, rfl, by decide +kernel, by decide +kernel⟩
abbrev s_is_whole : Stmt := (top 15)
abbrev N_is_whole : List Str := ["thing"]
theorem sc_is_whole : FnScope N_is_whole ["thing"] (defScope s_is_whole) := ⟨rfl, rfl, rfl, by decide +kernel, rfl, by decide +kernel, by decide +kernel⟩
abbrev s_is_among : Stmt := (top 16)
abbrev N_is_among : List Str := ["thing", "least", "most"]
theorem sc_is_among : FnScope N_is_among ["thing", "least", "most"] (defScope s_is_among) := ⟨rfl, rfl, rfl, by decide +kernel, rfl, by decide +kernel, by decide +kernel⟩
abbrev s_is_name : Stmt := (top 17)
abbrev N_is_name : List Str := ["thing"]
theorem sc_is_name : FnScope N_is_name ["thing"] (defScope s_is_name) := ⟨rfl, rfl, rfl, by decide +kernel, rfl, by decide +kernel, by decide +kernel⟩
abbrev s_number_text : Stmt := (top 18)
abbrev N_number_text : List Str := ["number"]
theorem sc_number_text : FnScope N_number_text ["number"] (defScope s_number_text) := ⟨rfl, rfl, rfl, by decide +kernel, rfl, by decide +kernel, by decide +kernel⟩
abbrev s_need_all : Stmt := (top 20)
abbrev N_need_all : List Str := ["web", "names", "points", "name"]
theorem sc_need_all : FnScope N_need_all ["web", "names"] (defScope s_need_all) := ⟨rfl, rfl, rfl, by decide +kernel, rfl, by decide +kernel, by decide +kernel⟩
abbrev s_names_in : Stmt := (top 21)
abbrev N_names_in : List Str := ["web", "came", "name"]
theorem sc_names_in : FnScope N_names_in ["web", "came"] (defScope s_names_in) := ⟨rfl, rfl, rfl, by decide +kernel, rfl, by decide +kernel, by decide +kernel⟩
abbrev s_free_steps : Stmt := (top 22)
abbrev N_free_steps : List Str := ["names", "ties", "steps", "tie", "name"]
theorem sc_free_steps : FnScope N_free_steps ["names", "ties"] (defScope s_free_steps) := ⟨rfl, rfl, rfl, by decide +kernel, rfl, by decide +kernel, by decide +kernel⟩
abbrev s_came_from : Stmt := (top 23)
abbrev N_came_from : List Str := ["steps", "one", "came", "row", "done", "ahead", "number", "name"]
theorem sc_came_from : FnScope N_came_from ["steps", "one"] (defScope s_came_from) := ⟨rfl, rfl, rfl, by decide +kernel, rfl, by decide +kernel, by decide +kernel⟩
abbrev s_numbers_to : Stmt := (top 24)
abbrev N_numbers_to : List Str := ["came", "target", "numbers", "step", "number", "ahead"]
theorem sc_numbers_to : FnScope N_numbers_to ["came", "target"] (defScope s_numbers_to) := ⟨rfl, rfl, rfl, by decide +kernel, rfl, by decide +kernel, by decide +kernel⟩
abbrev s_Way_init : Stmt := (inClass (top 26) 0)
abbrev N_Way_init : List Str := ["self", "numbers"]
theorem sc_Way_init : FnScope N_Way_init ["self", "numbers"] (defScope s_Way_init) := ⟨rfl, rfl, rfl, by decide +kernel, rfl, by decide +kernel, by decide +kernel⟩
abbrev s_Border_init : Stmt := (inClass (top 27) 0)
abbrev N_Border_init : List Str := ["self", "names"]
theorem sc_Border_init : FnScope N_Border_init ["self", "names"] (defScope s_Border_init) := ⟨rfl, rfl, rfl, by decide +kernel, rfl, by decide +kernel, by decide +kernel⟩
abbrev s_way_or_border : Stmt := (top 28)
abbrev N_way_or_border : List Str := ["web", "came", "other"]
theorem sc_way_or_border : FnScope N_way_or_border ["web", "came", "other"] (defScope s_way_or_border) := ⟨rfl, rfl, rfl, by decide +kernel, rfl, by decide +kernel, by decide +kernel⟩
abbrev s_need_points : Stmt := (top 30)
abbrev N_need_points : List Str := ["web", "names"]
theorem sc_need_points : FnScope N_need_points ["web", "names"] (defScope s_need_points) := ⟨rfl, rfl, rfl, by decide +kernel, rfl, by decide +kernel, by decide +kernel⟩
abbrev s_Ring_init : Stmt := (inClass (top 32) 0)
abbrev N_Ring_init : List Str := ["self", "numbers"]
theorem sc_Ring_init : FnScope N_Ring_init ["self", "numbers"] (defScope s_Ring_init) := ⟨rfl, rfl, rfl, by decide +kernel, rfl, by decide +kernel, by decide +kernel⟩
abbrev s_comes : Stmt := (top 33)
abbrev N_comes : List Str := ["web", "one", "other", "came"]
theorem sc_comes : FnScope N_comes ["web", "one", "other"] (defScope s_comes) := ⟨rfl, rfl, rfl, by decide +kernel, rfl, by decide +kernel, by decide +kernel⟩
abbrev s_knots_by_points : Stmt := (top 34)
abbrev N_knots_by_points : List Str := ["web", "names", "steps", "came", "found", "name", "knot", "point"]
theorem sc_knots_by_points : FnScope N_knots_by_points ["web"] (defScope s_knots_by_points) := ⟨rfl, rfl, rfl, by decide +kernel, rfl, by decide +kernel, by decide +kernel⟩
abbrev s_is_led_into : Stmt := (top 35)
abbrev N_is_led_into : List Str := ["ties", "knot", "names"]
theorem sc_is_led_into : FnScope N_is_led_into ["ties", "knot", "names"] (defScope s_is_led_into) := ⟨rfl, rfl, rfl, by decide +kernel, rfl, by decide +kernel, by decide +kernel⟩
abbrev s_first_free : Stmt := (top 36)
abbrev N_first_free : List Str := ["ties", "left", "names", "free", "knot", "name"]
theorem sc_first_free : FnScope N_first_free ["ties", "left"] (defScope s_first_free) := ⟨rfl, rfl, rfl, by decide +kernel, rfl, by decide +kernel, by decide +kernel⟩
abbrev s_knots : Stmt := (top 37)
abbrev N_knots : List Str := ["web", "ties", "left", "order", "knot"]
theorem sc_knots : FnScope N_knots ["web"] (defScope s_knots) := ⟨rfl, rfl, rfl, by decide +kernel, rfl, by decide +kernel, by decide +kernel⟩
abbrev s_ring_through : Stmt := (top 38)
abbrev N_ring_through : List Str := ["web", "one", "other", "there", "back"]
theorem sc_ring_through : FnScope N_ring_through ["web", "one", "other"] (defScope s_ring_through) := ⟨rfl, rfl, rfl, by decide +kernel, rfl, by decide +kernel, by decide +kernel⟩
abbrev s_starts : Stmt := (top 39)
abbrev N_starts : List Str := ["web", "names", "ties", "knot"]
theorem sc_starts : FnScope N_starts ["web"] (defScope s_starts) := ⟨rfl, rfl, rfl, by decide +kernel, rfl, by decide +kernel, by decide +kernel⟩
abbrev s_Tie_init : Stmt := (inClass (top 44) 0)
abbrev N_Tie_init : List Str := ["self", "number", "tail", "head", "load", "is_oneway"]
theorem sc_Tie_init : FnScope N_Tie_init ["self", "number", "tail", "head", "load", "is_oneway"] (defScope s_Tie_init) := ⟨rfl, rfl, rfl, by decide +kernel, rfl, by decide +kernel, by decide +kernel⟩
abbrev s_between : Stmt := (top 45)
abbrev N_between : List Str := ["tie", "tail", "head"]
theorem sc_between : FnScope N_between ["tie", "tail", "head"] (defScope s_between) := ⟨rfl, rfl, rfl, by decide +kernel, rfl, by decide +kernel, by decide +kernel⟩
abbrev s_turned : Stmt := (top 46)
abbrev N_turned : List Str := ["tie", "name", "other", "tail", "head"]
theorem sc_turned : FnScope N_turned ["tie", "name", "other"] (defScope s_turned) := ⟨rfl, rfl, rfl, by decide +kernel, rfl, by decide +kernel, by decide +kernel⟩
abbrev s_Web_init : Stmt := (inClass (top 47) 0)
abbrev N_Web_init : List Str := ["self"]
theorem sc_Web_init : FnScope N_Web_init ["self"] (defScope s_Web_init) := ⟨rfl, rfl, rfl, by decide +kernel, rfl, by decide +kernel, by decide +kernel⟩
abbrev s_Web_points : Stmt := (inClass (top 47) 1)
abbrev N_Web_points : List Str := ["self"]
theorem sc_Web_points : FnScope N_Web_points ["self"] (defScope s_Web_points) := ⟨rfl, rfl, rfl, by decide +kernel, rfl, by decide +kernel, by decide +kernel⟩
abbrev s_Web_ties : Stmt := (inClass (top 47) 2)
abbrev N_Web_ties : List Str := ["self", "tie"]
theorem sc_Web_ties : FnScope N_Web_ties ["self"] (defScope s_Web_ties) := ⟨rfl, rfl, rfl, by decide +kernel, rfl, by decide +kernel, by decide +kernel⟩
abbrev s_Web_given : Stmt := (inClass (top 47) 3)
abbrev N_Web_given : List Str := ["self"]
theorem sc_Web_given : FnScope N_Web_given ["self"] (defScope s_Web_given) := ⟨rfl, rfl, rfl, by decide +kernel, rfl, by decide +kernel, by decide +kernel⟩
abbrev s_Web_put_point : Stmt := (inClass (top 47) 4)
abbrev N_Web_put_point : List Str := ["self", "name"]
theorem sc_Web_put_point : FnScope N_Web_put_point ["self", "name"] (defScope s_Web_put_point) := ⟨rfl, rfl, rfl, by decide +kernel, rfl, by decide +kernel, by decide +kernel⟩
abbrev s_Web_put_tie : Stmt := (inClass (top 47) 7)
abbrev N_Web_put_tie : List Str := ["self", "tail", "head", "load", "is_oneway"]
theorem sc_Web_put_tie : FnScope N_Web_put_tie ["self", "tail", "head", "load", "is_oneway"] (defScope s_Web_put_tie) := ⟨rfl, rfl, rfl, by decide +kernel, rfl, by decide +kernel, by decide +kernel⟩
abbrev s_Web_drop_tie : Stmt := (inClass (top 47) 9)
abbrev N_Web_drop_tie : List Str := ["self", "number"]
theorem sc_Web_drop_tie : FnScope N_Web_drop_tie ["self", "number"] (defScope s_Web_drop_tie) := ⟨rfl, rfl, rfl, by decide +kernel, rfl, by decide +kernel, by decide +kernel⟩
abbrev s_Web_join : Stmt := (inClass (top 47) 11)
abbrev N_Web_join : List Str := ["self", "name", "other", "turned", "tie"]
theorem sc_Web_join : FnScope N_Web_join ["self", "name", "other"] (defScope s_Web_join) := ⟨rfl, rfl, rfl, by decide +kernel, rfl, by decide +kernel, by decide +kernel⟩
abbrev s_Web_part : Stmt := (inClass (top 47) 12)
abbrev N_Web_part : List Str := ["self", "name", "other", "numbers", "number"]
theorem sc_Web_part : FnScope N_Web_part ["self", "name", "other", "numbers"] (defScope s_Web_part) := ⟨rfl, rfl, rfl, by decide +kernel, rfl, by decide +kernel, by decide +kernel⟩
abbrev s_Web_copied : Stmt := (inClass (top 47) 13)
abbrev N_Web_copied : List Str := ["self", "web"]
theorem sc_Web_copied : FnScope N_Web_copied ["self"] (defScope s_Web_copied) := ⟨rfl, rfl, rfl, by decide +kernel, rfl, by decide +kernel, by decide +kernel⟩
abbrev s_Web_need_point : Stmt := (inClass (top 47) 14)
abbrev N_Web_need_point : List Str := ["self", "name"]
theorem sc_Web_need_point : FnScope N_Web_need_point ["self", "name"] (defScope s_Web_need_point) := ⟨rfl, rfl, rfl, by decide +kernel, rfl, by decide +kernel, by decide +kernel⟩
abbrev s_Web_need_new_name : Stmt := (inClass (top 47) 15)
abbrev N_Web_need_new_name : List Str := ["self", "name"]
theorem sc_Web_need_new_name : FnScope N_Web_need_new_name ["self", "name"] (defScope s_Web_need_new_name) := ⟨rfl, rfl, rfl, by decide +kernel, rfl, by decide +kernel, by decide +kernel⟩
abbrev s_Web_need_new_point : Stmt := (inClass (top 47) 16)
abbrev N_Web_need_new_point : List Str := ["self", "name"]
theorem sc_Web_need_new_point : FnScope N_Web_need_new_point ["self", "name"] (defScope s_Web_need_new_point) := ⟨rfl, rfl, rfl, by decide +kernel, rfl, by decide +kernel, by decide +kernel⟩
abbrev s_Web_need_tie : Stmt := (inClass (top 47) 17)
abbrev N_Web_need_tie : List Str := ["self", "number"]
theorem sc_Web_need_tie : FnScope N_Web_need_tie ["self", "number"] (defScope s_Web_need_tie) := ⟨rfl, rfl, rfl, by decide +kernel, rfl, by decide +kernel, by decide +kernel⟩
abbrev s_Web_need_ties_at : Stmt := (inClass (top 47) 18)
abbrev N_Web_need_ties_at : List Str := ["self", "name", "numbers", "seen", "number", "tie"]
theorem sc_Web_need_ties_at : FnScope N_Web_need_ties_at ["self", "name", "numbers"] (defScope s_Web_need_ties_at) := ⟨rfl, rfl, rfl, by decide +kernel, rfl, by decide +kernel, by decide +kernel⟩
abbrev s_need_load : Stmt := (top 48)
abbrev N_need_load : List Str := ["load"]
theorem sc_need_load : FnScope N_need_load ["load"] (defScope s_need_load) := ⟨rfl, rfl, rfl, by decide +kernel, rfl, by decide +kernel, by decide +kernel⟩
abbrev s_tie_line : Stmt := (top 49)
abbrev N_tie_line : List Str := ["tie", "word", "number"]
theorem sc_tie_line : FnScope N_tie_line ["tie"] (defScope s_tie_line) := ⟨rfl, rfl, rfl, by decide +kernel, rfl, by decide +kernel, by decide +kernel⟩
abbrev s_web_lines : Stmt := (top 50)
abbrev N_web_lines : List Str := ["web", "lines", "name", "tie"]
theorem sc_web_lines : FnScope N_web_lines ["web"] (defScope s_web_lines) := ⟨rfl, rfl, rfl, by decide +kernel, rfl, by decide +kernel, by decide +kernel⟩
abbrev s_law_number : Stmt := (top 52)
abbrev N_law_number : List Str := ["_law_script", "_law_k", "_law_cell", "_law_more"]
theorem sc_law_number : FnScope N_law_number ["_law_script", "_law_k"] (defScope s_law_number) := ⟨rfl, rfl, rfl, by decide +kernel, rfl, by decide +kernel, by decide +kernel⟩
abbrev s_law_mixed : Stmt := (top 53)
abbrev N_law_mixed : List Str := ["_law_number_here", "_law_k"]
theorem sc_law_mixed : FnScope N_law_mixed ["_law_number_here", "_law_k"] (defScope s_law_mixed) := ⟨rfl, rfl, rfl, by decide +kernel, rfl, by decide +kernel, by decide +kernel⟩
abbrev s_law_names : Stmt := (top 54)
abbrev N_law_names : List Str := ["_law_number_here", "_law_many", "_law_letters", "_law_step", "_law_base", "_law_border", "_law_at", "_law_signs", "_law_j", "_law_k", "_law_sign"]
theorem sc_law_names : FnScope N_law_names ["_law_number_here", "_law_many"] (defScope s_law_names) := ⟨rfl, rfl, rfl, by decide +kernel, rfl, by decide +kernel, by decide +kernel⟩
abbrev s_law_load : Stmt := (top 55)
abbrev N_law_load : List Str := ["_law_script", "_law_k", "_law_cell", "_law_great"]
theorem sc_law_load : FnScope N_law_load ["_law_script", "_law_k"] (defScope s_law_load) := ⟨rfl, rfl, rfl, by decide +kernel, rfl, by decide +kernel, by decide +kernel⟩
abbrev s_law_web : Stmt := (top 56)
abbrev N_law_web : List Str := ["_law_names_here", "_law_web_here", "_law_name"]
theorem sc_law_web : FnScope N_law_web ["_law_names_here"] (defScope s_law_web) := ⟨rfl, rfl, rfl, by decide +kernel, rfl, by decide +kernel, by decide +kernel⟩
abbrev s_law_deed : Stmt := (top 57)
abbrev N_law_deed : List Str := ["_law_web_here", "_law_script", "_law_k", "_law_most", "_law_number_here", "_law_names_here", "_law_ties", "_law_tail", "_law_many", "_law_step", "_law_head", "_law_way", "_law_mine", "_law_tie"]
theorem sc_law_deed : FnScope N_law_deed ["_law_web_here", "_law_script", "_law_k", "_law_most"] (defScope s_law_deed) := ⟨rfl, rfl, rfl, by decide +kernel, rfl, by decide +kernel, by decide +kernel⟩
abbrev s_law_leads : Stmt := (top 58)
abbrev N_law_leads : List Str := ["_law_web_here", "_law_one", "_law_other"]
theorem sc_law_leads : FnScope N_law_leads ["_law_web_here", "_law_one", "_law_other"] (defScope s_law_leads) := ⟨rfl, rfl, rfl, by decide +kernel, rfl, by decide +kernel, by decide +kernel⟩
abbrev s_law_pair_right : Stmt := (top 59)
abbrev N_law_pair_right : List Str := ["_law_web_here", "_law_at", "_law_one", "_law_other", "_law_there", "_law_back", "_law_border", "_law_inside", "_law_tie", "_law_name"]
theorem sc_law_pair_right : FnScope N_law_pair_right ["_law_web_here", "_law_at", "_law_one", "_law_other"] (defScope s_law_pair_right) := ⟨rfl, rfl, rfl, by decide +kernel, rfl, by decide +kernel, by decide +kernel⟩
abbrev s_law_places : Stmt := (top 60)
abbrev N_law_places : List Str := ["_law_web_here", "_law_found", "_law_place", "_law_mine", "_law_name"]
theorem sc_law_places : FnScope N_law_places ["_law_web_here"] (defScope s_law_places) := ⟨rfl, rfl, rfl, by decide +kernel, rfl, by decide +kernel, by decide +kernel⟩
abbrev s_law_right : Stmt := (top 61)
abbrev N_law_right : List Str := ["_law_web_here", "_law_names_here", "_law_at", "_law_one", "_law_first", "_law_other", "_law_into"]
theorem sc_law_right : FnScope N_law_right ["_law_web_here"] (defScope s_law_right) := ⟨rfl, rfl, rfl, by decide +kernel, rfl, by decide +kernel, by decide +kernel⟩
abbrev s_law_closed : Stmt := (top 62)
abbrev N_law_closed : List Str := ["_law_web_here", "_law_number_here", "_law_names_here", "_law_at", "_law_one", "_law_far", "_law_other", "_law_more", "_law_after"]
theorem sc_law_closed : FnScope N_law_closed ["_law_web_here", "_law_number_here"] (defScope s_law_closed) := ⟨rfl, rfl, rfl, by decide +kernel, rfl, by decide +kernel, by decide +kernel⟩
abbrev s_law : Stmt := (top 63)
abbrev N_law : List Str := ["_law_script", "_law_web_here", "_law_k", "_law_lines"]
theorem sc_law : FnScope N_law ["_law_script"] (defScope s_law) := ⟨rfl, rfl, rfl, by decide +kernel, rfl, by decide +kernel, by decide +kernel⟩
structure Tx (K : PySem.W.Frag) (mg : Str → Option Value) where
  b_all : mg "all" = none
  b_any : mg "any" = none
  b_bool : mg "bool" = none
  b_dict : mg "dict" = none
  b_enumerate : mg "enumerate" = none
  b_int : mg "int" = none
  b_isinstance : mg "isinstance" = none
  b_len : mg "len" = none
  b_list : mg "list" = none
  b_min : mg "min" = none
  b_range : mg "range" = none
  b_set : mg "set" = none
  b_sorted : mg "sorted" = none
  b_str : mg "str" = none
  b_tie : mg "tie" = none
  c_LETTERS : ∃ t, mg "LETTERS" = some (.str "abcdefghijklmnopqrstuvwxyz" t)
  c_MOST_LETTERS : ∃ t, mg "MOST_LETTERS" = some (.int 12 t)
  c_MOST : ∃ t, mg "MOST" = some (.int 1000000000000000000000000000000000000000000000000000000000000 t)
  c_MOST_POINTS : ∃ t, mg "MOST_POINTS" = some (.int 16 t)
  c_MOST_TIES : ∃ t, mg "MOST_TIES" = some (.int 48 t)
  g_Way : mg "Way" = some (.ref (He.ga K "Way"))
  cl_Way : Cls K (He.ga K "Way")
  mk_Way : Mk K (He.ga K "Way") (He.ma K (He.ga K "Way") "__init__")
  na_Way_numbers : NoAttr K (He.ga K "Way") "numbers"
  g_Border : mg "Border" = some (.ref (He.ga K "Border"))
  cl_Border : Cls K (He.ga K "Border")
  mk_Border : Mk K (He.ga K "Border") (He.ma K (He.ga K "Border") "__init__")
  na_Border_names : NoAttr K (He.ga K "Border") "names"
  g_Ring : mg "Ring" = some (.ref (He.ga K "Ring"))
  cl_Ring : Cls K (He.ga K "Ring")
  mk_Ring : Mk K (He.ga K "Ring") (He.ma K (He.ga K "Ring") "__init__")
  na_Ring_numbers : NoAttr K (He.ga K "Ring") "numbers"
  g_Tie : mg "Tie" = some (.ref (He.ga K "Tie"))
  cl_Tie : Cls K (He.ga K "Tie")
  mk_Tie : Mk K (He.ga K "Tie") (He.ma K (He.ga K "Tie") "__init__")
  na_Tie_number : NoAttr K (He.ga K "Tie") "number"
  na_Tie_tail : NoAttr K (He.ga K "Tie") "tail"
  na_Tie_head : NoAttr K (He.ga K "Tie") "head"
  na_Tie_load : NoAttr K (He.ga K "Tie") "load"
  na_Tie_is_oneway : NoAttr K (He.ga K "Tie") "is_oneway"
  g_Web : mg "Web" = some (.ref (He.ga K "Web"))
  cl_Web : Cls K (He.ga K "Web")
  mk_Web : Mk K (He.ga K "Web") (He.ma K (He.ga K "Web") "__init__")
  na_Web_points : NoAttr K (He.ga K "Web") "_points"
  na_Web_ties : NoAttr K (He.ga K "Web") "_ties"
  na_Web_given : NoAttr K (He.ga K "Web") "_given"
  g_wall : mg "_wall" = some (.ref (He.ga K "_wall"))
  g_has_only : mg "_has_only" = some (.ref (He.ga K "_has_only"))
  g_is_whole : mg "is_whole" = some (.ref (He.ga K "is_whole"))
  g_is_among : mg "is_among" = some (.ref (He.ga K "is_among"))
  g_is_name : mg "is_name" = some (.ref (He.ga K "is_name"))
  g_number_text : mg "number_text" = some (.ref (He.ga K "number_text"))
  g_need_all : mg "need_all" = some (.ref (He.ga K "need_all"))
  g_names_in : mg "names_in" = some (.ref (He.ga K "names_in"))
  g_free_steps : mg "free_steps" = some (.ref (He.ga K "free_steps"))
  g_came_from : mg "came_from" = some (.ref (He.ga K "came_from"))
  g_numbers_to : mg "numbers_to" = some (.ref (He.ga K "numbers_to"))
  g_way_or_border : mg "way_or_border" = some (.ref (He.ga K "way_or_border"))
  g_need_points : mg "need_points" = some (.ref (He.ga K "need_points"))
  g_comes : mg "comes" = some (.ref (He.ga K "comes"))
  g_knots_by_points : mg "_knots_by_points" = some (.ref (He.ga K "_knots_by_points"))
  g_is_led_into : mg "_is_led_into" = some (.ref (He.ga K "_is_led_into"))
  g_first_free : mg "_first_free" = some (.ref (He.ga K "_first_free"))
  g_knots : mg "knots" = some (.ref (He.ga K "knots"))
  g_ring_through : mg "ring_through" = some (.ref (He.ga K "ring_through"))
  g_starts : mg "starts" = some (.ref (He.ga K "starts"))
  g_between : mg "_between" = some (.ref (He.ga K "_between"))
  g_turned : mg "_turned" = some (.ref (He.ga K "_turned"))
  m_Web_points : Meth K (He.ga K "Web") "points" (He.ma K (He.ga K "Web") "points")
  m_Web_ties : Meth K (He.ga K "Web") "ties" (He.ma K (He.ga K "Web") "ties")
  m_Web_given : Meth K (He.ga K "Web") "given" (He.ma K (He.ga K "Web") "given")
  m_Web_put_point : Meth K (He.ga K "Web") "put_point" (He.ma K (He.ga K "Web") "put_point")
  m_Web_put_tie : Meth K (He.ga K "Web") "put_tie" (He.ma K (He.ga K "Web") "put_tie")
  m_Web_drop_tie : Meth K (He.ga K "Web") "drop_tie" (He.ma K (He.ga K "Web") "drop_tie")
  m_Web_join : Meth K (He.ga K "Web") "join" (He.ma K (He.ga K "Web") "join")
  m_Web_part : Meth K (He.ga K "Web") "part" (He.ma K (He.ga K "Web") "part")
  m_Web_copied : Meth K (He.ga K "Web") "copied" (He.ma K (He.ga K "Web") "copied")
  m_Web_need_point : Meth K (He.ga K "Web") "_need_point" (He.ma K (He.ga K "Web") "_need_point")
  m_Web_need_new_name : Meth K (He.ga K "Web") "_need_new_name" (He.ma K (He.ga K "Web") "_need_new_name")
  m_Web_need_new_point : Meth K (He.ga K "Web") "_need_new_point" (He.ma K (He.ga K "Web") "_need_new_point")
  m_Web_need_tie : Meth K (He.ga K "Web") "_need_tie" (He.ma K (He.ga K "Web") "_need_tie")
  m_Web_need_ties_at : Meth K (He.ga K "Web") "_need_ties_at" (He.ma K (He.ga K "Web") "_need_ties_at")
  g_need_load : mg "_need_load" = some (.ref (He.ga K "_need_load"))
  g_tie_line : mg "_tie_line" = some (.ref (He.ga K "_tie_line"))
  g_web_lines : mg "web_lines" = some (.ref (He.ga K "web_lines"))
  g_law_number : mg "_law_number" = some (.ref (He.ga K "_law_number"))
  g_law_mixed : mg "_law_mixed" = some (.ref (He.ga K "_law_mixed"))
  g_law_names : mg "_law_names" = some (.ref (He.ga K "_law_names"))
  g_law_load : mg "_law_load" = some (.ref (He.ga K "_law_load"))
  g_law_web : mg "_law_web" = some (.ref (He.ga K "_law_web"))
  g_law_deed : mg "_law_deed" = some (.ref (He.ga K "_law_deed"))
  g_law_leads : mg "_law_leads" = some (.ref (He.ga K "_law_leads"))
  g_law_pair_right : mg "_law_pair_right" = some (.ref (He.ga K "_law_pair_right"))
  g_law_places : mg "_law_places" = some (.ref (He.ga K "_law_places"))
  g_law_right : mg "_law_right" = some (.ref (He.ga K "_law_right"))
  g_law_closed : mg "_law_closed" = some (.ref (He.ga K "_law_closed"))
  g_law : mg "law" = some (.ref (He.ga K "law"))
  fd_wall : FuncData
  F_wall : FunD K "_wall" "_wall" (defArgs s_wall) (defBody s_wall) (defScope s_wall) [] [] (He.ga K "_wall") fd_wall
  k_wall : Binds K fd_wall ["k"] []
  fd_has_only : FuncData
  F_has_only : FunD K "_has_only" "_has_only" (defArgs s_has_only) (defBody s_has_only) (defScope s_has_only) [] [] (He.ga K "_has_only") fd_has_only
  k_has_only : Binds K fd_has_only ["text", "signs"] []
  fd_is_whole : FuncData
  F_is_whole : FunD K "is_whole" "is_whole" (defArgs s_is_whole) (defBody s_is_whole) (defScope s_is_whole) [] [] (He.ga K "is_whole") fd_is_whole
  k_is_whole : Binds K fd_is_whole ["thing"] []
  fd_is_among : FuncData
  F_is_among : FunD K "is_among" "is_among" (defArgs s_is_among) (defBody s_is_among) (defScope s_is_among) [] [] (He.ga K "is_among") fd_is_among
  k_is_among : Binds K fd_is_among ["thing", "least", "most"] []
  fd_is_name : FuncData
  F_is_name : FunD K "is_name" "is_name" (defArgs s_is_name) (defBody s_is_name) (defScope s_is_name) [] [] (He.ga K "is_name") fd_is_name
  k_is_name : Binds K fd_is_name ["thing"] []
  fd_number_text : FuncData
  F_number_text : FunD K "number_text" "number_text" (defArgs s_number_text) (defBody s_number_text) (defScope s_number_text) [] [] (He.ga K "number_text") fd_number_text
  k_number_text : Binds K fd_number_text ["number"] []
  fd_need_all : FuncData
  F_need_all : FunD K "need_all" "need_all" (defArgs s_need_all) (defBody s_need_all) (defScope s_need_all) [] [] (He.ga K "need_all") fd_need_all
  k_need_all : Binds K fd_need_all ["web", "names"] []
  fd_names_in : FuncData
  F_names_in : FunD K "names_in" "names_in" (defArgs s_names_in) (defBody s_names_in) (defScope s_names_in) [] [] (He.ga K "names_in") fd_names_in
  k_names_in : Binds K fd_names_in ["web", "came"] []
  fd_free_steps : FuncData
  F_free_steps : FunD K "free_steps" "free_steps" (defArgs s_free_steps) (defBody s_free_steps) (defScope s_free_steps) [] [] (He.ga K "free_steps") fd_free_steps
  k_free_steps : Binds K fd_free_steps ["names", "ties"] []
  fd_came_from : FuncData
  F_came_from : FunD K "came_from" "came_from" (defArgs s_came_from) (defBody s_came_from) (defScope s_came_from) [] [] (He.ga K "came_from") fd_came_from
  k_came_from : Binds K fd_came_from ["steps", "one"] []
  fd_numbers_to : FuncData
  F_numbers_to : FunD K "numbers_to" "numbers_to" (defArgs s_numbers_to) (defBody s_numbers_to) (defScope s_numbers_to) [] [] (He.ga K "numbers_to") fd_numbers_to
  k_numbers_to : Binds K fd_numbers_to ["came", "target"] []
  fd_Way_init : FuncData
  F_Way_init : FunD K "__init__" "Way.__init__" (defArgs s_Way_init) (defBody s_Way_init) (defScope s_Way_init) [] [] (He.ma K (He.ga K "Way") "__init__") fd_Way_init
  k_Way_init : Binds K fd_Way_init ["self", "numbers"] []
  fd_Border_init : FuncData
  F_Border_init : FunD K "__init__" "Border.__init__" (defArgs s_Border_init) (defBody s_Border_init) (defScope s_Border_init) [] [] (He.ma K (He.ga K "Border") "__init__") fd_Border_init
  k_Border_init : Binds K fd_Border_init ["self", "names"] []
  fd_way_or_border : FuncData
  F_way_or_border : FunD K "way_or_border" "way_or_border" (defArgs s_way_or_border) (defBody s_way_or_border) (defScope s_way_or_border) [] [] (He.ga K "way_or_border") fd_way_or_border
  k_way_or_border : Binds K fd_way_or_border ["web", "came", "other"] []
  fd_need_points : FuncData
  F_need_points : FunD K "need_points" "need_points" (defArgs s_need_points) (defBody s_need_points) (defScope s_need_points) [] [] (He.ga K "need_points") fd_need_points
  k_need_points : Binds K fd_need_points ["web", "names"] []
  fd_Ring_init : FuncData
  F_Ring_init : FunD K "__init__" "Ring.__init__" (defArgs s_Ring_init) (defBody s_Ring_init) (defScope s_Ring_init) [] [] (He.ma K (He.ga K "Ring") "__init__") fd_Ring_init
  k_Ring_init : Binds K fd_Ring_init ["self", "numbers"] []
  fd_comes : FuncData
  F_comes : FunD K "comes" "comes" (defArgs s_comes) (defBody s_comes) (defScope s_comes) [] [] (He.ga K "comes") fd_comes
  k_comes : Binds K fd_comes ["web", "one", "other"] []
  fd_knots_by_points : FuncData
  F_knots_by_points : FunD K "_knots_by_points" "_knots_by_points" (defArgs s_knots_by_points) (defBody s_knots_by_points) (defScope s_knots_by_points) [] [] (He.ga K "_knots_by_points") fd_knots_by_points
  k_knots_by_points : Binds K fd_knots_by_points ["web"] []
  fd_is_led_into : FuncData
  F_is_led_into : FunD K "_is_led_into" "_is_led_into" (defArgs s_is_led_into) (defBody s_is_led_into) (defScope s_is_led_into) [] [] (He.ga K "_is_led_into") fd_is_led_into
  k_is_led_into : Binds K fd_is_led_into ["ties", "knot", "names"] []
  fd_first_free : FuncData
  F_first_free : FunD K "_first_free" "_first_free" (defArgs s_first_free) (defBody s_first_free) (defScope s_first_free) [] [] (He.ga K "_first_free") fd_first_free
  k_first_free : Binds K fd_first_free ["ties", "left"] []
  fd_knots : FuncData
  F_knots : FunD K "knots" "knots" (defArgs s_knots) (defBody s_knots) (defScope s_knots) [] [] (He.ga K "knots") fd_knots
  k_knots : Binds K fd_knots ["web"] []
  fd_ring_through : FuncData
  F_ring_through : FunD K "ring_through" "ring_through" (defArgs s_ring_through) (defBody s_ring_through) (defScope s_ring_through) [] [] (He.ga K "ring_through") fd_ring_through
  k_ring_through : Binds K fd_ring_through ["web", "one", "other"] []
  fd_starts : FuncData
  F_starts : FunD K "starts" "starts" (defArgs s_starts) (defBody s_starts) (defScope s_starts) [] [] (He.ga K "starts") fd_starts
  k_starts : Binds K fd_starts ["web"] []
  fd_Tie_init : FuncData
  F_Tie_init : FunD K "__init__" "Tie.__init__" (defArgs s_Tie_init) (defBody s_Tie_init) (defScope s_Tie_init) [] [] (He.ma K (He.ga K "Tie") "__init__") fd_Tie_init
  k_Tie_init : Binds K fd_Tie_init ["self", "number", "tail", "head", "load", "is_oneway"] []
  fd_between : FuncData
  F_between : FunD K "_between" "_between" (defArgs s_between) (defBody s_between) (defScope s_between) [] [] (He.ga K "_between") fd_between
  k_between : Binds K fd_between ["tie", "tail", "head"] []
  fd_turned : FuncData
  F_turned : FunD K "_turned" "_turned" (defArgs s_turned) (defBody s_turned) (defScope s_turned) [] [] (He.ga K "_turned") fd_turned
  k_turned : Binds K fd_turned ["tie", "name", "other"] []
  fd_Web_init : FuncData
  F_Web_init : FunD K "__init__" "Web.__init__" (defArgs s_Web_init) (defBody s_Web_init) (defScope s_Web_init) [] [] (He.ma K (He.ga K "Web") "__init__") fd_Web_init
  k_Web_init : Binds K fd_Web_init ["self"] []
  fd_Web_points : FuncData
  F_Web_points : FunD K "points" "Web.points" (defArgs s_Web_points) (defBody s_Web_points) (defScope s_Web_points) [] [] (He.ma K (He.ga K "Web") "points") fd_Web_points
  k_Web_points : Binds K fd_Web_points ["self"] []
  fd_Web_ties : FuncData
  F_Web_ties : FunD K "ties" "Web.ties" (defArgs s_Web_ties) (defBody s_Web_ties) (defScope s_Web_ties) [] [] (He.ma K (He.ga K "Web") "ties") fd_Web_ties
  k_Web_ties : Binds K fd_Web_ties ["self"] []
  fd_Web_given : FuncData
  F_Web_given : FunD K "given" "Web.given" (defArgs s_Web_given) (defBody s_Web_given) (defScope s_Web_given) [] [] (He.ma K (He.ga K "Web") "given") fd_Web_given
  k_Web_given : Binds K fd_Web_given ["self"] []
  fd_Web_put_point : FuncData
  F_Web_put_point : FunD K "put_point" "Web.put_point" (defArgs s_Web_put_point) (defBody s_Web_put_point) (defScope s_Web_put_point) [] [] (He.ma K (He.ga K "Web") "put_point") fd_Web_put_point
  k_Web_put_point : Binds K fd_Web_put_point ["self", "name"] []
  fd_Web_put_tie : FuncData
  F_Web_put_tie : FunD K "put_tie" "Web.put_tie" (defArgs s_Web_put_tie) (defBody s_Web_put_tie) (defScope s_Web_put_tie) [.int 0, .bl false] [] (He.ma K (He.ga K "Web") "put_tie") fd_Web_put_tie
  k_Web_put_tie_0 : ∃ ds, Vals [.int 0, .bl false] ds ∧ Binds K fd_Web_put_tie ["self", "tail", "head", "load", "is_oneway"] ds
  k_Web_put_tie_1 : ∃ ds, Vals [.bl false] ds ∧ Binds K fd_Web_put_tie ["self", "tail", "head", "load", "is_oneway"] ds
  k_Web_put_tie_2 : ∃ ds, Vals [] ds ∧ Binds K fd_Web_put_tie ["self", "tail", "head", "load", "is_oneway"] ds
  fd_Web_drop_tie : FuncData
  F_Web_drop_tie : FunD K "drop_tie" "Web.drop_tie" (defArgs s_Web_drop_tie) (defBody s_Web_drop_tie) (defScope s_Web_drop_tie) [] [] (He.ma K (He.ga K "Web") "drop_tie") fd_Web_drop_tie
  k_Web_drop_tie : Binds K fd_Web_drop_tie ["self", "number"] []
  fd_Web_join : FuncData
  F_Web_join : FunD K "join" "Web.join" (defArgs s_Web_join) (defBody s_Web_join) (defScope s_Web_join) [] [] (He.ma K (He.ga K "Web") "join") fd_Web_join
  k_Web_join : Binds K fd_Web_join ["self", "name", "other"] []
  fd_Web_part : FuncData
  F_Web_part : FunD K "part" "Web.part" (defArgs s_Web_part) (defBody s_Web_part) (defScope s_Web_part) [] [] (He.ma K (He.ga K "Web") "part") fd_Web_part
  k_Web_part : Binds K fd_Web_part ["self", "name", "other", "numbers"] []
  fd_Web_copied : FuncData
  F_Web_copied : FunD K "copied" "Web.copied" (defArgs s_Web_copied) (defBody s_Web_copied) (defScope s_Web_copied) [] [] (He.ma K (He.ga K "Web") "copied") fd_Web_copied
  k_Web_copied : Binds K fd_Web_copied ["self"] []
  fd_Web_need_point : FuncData
  F_Web_need_point : FunD K "_need_point" "Web._need_point" (defArgs s_Web_need_point) (defBody s_Web_need_point) (defScope s_Web_need_point) [] [] (He.ma K (He.ga K "Web") "_need_point") fd_Web_need_point
  k_Web_need_point : Binds K fd_Web_need_point ["self", "name"] []
  fd_Web_need_new_name : FuncData
  F_Web_need_new_name : FunD K "_need_new_name" "Web._need_new_name" (defArgs s_Web_need_new_name) (defBody s_Web_need_new_name) (defScope s_Web_need_new_name) [] [] (He.ma K (He.ga K "Web") "_need_new_name") fd_Web_need_new_name
  k_Web_need_new_name : Binds K fd_Web_need_new_name ["self", "name"] []
  fd_Web_need_new_point : FuncData
  F_Web_need_new_point : FunD K "_need_new_point" "Web._need_new_point" (defArgs s_Web_need_new_point) (defBody s_Web_need_new_point) (defScope s_Web_need_new_point) [] [] (He.ma K (He.ga K "Web") "_need_new_point") fd_Web_need_new_point
  k_Web_need_new_point : Binds K fd_Web_need_new_point ["self", "name"] []
  fd_Web_need_tie : FuncData
  F_Web_need_tie : FunD K "_need_tie" "Web._need_tie" (defArgs s_Web_need_tie) (defBody s_Web_need_tie) (defScope s_Web_need_tie) [] [] (He.ma K (He.ga K "Web") "_need_tie") fd_Web_need_tie
  k_Web_need_tie : Binds K fd_Web_need_tie ["self", "number"] []
  fd_Web_need_ties_at : FuncData
  F_Web_need_ties_at : FunD K "_need_ties_at" "Web._need_ties_at" (defArgs s_Web_need_ties_at) (defBody s_Web_need_ties_at) (defScope s_Web_need_ties_at) [] [] (He.ma K (He.ga K "Web") "_need_ties_at") fd_Web_need_ties_at
  k_Web_need_ties_at : Binds K fd_Web_need_ties_at ["self", "name", "numbers"] []
  fd_need_load : FuncData
  F_need_load : FunD K "_need_load" "_need_load" (defArgs s_need_load) (defBody s_need_load) (defScope s_need_load) [] [] (He.ga K "_need_load") fd_need_load
  k_need_load : Binds K fd_need_load ["load"] []
  fd_tie_line : FuncData
  F_tie_line : FunD K "_tie_line" "_tie_line" (defArgs s_tie_line) (defBody s_tie_line) (defScope s_tie_line) [] [] (He.ga K "_tie_line") fd_tie_line
  k_tie_line : Binds K fd_tie_line ["tie"] []
  fd_web_lines : FuncData
  F_web_lines : FunD K "web_lines" "web_lines" (defArgs s_web_lines) (defBody s_web_lines) (defScope s_web_lines) [] [] (He.ga K "web_lines") fd_web_lines
  k_web_lines : Binds K fd_web_lines ["web"] []
  fd_law_number : FuncData
  F_law_number : FunD K "_law_number" "_law_number" (defArgs s_law_number) (defBody s_law_number) (defScope s_law_number) [] [] (He.ga K "_law_number") fd_law_number
  k_law_number : Binds K fd_law_number ["_law_script", "_law_k"] []
  fd_law_mixed : FuncData
  F_law_mixed : FunD K "_law_mixed" "_law_mixed" (defArgs s_law_mixed) (defBody s_law_mixed) (defScope s_law_mixed) [] [] (He.ga K "_law_mixed") fd_law_mixed
  k_law_mixed : Binds K fd_law_mixed ["_law_number_here", "_law_k"] []
  fd_law_names : FuncData
  F_law_names : FunD K "_law_names" "_law_names" (defArgs s_law_names) (defBody s_law_names) (defScope s_law_names) [] [] (He.ga K "_law_names") fd_law_names
  k_law_names : Binds K fd_law_names ["_law_number_here", "_law_many"] []
  fd_law_load : FuncData
  F_law_load : FunD K "_law_load" "_law_load" (defArgs s_law_load) (defBody s_law_load) (defScope s_law_load) [] [] (He.ga K "_law_load") fd_law_load
  k_law_load : Binds K fd_law_load ["_law_script", "_law_k"] []
  fd_law_web : FuncData
  F_law_web : FunD K "_law_web" "_law_web" (defArgs s_law_web) (defBody s_law_web) (defScope s_law_web) [] [] (He.ga K "_law_web") fd_law_web
  k_law_web : Binds K fd_law_web ["_law_names_here"] []
  fd_law_deed : FuncData
  F_law_deed : FunD K "_law_deed" "_law_deed" (defArgs s_law_deed) (defBody s_law_deed) (defScope s_law_deed) [] [] (He.ga K "_law_deed") fd_law_deed
  k_law_deed : Binds K fd_law_deed ["_law_web_here", "_law_script", "_law_k", "_law_most"] []
  fd_law_leads : FuncData
  F_law_leads : FunD K "_law_leads" "_law_leads" (defArgs s_law_leads) (defBody s_law_leads) (defScope s_law_leads) [] [] (He.ga K "_law_leads") fd_law_leads
  k_law_leads : Binds K fd_law_leads ["_law_web_here", "_law_one", "_law_other"] []
  fd_law_pair_right : FuncData
  F_law_pair_right : FunD K "_law_pair_right" "_law_pair_right" (defArgs s_law_pair_right) (defBody s_law_pair_right) (defScope s_law_pair_right) [] [] (He.ga K "_law_pair_right") fd_law_pair_right
  k_law_pair_right : Binds K fd_law_pair_right ["_law_web_here", "_law_at", "_law_one", "_law_other"] []
  fd_law_places : FuncData
  F_law_places : FunD K "_law_places" "_law_places" (defArgs s_law_places) (defBody s_law_places) (defScope s_law_places) [] [] (He.ga K "_law_places") fd_law_places
  k_law_places : Binds K fd_law_places ["_law_web_here"] []
  fd_law_right : FuncData
  F_law_right : FunD K "_law_right" "_law_right" (defArgs s_law_right) (defBody s_law_right) (defScope s_law_right) [] [] (He.ga K "_law_right") fd_law_right
  k_law_right : Binds K fd_law_right ["_law_web_here"] []
  fd_law_closed : FuncData
  F_law_closed : FunD K "_law_closed" "_law_closed" (defArgs s_law_closed) (defBody s_law_closed) (defScope s_law_closed) [] [] (He.ga K "_law_closed") fd_law_closed
  k_law_closed : Binds K fd_law_closed ["_law_web_here", "_law_number_here"] []
  fd_law : FuncData
  F_law : FunD K "law" "law" (defArgs s_law) (defBody s_law) (defScope s_law) [] [] (He.ga K "law") fd_law
  k_law : Binds K fd_law ["_law_script"] []
/-- the table of _is_led_into's code object -/
abbrev tb (K : PySem.W.Frag) : Addr := AnyL.tbV K (He.ga K "_is_led_into")
structure Js (P : Program) (w : World) (K : PySem.W.Frag) (mg : Str → Option Value) (base : Heap) : Prop where
  tab : GxR.TabB base mg (AnyL.cdV K (He.ga K "_is_led_into")) (AnyL.tbV K (He.ga K "_is_led_into"))
  cdo : AnyL.CodeOf K (He.ga K "_is_led_into")
/-- what an instance of a class is -/
def isA (K : PySem.W.Frag) (x : Str) : Bool :=
  decide (PySem.W.findIn K (.ref (He.ga K x)) "__class__" = some (some (.builtin "object.__class__"))) && decide (PySem.W.mroIn K (He.ga K x) (.type "object") = some true)
def isTo (K : PySem.W.Frag) (x y : Str) (b : Bool) : Bool := decide (PySem.W.kitOne K (.ref (He.ga K x)) (.ref (He.ga K y)) = some b)
def extra (K : PySem.W.Frag) : Bool :=
  (isA K "Way" && (isA K "Border" && isA K "Ring")) &&
  (decide (PySem.W.specialIn K (.builtin "object.__class__") "__get__" = some (some (.builtin "getset_descriptor.__get__"))) &&
  decide (PySem.W.takesIn K (.builtin "object.__class__") = some true)) &&
  (isTo K "Way" "Border" false && (isTo K "Border" "Border" true && (isTo K "Ring" "Ring" true && (isTo K "Border" "Ring" false && (isTo K "Way" "Way" true && isTo K "Border" "Way" false)))))
end K18

set_option Elab.async false
set_option linter.all false
set_option maxRecDepth 100000
set_option maxHeartbeats 4000000
namespace K18
open PySem PySem.Spec PyProof.Rows L2 HX

def d_wall : He.DefD := ⟨("_wall", none), "_wall", "_wall", defArgs s_wall, defBody s_wall, defScope s_wall, [], []⟩
def d_has_only : He.DefD := ⟨("_has_only", none), "_has_only", "_has_only", defArgs s_has_only, defBody s_has_only, defScope s_has_only, [], []⟩
def d_is_whole : He.DefD := ⟨("is_whole", none), "is_whole", "is_whole", defArgs s_is_whole, defBody s_is_whole, defScope s_is_whole, [], []⟩
def d_is_among : He.DefD := ⟨("is_among", none), "is_among", "is_among", defArgs s_is_among, defBody s_is_among, defScope s_is_among, [], []⟩
def d_is_name : He.DefD := ⟨("is_name", none), "is_name", "is_name", defArgs s_is_name, defBody s_is_name, defScope s_is_name, [], []⟩
def d_number_text : He.DefD := ⟨("number_text", none), "number_text", "number_text", defArgs s_number_text, defBody s_number_text, defScope s_number_text, [], []⟩
def d_need_all : He.DefD := ⟨("need_all", none), "need_all", "need_all", defArgs s_need_all, defBody s_need_all, defScope s_need_all, [], []⟩
def d_names_in : He.DefD := ⟨("names_in", none), "names_in", "names_in", defArgs s_names_in, defBody s_names_in, defScope s_names_in, [], []⟩
def d_free_steps : He.DefD := ⟨("free_steps", none), "free_steps", "free_steps", defArgs s_free_steps, defBody s_free_steps, defScope s_free_steps, [], []⟩
def d_came_from : He.DefD := ⟨("came_from", none), "came_from", "came_from", defArgs s_came_from, defBody s_came_from, defScope s_came_from, [], []⟩
def d_numbers_to : He.DefD := ⟨("numbers_to", none), "numbers_to", "numbers_to", defArgs s_numbers_to, defBody s_numbers_to, defScope s_numbers_to, [], []⟩
def d_Way_init : He.DefD := ⟨("Way", some "__init__"), "__init__", "Way.__init__", defArgs s_Way_init, defBody s_Way_init, defScope s_Way_init, [], []⟩
def d_Border_init : He.DefD := ⟨("Border", some "__init__"), "__init__", "Border.__init__", defArgs s_Border_init, defBody s_Border_init, defScope s_Border_init, [], []⟩
def d_way_or_border : He.DefD := ⟨("way_or_border", none), "way_or_border", "way_or_border", defArgs s_way_or_border, defBody s_way_or_border, defScope s_way_or_border, [], []⟩
def d_need_points : He.DefD := ⟨("need_points", none), "need_points", "need_points", defArgs s_need_points, defBody s_need_points, defScope s_need_points, [], []⟩
def d_Ring_init : He.DefD := ⟨("Ring", some "__init__"), "__init__", "Ring.__init__", defArgs s_Ring_init, defBody s_Ring_init, defScope s_Ring_init, [], []⟩
def d_comes : He.DefD := ⟨("comes", none), "comes", "comes", defArgs s_comes, defBody s_comes, defScope s_comes, [], []⟩
def d_knots_by_points : He.DefD := ⟨("_knots_by_points", none), "_knots_by_points", "_knots_by_points", defArgs s_knots_by_points, defBody s_knots_by_points, defScope s_knots_by_points, [], []⟩
def d_is_led_into : He.DefD := ⟨("_is_led_into", none), "_is_led_into", "_is_led_into", defArgs s_is_led_into, defBody s_is_led_into, defScope s_is_led_into, [], []⟩
def d_first_free : He.DefD := ⟨("_first_free", none), "_first_free", "_first_free", defArgs s_first_free, defBody s_first_free, defScope s_first_free, [], []⟩
def d_knots : He.DefD := ⟨("knots", none), "knots", "knots", defArgs s_knots, defBody s_knots, defScope s_knots, [], []⟩
def d_ring_through : He.DefD := ⟨("ring_through", none), "ring_through", "ring_through", defArgs s_ring_through, defBody s_ring_through, defScope s_ring_through, [], []⟩
def d_starts : He.DefD := ⟨("starts", none), "starts", "starts", defArgs s_starts, defBody s_starts, defScope s_starts, [], []⟩
def d_Tie_init : He.DefD := ⟨("Tie", some "__init__"), "__init__", "Tie.__init__", defArgs s_Tie_init, defBody s_Tie_init, defScope s_Tie_init, [], []⟩
def d_between : He.DefD := ⟨("_between", none), "_between", "_between", defArgs s_between, defBody s_between, defScope s_between, [], []⟩
def d_turned : He.DefD := ⟨("_turned", none), "_turned", "_turned", defArgs s_turned, defBody s_turned, defScope s_turned, [], []⟩
def d_Web_init : He.DefD := ⟨("Web", some "__init__"), "__init__", "Web.__init__", defArgs s_Web_init, defBody s_Web_init, defScope s_Web_init, [], []⟩
def d_Web_points : He.DefD := ⟨("Web", some "points"), "points", "Web.points", defArgs s_Web_points, defBody s_Web_points, defScope s_Web_points, [], []⟩
def d_Web_ties : He.DefD := ⟨("Web", some "ties"), "ties", "Web.ties", defArgs s_Web_ties, defBody s_Web_ties, defScope s_Web_ties, [], []⟩
def d_Web_given : He.DefD := ⟨("Web", some "given"), "given", "Web.given", defArgs s_Web_given, defBody s_Web_given, defScope s_Web_given, [], []⟩
def d_Web_put_point : He.DefD := ⟨("Web", some "put_point"), "put_point", "Web.put_point", defArgs s_Web_put_point, defBody s_Web_put_point, defScope s_Web_put_point, [], []⟩
def d_Web_put_tie : He.DefD := ⟨("Web", some "put_tie"), "put_tie", "Web.put_tie", defArgs s_Web_put_tie, defBody s_Web_put_tie, defScope s_Web_put_tie, [.int 0, .bl false], []⟩
def d_Web_drop_tie : He.DefD := ⟨("Web", some "drop_tie"), "drop_tie", "Web.drop_tie", defArgs s_Web_drop_tie, defBody s_Web_drop_tie, defScope s_Web_drop_tie, [], []⟩
def d_Web_join : He.DefD := ⟨("Web", some "join"), "join", "Web.join", defArgs s_Web_join, defBody s_Web_join, defScope s_Web_join, [], []⟩
def d_Web_part : He.DefD := ⟨("Web", some "part"), "part", "Web.part", defArgs s_Web_part, defBody s_Web_part, defScope s_Web_part, [], []⟩
def d_Web_copied : He.DefD := ⟨("Web", some "copied"), "copied", "Web.copied", defArgs s_Web_copied, defBody s_Web_copied, defScope s_Web_copied, [], []⟩
def d_Web_need_point : He.DefD := ⟨("Web", some "_need_point"), "_need_point", "Web._need_point", defArgs s_Web_need_point, defBody s_Web_need_point, defScope s_Web_need_point, [], []⟩
def d_Web_need_new_name : He.DefD := ⟨("Web", some "_need_new_name"), "_need_new_name", "Web._need_new_name", defArgs s_Web_need_new_name, defBody s_Web_need_new_name, defScope s_Web_need_new_name, [], []⟩
def d_Web_need_new_point : He.DefD := ⟨("Web", some "_need_new_point"), "_need_new_point", "Web._need_new_point", defArgs s_Web_need_new_point, defBody s_Web_need_new_point, defScope s_Web_need_new_point, [], []⟩
def d_Web_need_tie : He.DefD := ⟨("Web", some "_need_tie"), "_need_tie", "Web._need_tie", defArgs s_Web_need_tie, defBody s_Web_need_tie, defScope s_Web_need_tie, [], []⟩
def d_Web_need_ties_at : He.DefD := ⟨("Web", some "_need_ties_at"), "_need_ties_at", "Web._need_ties_at", defArgs s_Web_need_ties_at, defBody s_Web_need_ties_at, defScope s_Web_need_ties_at, [], []⟩
def d_need_load : He.DefD := ⟨("_need_load", none), "_need_load", "_need_load", defArgs s_need_load, defBody s_need_load, defScope s_need_load, [], []⟩
def d_tie_line : He.DefD := ⟨("_tie_line", none), "_tie_line", "_tie_line", defArgs s_tie_line, defBody s_tie_line, defScope s_tie_line, [], []⟩
def d_web_lines : He.DefD := ⟨("web_lines", none), "web_lines", "web_lines", defArgs s_web_lines, defBody s_web_lines, defScope s_web_lines, [], []⟩
def d_law_number : He.DefD := ⟨("_law_number", none), "_law_number", "_law_number", defArgs s_law_number, defBody s_law_number, defScope s_law_number, [], []⟩
def d_law_mixed : He.DefD := ⟨("_law_mixed", none), "_law_mixed", "_law_mixed", defArgs s_law_mixed, defBody s_law_mixed, defScope s_law_mixed, [], []⟩
def d_law_names : He.DefD := ⟨("_law_names", none), "_law_names", "_law_names", defArgs s_law_names, defBody s_law_names, defScope s_law_names, [], []⟩
def d_law_load : He.DefD := ⟨("_law_load", none), "_law_load", "_law_load", defArgs s_law_load, defBody s_law_load, defScope s_law_load, [], []⟩
def d_law_web : He.DefD := ⟨("_law_web", none), "_law_web", "_law_web", defArgs s_law_web, defBody s_law_web, defScope s_law_web, [], []⟩
def d_law_deed : He.DefD := ⟨("_law_deed", none), "_law_deed", "_law_deed", defArgs s_law_deed, defBody s_law_deed, defScope s_law_deed, [], []⟩
def d_law_leads : He.DefD := ⟨("_law_leads", none), "_law_leads", "_law_leads", defArgs s_law_leads, defBody s_law_leads, defScope s_law_leads, [], []⟩
def d_law_pair_right : He.DefD := ⟨("_law_pair_right", none), "_law_pair_right", "_law_pair_right", defArgs s_law_pair_right, defBody s_law_pair_right, defScope s_law_pair_right, [], []⟩
def d_law_places : He.DefD := ⟨("_law_places", none), "_law_places", "_law_places", defArgs s_law_places, defBody s_law_places, defScope s_law_places, [], []⟩
def d_law_right : He.DefD := ⟨("_law_right", none), "_law_right", "_law_right", defArgs s_law_right, defBody s_law_right, defScope s_law_right, [], []⟩
def d_law_closed : He.DefD := ⟨("_law_closed", none), "_law_closed", "_law_closed", defArgs s_law_closed, defBody s_law_closed, defScope s_law_closed, [], []⟩
def d_law : He.DefD := ⟨("law", none), "law", "law", defArgs s_law, defBody s_law, defScope s_law, [], []⟩
def fn : List He.DefD := [d_wall, d_has_only, d_is_whole, d_is_among, d_is_name, d_number_text, d_need_all, d_names_in, d_free_steps, d_came_from, d_numbers_to, d_Way_init, d_Border_init, d_way_or_border, d_need_points, d_Ring_init, d_comes, d_knots_by_points, d_is_led_into, d_first_free, d_knots, d_ring_through, d_starts, d_Tie_init, d_between, d_turned, d_Web_init, d_Web_points, d_Web_ties, d_Web_given, d_Web_put_point, d_Web_put_tie, d_Web_drop_tie, d_Web_join, d_Web_part, d_Web_copied, d_Web_need_point, d_Web_need_new_name, d_Web_need_new_point, d_Web_need_tie, d_Web_need_ties_at, d_need_load, d_tie_line, d_web_lines, d_law_number, d_law_mixed, d_law_names, d_law_load, d_law_web, d_law_deed, d_law_leads, d_law_pair_right, d_law_places, d_law_right, d_law_closed, d_law]
def fa : List He.Fa := [.free "all", .free "any", .free "bool", .free "dict", .free "enumerate", .free "int", .free "isinstance", .free "len", .free "list", .free "min", .free "range", .free "set", .free "sorted", .free "str", .free "tie", .str "LETTERS" "abcdefghijklmnopqrstuvwxyz", .int "MOST_LETTERS" 12, .int "MOST" 1000000000000000000000000000000000000000000000000000000000000, .int "MOST_POINTS" 16, .int "MOST_TIES" 48, .glo "Way", .cls "Way", .mkr "Way", .noat "Way" "numbers", .glo "Border", .cls "Border", .mkr "Border", .noat "Border" "names", .glo "Ring", .cls "Ring", .mkr "Ring", .noat "Ring" "numbers", .glo "Tie", .cls "Tie", .mkr "Tie", .noat "Tie" "number", .noat "Tie" "tail", .noat "Tie" "head", .noat "Tie" "load", .noat "Tie" "is_oneway", .glo "Web", .cls "Web", .mkr "Web", .noat "Web" "_points", .noat "Web" "_ties", .noat "Web" "_given", .glo "_wall", .glo "_has_only", .glo "is_whole", .glo "is_among", .glo "is_name", .glo "number_text", .glo "need_all", .glo "names_in", .glo "free_steps", .glo "came_from", .glo "numbers_to", .glo "way_or_border", .glo "need_points", .glo "comes", .glo "_knots_by_points", .glo "_is_led_into", .glo "_first_free", .glo "knots", .glo "ring_through", .glo "starts", .glo "_between", .glo "_turned", .meth "Web" "points", .meth "Web" "ties", .meth "Web" "given", .meth "Web" "put_point", .meth "Web" "put_tie", .meth "Web" "drop_tie", .meth "Web" "join", .meth "Web" "part", .meth "Web" "copied", .meth "Web" "_need_point", .meth "Web" "_need_new_name", .meth "Web" "_need_new_point", .meth "Web" "_need_tie", .meth "Web" "_need_ties_at", .glo "_need_load", .glo "_tie_line", .glo "web_lines", .glo "_law_number", .glo "_law_mixed", .glo "_law_names", .glo "_law_load", .glo "_law_web", .glo "_law_deed", .glo "_law_leads", .glo "_law_pair_right", .glo "_law_places", .glo "_law_right", .glo "_law_closed", .glo "law"]
abbrev R : PySem.W.OpenRow := PySem.W.OpenLaw.row PySem.Challenge.rw_reachbook_k18_whole_comes_and_knots
abbrev hk : PySem.W.Hook := He.hookT 6 extra ["_is_led_into"] fa fn
def ob (s : PySem.W.SharedT) : He.AlD := He.obsTG 6 extra ["_is_led_into"] fa fn (HandSHeadRun.getT s)
theorem ob_eq (s : PySem.W.SharedT) : ob s = hk.obs s.abs := He.obsTG_eq (HandSHeadRun.getT_eq s)
def loose0 : List Str := ["_wall", "WebError", "BadName", "Twice", "TooMany", "BadTie", "BadLoad", "SamePoint", "NoPoint", "NoTie", "_has_only", "is_whole", "is_among", "is_name", "number_text", "need_all", "names_in", "free_steps", "came_from", "numbers_to", "Way", "Border", "way_or_border", "need_points", "Ring", "comes", "_knots_by_points", "_is_led_into", "_first_free", "knots"]
def loose1 : List Str := ["ring_through", "starts", "Tie", "_between", "_turned", "Web", "_need_load", "_tie_line", "web_lines", "_law_number", "_law_mixed", "_law_names", "_law_load", "_law_web", "_law_deed", "_law_leads", "_law_pair_right", "_law_places", "_law_right", "_law_closed", "LETTERS", "MOST_LETTERS", "MOST", "MOST_POINTS", "MOST_TIES"]
def loose : List Str := loose0 ++ loose1
theorem run (w : World) : HandSHeadRun.RunEq R (PySem.W.view R.prog [63]) hk ob 9000 loose w := by
  intro os
  kernel_rfl
end K18

set_option Elab.async false
set_option linter.all false
set_option maxRecDepth 100000
set_option maxHeartbeats 2000000
/-! HXw: steps of a reading over attributes, methods, makings, dicts and their views, sets, tuples. -/
namespace HX
open PySem PySem.Spec PyProof.Rows L2
def kFld (K : PySem.W.Frag) (f : Str) (Q : VK) : VK := fun x H1 => ∃ a C dx fs v, x = .ref a ∧ H1 a = some (.ins C dx fs) ∧ Cls K C ∧ NoAttr K C f ∧ fs.lookup f = some v ∧ Q v H1
def kSFld (K : PySem.W.Frag) (f : Str) (y : V) (D : Ends) (σ : L2.St) : VK := fun x H2 => ∃ a C dx fs, x = .ref a ∧ H2 a = some (.ins C dx fs) ∧ Cls K C ∧ NoAttr K C f ∧ fs.length < 1000 ∧ D.nx σ (upd H2 a (.ins C dx (putF f y fs)))
def kMeth (m : Str) (sp : Sp) (dvs : List V) (E : XK) (t : TA) (σ : L2.St) (Q : VK) : VK := fun x H1 => ∃ a C dx fs, x = .ref a ∧ H1 a = some (.ins C dx fs) ∧ fs.lookup m = none ∧ t σ H1 fun vs H2 => sp (x :: (vs ++ dvs)) H2 Q E
def kFldAug (K : PySem.W.Frag) (tv : TE) (rd : V → V → Hp → VK → Prop) (f : Str) (D : Ends) (σ : L2.St) : VK := fun x H1 => ∃ a C dx fs v, x = .ref a ∧ H1 a = some (.ins C dx fs) ∧ Cls K C ∧ NoAttr K C f ∧ fs.lookup f = some v ∧ tv σ H1 fun y H2 => rd v y H2 fun z H3 => ∃ dx' fs', H3 a = some (.ins C dx' fs') ∧ fs'.length < 1000 ∧ D.nx σ (upd H3 a (.ins C dx' (putF f z fs')))
def kVals (R : It → Hp → Prop) : VK := fun x H1 => ∃ d o kvs, x = .ref d ∧ H1 d = some (.frz o (.dK kvs)) ∧ R (Itd d o kvs) H1
def kItems (R : It → Hp → Prop) : VK := fun x H1 => ∃ d o kvs, x = .ref d ∧ H1 d = some (.frz o (.dK kvs)) ∧ R (Iti d o kvs) H1
def kDGet (x : V) (Q : VK) : VK := fun y H2 => ∃ a v, x = .ref a ∧ DGet H2 a y (some v) ∧ Q v H2
def kDPut (x v : V) (D : Ends) (σ : L2.St) : VK := fun y H3 => ∃ a H4, x = .ref a ∧ DPut H3 a y v H4 ∧ D.nx σ H4
def kDIn (y : V) (Q : VK) : VK := fun x H2 => ∃ a o, x = .ref a ∧ DGet H2 a y o ∧ Q (.bl o.isSome) H2
def kDNotIn (y : V) (Q : VK) : VK := fun x H2 => ∃ a o, x = .ref a ∧ DGet H2 a y o ∧ Q (.bl !o.isSome) H2
def kDPop1 (ty : TE) (σ : L2.St) (Q : VK) : VK := fun x H1 => ∃ a, x = .ref a ∧ IsD H1 a ∧ ty σ H1 fun y H2 => ∃ kvs k v, H2 a = some (.dK kvs) ∧ y = kV k ∧ valV kvs k = some v ∧ Q v (upd H2 a (.dK (dropK kvs k)))
def kDDel (x : V) (D : Ends) (σ : L2.St) : VK := fun y H2 => ∃ a kvs k, x = .ref a ∧ H2 a = some (.dK kvs) ∧ y = kV k ∧ (valV kvs k).isSome = true ∧ D.nx σ (upd H2 a (.dK (dropK kvs k)))
def DcW (J : It) (g : TG) (tt : TT) (tk tv : TE) (vs : List Nat) (σ : L2.St) (H1 : Hp) (Q : VK) : Prop := ∀ D, H1 D = none → ∃ W : Nat → Nat → Hp → Prop, (∃ m, W 0 m (upd H1 D (.dK []))) ∧ ∀ i m H, W i m H →
  (J.stop i H ∧ Q (.ref D) H) ∨ (J.go i H ∧ ∃ Nx : Hp → Prop, (∀ H', Nx H' → ∃ m', m' < m ∧ W (i + 1) m' H') ∧ ∀ x H', J.yld i H x H' → g x (wipe σ vs) H' fun σ2 H2 => wipe σ2 vs = wipe σ vs ∧ tt σ2 H2 fun b H3 =>
    if b = true then tk σ2 H3 fun y H4 => tv σ2 H4 fun z H5 => ∃ kvs k, y = kV k ∧ H5 D = some (.dK kvs) ∧ kvs.length < sizeLine ∧ Nx (upd H5 D (.dK (putK kvs k z))) else Nx H3)
def kEnum (K : PySem.W.Frag) (R : It → Hp → Prop) : List V → Hp → Prop := fun vs H1 => ∃ a xs, vs = [.ref a] ∧ SqL K H1 a xs ∧ R (Ite K a) H1
section
variable {K : PySem.W.Frag} {σ : L2.St} {H : Hp} {i : Nat} {v x y z : V} {ta tb te tc td tv ty tk : TE} {tas : TA} {Q : VK} {D : Ends} {t u : TS} {g : TG} {tt : TT} {R : It → Hp → Prop} {a C dx : Addr} {fs : List (Str × V)} {f : Str} {sp : Sp} {dvs : List V} {E : XK} {kvs : List (Key × V)} {k : Key} {QB : Bool → Hp → Prop}
theorem i_fld (q : ta σ H (kFld K f Q)) : tFld K ta f σ H Q := q
theorem i_kFld (h : H a = some (.ins C dx fs)) (c1 : Cls K C) (c2 : NoAttr K C f) (e : fs.lookup f = some v) (q : Q v H) : kFld K f Q (.ref a) H := ⟨a, C, dx, fs, v, rfl, h, c1, c2, e, q⟩
theorem i_sfld (q : tv σ H fun y H1 => ta σ H1 (kSFld K f y D σ)) : sFld K ta tv f D σ H := q
theorem i_kSFld (h : H a = some (.ins C dx fs)) (c1 : Cls K C) (c2 : NoAttr K C f) (e : fs.length < 1000) (q : D.nx σ (upd H a (.ins C dx (putF f y fs)))) : kSFld K f y D σ (.ref a) H := ⟨a, C, dx, fs, rfl, h, c1, c2, e, q⟩
theorem i_meth (q : ta σ H (kMeth f sp dvs E tas σ Q)) (hC : ∀ a C' dx fs, H a = some (.ins C' dx fs) → C' = C) : True := trivial
def kMethC (C : Addr) (m : Str) (sp : Sp) (dvs : List V) (E : XK) (t : TA) (σ : L2.St) (Q : VK) : VK := fun x H1 => ∃ a dx fs, x = .ref a ∧ H1 a = some (.ins C dx fs) ∧ fs.lookup m = none ∧ t σ H1 fun vs H2 => sp (x :: (vs ++ dvs)) H2 Q E
theorem i_methC (q : ta σ H (kMethC C f sp dvs E tas σ Q)) : tMeth C f sp dvs E ta tas σ H Q := q
theorem i_kMethC (h : H a = some (.ins C dx fs)) (e : fs.lookup f = none) (q : tas σ H fun vs H2 => sp (.ref a :: (vs ++ dvs)) H2 Q E) : kMethC C f sp dvs E tas σ Q (.ref a) H := ⟨a, dx, fs, rfl, h, e, q⟩
theorem i_make (q : tas σ H fun vs H1 => ∀ x dx : Addr, H1 x = none → H1 dx = none → dx ≠ x → sp (.ref x :: (vs ++ dvs)) (upd (upd H1 dx (.own x)) x (.ins C dx [])) (fun v H2 => v = .non ∧ Q (.ref x) H2) E) : tMake C sp dvs E tas σ H Q := q
theorem i_fldaug {rd : V → V → Hp → VK → Prop} (q : ta σ H (kFldAug K tv rd f D σ)) : sFldAug K ta tv rd f D σ H := q
theorem i_kFldAugI {j : Int} {m : Int} (h : H a = some (.ins C dx fs)) (c1 : Cls K C) (c2 : NoAttr K C f) (e : fs.lookup f = some (.int j)) (n : fs.length < 1000) (q : D.nx σ (upd H a (.ins C dx (putF f (.int (j + m)) fs)))) : kFldAug K (tC (.int m)) rAdd f D σ (.ref a) H := ⟨a, C, dx, fs, .int j, rfl, h, c1, c2, e, ⟨j, m, rfl, rfl, dx, fs, h, n, q⟩⟩
theorem i_lock {d : Addr} {o : HO} (h : H d = some o) (c : Mut (some o)) (q : ∀ od, t { nx := fun σ' H' => H' d = some (.frz od o) ∧ D.nx σ' (upd H' d o), rt := fun v H' => H' d = some (.frz od o) ∧ D.rt v (upd H' d o), bk := fun σ' H' => H' d = some (.frz od o) ∧ D.bk σ' (upd H' d o), ct := fun σ' H' => H' d = some (.frz od o) ∧ D.ct σ' (upd H' d o) } σ (upd H d (.frz od o))) : tLock t D σ H := ⟨d, o, h, c, q⟩
theorem i_lockE {d : Addr} {o : HO} (h : H d = some o) (c : Mut (some o)) (q : ∀ od, te σ (upd H d (.frz od o)) fun v H' => H' d = some (.frz od o) ∧ Q v (upd H' d o)) : tLockE te σ H Q := ⟨d, o, h, c, q⟩
theorem i_vals (q : td σ H (kVals R)) : iVals td σ H R := q
theorem i_items (q : td σ H (kItems R)) : iItems td σ H R := q
theorem i_kVals {d : Addr} {o : Obj} (h : H d = some (.frz o (.dK kvs))) (q : R (Itd d o kvs) H) : kVals R (.ref d) H := ⟨d, o, kvs, rfl, h, q⟩
theorem i_kItems {d : Addr} {o : Obj} (h : H d = some (.frz o (.dK kvs))) (q : R (Iti d o kvs) H) : kItems R (.ref d) H := ⟨d, o, kvs, rfl, h, q⟩
theorem i_dget (q : td σ H fun x H1 => ty σ H1 (kDGet x Q)) : tDGet td ty σ H Q := q
theorem i_kDGet (h : H a = some (.dK kvs)) (e : valV kvs k = some v) (q : Q v H) : kDGet (.ref a) Q (kV k) H := ⟨a, v, rfl, .inl ⟨kvs, k, .inl h, rfl, e.symm⟩, q⟩
theorem i_kDGetI {j : Int} (h : H a = some (.dK kvs)) (e : valV kvs (Sum.inl j) = some v) (q : Q v H) : kDGet (.ref a) Q (.int j) H := i_kDGet (k := Sum.inl j) h e q
theorem i_kDGetS {j : Str} (h : H a = some (.dK kvs)) (e : valV kvs (Sum.inr j) = some v) (q : Q v H) : kDGet (.ref a) Q (.str j) H := i_kDGet (k := Sum.inr j) h e q
theorem i_dput (q : tv σ H fun v H1 => td σ H1 fun x H2 => ty σ H2 (kDPut x v D σ)) : sDPut td ty tv D σ H := q
theorem i_kDPutI {j : Int} (h : H a = some (.dK kvs)) (c : kvs.length < sizeLine) (q : D.nx σ (upd H a (.dK (putK kvs (Sum.inl j) v)))) : kDPut (.ref a) v D σ (.int j) H := ⟨a, _, rfl, .inl ⟨kvs, Sum.inl j, h, rfl, c, rfl⟩, q⟩
theorem i_kDPutS {j : Str} (h : H a = some (.dK kvs)) (c : kvs.length < sizeLine) (q : D.nx σ (upd H a (.dK (putK kvs (Sum.inr j) v)))) : kDPut (.ref a) v D σ (.str j) H := ⟨a, _, rfl, .inl ⟨kvs, Sum.inr j, h, rfl, c, rfl⟩, q⟩
theorem i_din (q : ty σ H fun y H1 => td σ H1 (kDIn y Q)) : tDIn ty td σ H Q := q
theorem i_kDInI {j : Int} (h : H a = some (.dK kvs)) (q : Q (.bl (valV kvs (Sum.inl j)).isSome) H) : kDIn (.int j) Q (.ref a) H := ⟨a, _, rfl, .inl ⟨kvs, Sum.inl j, .inl h, rfl, rfl⟩, q⟩
theorem i_dnotin (q : ty σ H fun y H1 => td σ H1 (kDNotIn y Q)) : tDNotIn ty td σ H Q := q
theorem i_kDNotInI {j : Int} (h : H a = some (.dK kvs)) (q : Q (.bl !(valV kvs (Sum.inl j)).isSome) H) : kDNotIn (.int j) Q (.ref a) H := ⟨a, _, rfl, .inl ⟨kvs, Sum.inl j, .inl h, rfl, rfl⟩, q⟩
theorem i_isL {xs : List V} (h : H a = some (.lst xs)) (q : Q (.bl true) H) : rIsi K [.ref a, .ty "list"] H Q := ⟨_, _, _, _, _, rfl, .ty _, .base (.lst h), kit_ty (by decide +kernel), q⟩
theorem i_dpop1 (q : td σ H (kDPop1 ty σ Q)) : tDPop1 td ty σ H Q := q
theorem i_kDPop1I {j : Int} (h : H a = some (.dK kvs)) (q : ty σ H fun y H2 => y = .int j ∧ H2 = H) (e : valV kvs (Sum.inl j) = some v) (r : Q v (upd H a (.dK (dropK kvs (Sum.inl j))))) : True := trivial
theorem i_ddel (q : td σ H fun x H1 => ty σ H1 (kDDel x D σ)) : sDDel td ty D σ H := q
theorem i_kDDelI {j : Int} (h : H a = some (.dK kvs)) (e : (valV kvs (Sum.inl j)).isSome = true) (q : D.nx σ (upd H a (.dK (dropK kvs (Sum.inl j))))) : kDDel (.ref a) D σ (.int j) H := ⟨a, kvs, Sum.inl j, rfl, h, rfl, e, q⟩
theorem i_dc {wi : TI} {vs : List Nat} (q : wi σ H fun J H1 => DcW J g tt tk tv vs σ H1 Q) : tDc wi g tt tk tv vs σ H Q := q
theorem i_enum (q : tas σ H (kEnum K R)) : iEnum K tas σ H R := q
theorem i_kEnum {xs : List V} (h : SqL K H a xs) (q : R (Ite K a) H) : kEnum K R [.ref a] H := ⟨a, xs, rfl, h, q⟩
theorem i_rIn {xs : List V} {b : Bool} (h : SqL K H a xs) (c1 : flatV x = true) (c2 : xs.all flatV = true) (q : Q (.bl (if b = true then !inV x xs else inV x xs)) H) : rIn K b x (.ref a) H Q := ⟨a, xs, rfl, .inl h, c1, c2, q⟩
theorem i_rInT {xs : List V} {b : Bool} (h : SqT K H a xs) (c1 : flatV x = true) (c2 : xs.all flatV = true) (q : Q (.bl (if b = true then !inV x xs else inV x xs)) H) : rIn K b x (.ref a) H Q := ⟨a, xs, rfl, .inr h, c1, c2, q⟩
theorem i_dict (h : H a = some (.dK kvs)) (q : ∀ p, H p = none → Q (.ref p) (upd H p (.dK kvs))) : xDict [.ref a] H Q := ⟨a, kvs, rfl, .inl h, q⟩
theorem i_slT {xs : List V} {lo hi : Option Int} (h : SqT K H a xs) (c : ¬(HT.sIx xs.length 0 lo = 0 ∧ HT.sIx xs.length xs.length hi = xs.length)) (q : ∀ p, H p = none → Q (.ref p) (upd H p (.tup (cutV xs lo hi)))) : rSlT K (.ref a) lo hi H Q := ⟨a, xs, rfl, h, c, q⟩
theorem i_slS {z : Str} {lo hi : Option Int} (c : z.length ≤ sizeLine) (q : Q (.str (cutS z lo hi)) H) : rSlS (.str z) lo hi H Q := ⟨z, rfl, c, q⟩
end
/-- a dict's comprehension, by an invariant -/
theorem dc_it {J : It} {n : Nat} {G : Hp → Prop} {Y : Nat → Hp → V → Hp → Prop} (w : Walk J n G Y) {g : TG} {tt : TT} {tk tv : TE} {vs : List Nat} {σ : L2.St} {H1 : Hp} {D : Addr} {Qd : Hp → Prop}
    (Pv : Nat → Hp → Prop) (h0 : Pv 0 (upd H1 D (.dK []))) (hG : ∀ i H, i ≤ n → Pv i H → G H)
    (hs : ∀ i x H H', i < n → Pv i H → Y i H x H' → g x (wipe σ vs) H' fun σ2 H2 => wipe σ2 vs = wipe σ vs ∧ tt σ2 H2 fun b H3 =>
      if b = true then tk σ2 H3 fun y H4 => tv σ2 H4 fun z H5 => ∃ kvs k, y = kV k ∧ H5 D = some (.dK kvs) ∧ kvs.length < sizeLine ∧ Pv (i + 1) (upd H5 D (.dK (putK kvs k z))) else Pv (i + 1) H3)
    (hd : ∀ H, Pv n H → Qd H) : ∃ W : Nat → Nat → Hp → Prop, (∃ m, W 0 m (upd H1 D (.dK []))) ∧ ∀ i m H, W i m H →
  (J.stop i H ∧ Qd H) ∨ (J.go i H ∧ ∃ Nx : Hp → Prop, (∀ H', Nx H' → ∃ m', m' < m ∧ W (i + 1) m' H') ∧ ∀ x H', J.yld i H x H' → g x (wipe σ vs) H' fun σ2 H2 => wipe σ2 vs = wipe σ vs ∧ tt σ2 H2 fun b H3 =>
    if b = true then tk σ2 H3 fun y H4 => tv σ2 H4 fun z H5 => ∃ kvs k, y = kV k ∧ H5 D = some (.dK kvs) ∧ kvs.length < sizeLine ∧ Nx (upd H5 D (.dK (putK kvs k z))) else Nx H3) := by
  refine ⟨fun i m H => i + m = n ∧ Pv i H, ⟨n, by omega, h0⟩, ?_⟩
  rintro i m H ⟨e, p⟩
  by_cases hi : i < n
  · refine .inr ⟨w.goes i H hi (hG i H (by omega) p), Pv (i + 1), fun H' p' => ⟨m - 1, by omega, by omega, p'⟩, fun x H' y => ?_⟩
    exact hs i x H H' hi p (w.yields i H x H' hi (hG i H (by omega) p) y)
  · obtain rfl : i = n := by omega
    exact .inl ⟨w.stops H (hG i H (by omega) p), hd H p⟩
end HX

set_option Elab.async false
set_option linter.all false
set_option maxRecDepth 100000
set_option maxHeartbeats 2000000
/-! KW: webs as plain data, and how they lie in the heap. -/
namespace WB
open PySem PySem.Spec PyProof.Rows L2 HX
/-! ### two lists side by side -/
inductive Two {α β : Type} (R : α → β → Prop) : List α → List β → Prop where
  | nil : Two R [] []
  | cons {a : α} {b : β} {as : List α} {bs : List β} (h : R a b) (t : Two R as bs) : Two R (a :: as) (b :: bs)
namespace Two
variable {α β γ δ : Type} {R : α → β → Prop} {as : List α} {bs : List β}
theorem len (h : Two R as bs) : as.length = bs.length := by
  induction h with
  | nil => rfl
  | cons _ _ ih => simp [ih]
theorem mono {S : α → β → Prop} (h : Two R as bs) (c : ∀ a b, R a b → S a b) : Two S as bs := by
  induction h with
  | nil => exact .nil
  | cons h _ ih => exact .cons (c _ _ h) ih
theorem app {cs : List α} {ds : List β} (h : Two R as bs) (g : Two R cs ds) : Two R (as ++ cs) (bs ++ ds) := by
  induction h with
  | nil => exact g
  | cons h _ ih => exact .cons h ih
theorem get (h : Two R as bs) : ∀ {i : Nat} {a : α}, as[i]? = some a → ∃ b, bs[i]? = some b ∧ R a b := by
  induction h with
  | nil => intro i a e; simp at e
  | cons h _ ih =>
    intro i a e
    cases i with
    | zero => cases e; exact ⟨_, rfl, h⟩
    | succ j => exact ih e
theorem getr (h : Two R as bs) : ∀ {i : Nat} {b : β}, bs[i]? = some b → ∃ a, as[i]? = some a ∧ R a b := by
  induction h with
  | nil => intro i a e; simp at e
  | cons h _ ih =>
    intro i a e
    cases i with
    | zero => cases e; exact ⟨_, rfl, h⟩
    | succ j => exact ih e
theorem map {S : γ → δ → Prop} {f : α → γ} {g : β → δ} (h : Two R as bs) (c : ∀ a b, R a b → S (f a) (g b)) : Two S (as.map f) (bs.map g) := by
  induction h with
  | nil => exact .nil
  | cons h _ ih => exact .cons (c _ _ h) ih
theorem filter {p : α → Bool} {q : β → Bool} (h : Two R as bs) (c : ∀ a b, R a b → p a = q b) : Two R (as.filter p) (bs.filter q) := by
  induction h with
  | nil => exact .nil
  | cons h t ih =>
    rw [List.filter_cons, List.filter_cons, c _ _ h]
    split
    · exact .cons h ih
    · exact ih
theorem any {p : α → Bool} {q : β → Bool} (h : Two R as bs) (c : ∀ a b, R a b → p a = q b) : as.any p = bs.any q := by
  induction h with
  | nil => rfl
  | cons h t ih => rw [List.any_cons, List.any_cons, c _ _ h, ih]
theorem find {p : α → Bool} {q : β → Bool} (h : Two R as bs) (c : ∀ a b, R a b → p a = q b) : (as.find? p = none ∧ bs.find? q = none) ∨ ∃ a b, as.find? p = some a ∧ bs.find? q = some b ∧ R a b := by
  induction h with
  | nil => exact .inl ⟨rfl, rfl⟩
  | @cons a b as bs h t ih =>
    rw [List.find?_cons, List.find?_cons, c _ _ h]
    cases q b with
    | true => exact .inr ⟨a, b, rfl, rfl, h⟩
    | false => exact ih
theorem take (h : Two R as bs) : ∀ n, Two R (as.take n) (bs.take n) := by
  induction h with
  | nil => intro n; simp; exact .nil
  | cons h t ih =>
    intro n
    cases n with
    | zero => exact .nil
    | succ m => exact .cons h (ih m)
theorem mem (h : Two R as bs) {a : α} (ha : a ∈ as) : ∃ b ∈ bs, R a b := by
  obtain ⟨i, hi⟩ := List.mem_iff_getElem?.mp ha
  obtain ⟨b, e, r⟩ := h.get hi
  exact ⟨b, List.mem_iff_getElem?.mpr ⟨i, e⟩, r⟩
end Two
/-! ### ties by their numbers -/
structure Ti where
  t : Str
  h : Str
  c : Int
  o : Bool
  deriving DecidableEq
abbrev Ts := List (Int × Ti)
def tget (ts : Ts) (n : Int) : Option Ti := (ts.find? fun x => decide (x.1 = n)).map (·.2)
def tput (ts : Ts) (n : Int) (t : Ti) : Ts := if (ts.any fun x => decide (x.1 = n)) = true then ts.map fun x => if x.1 = n then (x.1, t) else x else ts ++ [(n, t)]
def tdrop (ts : Ts) (n : Int) : Ts := ts.filter fun x => decide (x.1 ≠ n)
def turn (x y : Str) (t : Ti) : Ti := { t with t := if t.t = x then y else t.t, h := if t.h = x then y else t.h }
/-- a dict of numbers to things at addresses -/
def DP (R : Int → Ti → Addr → Prop) (kvs : List (Key × V)) (ts : Ts) : Prop := Two (fun kv nt => ∃ a, kv = ((Sum.inl nt.1 : Key), V.ref a) ∧ R nt.1 nt.2 a) kvs ts
namespace DP
variable {R S : Int → Ti → Addr → Prop} {kvs : List (Key × V)} {ts : Ts} {n : Int} {t : Ti} {a : Addr}
theorem nil : DP R [] [] := Two.nil
theorem mono (h : DP R kvs ts) (c : ∀ n t a, R n t a → S n t a) : DP S kvs ts := Two.mono h fun _ _ ⟨a, e, r⟩ => ⟨a, e, c _ _ _ r⟩
theorem len (h : DP R kvs ts) : kvs.length = ts.length := Two.len h
theorem keys (h : DP R kvs ts) : kvs.map (·.1) = (ts.map (·.1)).map Sum.inl := by
  induction h with
  | nil => rfl
  | cons h _ ih =>
    obtain ⟨a, rfl, _⟩ := h
    simp only [List.map_cons, ih]
theorem key_eq {kv : Key × V} {nt : Int × Ti} (h : ∃ a, kv = ((Sum.inl nt.1 : Key), V.ref a) ∧ R nt.1 nt.2 a) (n : Int) : decide (kv.1 = Sum.inl n) = decide (nt.1 = n) := by
  obtain ⟨a, rfl, _⟩ := h
  have : ((Sum.inl nt.1 : Key) = Sum.inl n) ↔ nt.1 = n := ⟨fun e => Sum.inl.inj e, fun e => by rw [e]⟩
  exact decide_eq_decide.mpr this
theorem get (h : DP R kvs ts) (e : tget ts n = some t) : ∃ a, valV kvs (Sum.inl n) = some (.ref a) ∧ R n t a := by
  rcases Two.find (p := fun kv => decide (kv.1 = (Sum.inl n : Key))) (q := fun x => decide (x.1 = n)) h (fun _ _ r => key_eq r n) with ⟨_, e2⟩ | ⟨kv, nt, e1, e2, a, rfl, r⟩
  · unfold tget at e; rw [e2] at e; simp at e
  · unfold tget at e
    rw [e2] at e
    have hn : nt.1 = n := by simpa using List.find?_some e2
    obtain ⟨m, u⟩ := nt
    cases e
    cases hn
    refine ⟨a, ?_, r⟩
    unfold valV
    rw [e1]; rfl
theorem none (h : DP R kvs ts) (e : tget ts n = none) : valV kvs (Sum.inl n) = .none := by
  rcases Two.find (p := fun kv => decide (kv.1 = (Sum.inl n : Key))) (q := fun x => decide (x.1 = n)) h (fun _ _ r => key_eq r n) with ⟨e1, e2⟩ | ⟨kv, nt, e1, e2, a, rfl, r⟩
  · unfold valV; rw [e1]; rfl
  · unfold tget at e; rw [e2] at e; simp at e
theorem some (h : DP R kvs ts) : (valV kvs (Sum.inl n)).isSome = (tget ts n).isSome := by
  cases e : tget ts n with
  | none => rw [h.none e]; rfl
  | some t =>
    obtain ⟨a, e2, _⟩ := h.get e
    rw [e2]; rfl
theorem put (h : DP R kvs ts) (r : R n t a) : DP R (putK kvs (Sum.inl n) (.ref a)) (tput ts n t) := by
  unfold putK tput
  have e := Two.any (p := fun kv => decide (kv.1 = (Sum.inl n : Key))) (q := fun x => decide (x.1 = n)) h (fun _ _ r => key_eq r n)
  rw [e]
  split
  · refine Two.map h fun kv nt r' => ?_
    have k := key_eq r' n
    obtain ⟨b, rfl, r2⟩ := r'
    by_cases hn : nt.1 = n
    · rw [if_pos hn, if_pos (by rw [hn])]
      exact ⟨a, rfl, by rw [hn]; exact r⟩
    · rw [if_neg hn, if_neg (fun e => hn (Sum.inl.inj e))]
      exact ⟨b, rfl, r2⟩
  · exact Two.app h (.cons ⟨a, rfl, r⟩ .nil)
theorem drop (h : DP R kvs ts) : DP R (dropK kvs (Sum.inl n)) (tdrop ts n) := by
  refine Two.filter h fun kv nt r => ?_
  have k := key_eq r n
  simp only [ne_eq, decide_not]
  rw [k]
theorem item (h : DP R kvs ts) {i : Nat} {kv : Key × V} (e : kvs[i]? = .some kv) : ∃ n t a, ts[i]? = .some (n, t) ∧ kv = (Sum.inl n, .ref a) ∧ R n t a := by
  obtain ⟨⟨n, t⟩, e1, a, rfl, r⟩ := Two.get h e
  exact ⟨n, t, a, e1, rfl, r⟩
theorem take (h : DP R kvs ts) (n : Nat) : DP R (kvs.take n) (ts.take n) := Two.take h n
theorem snoc (h : DP R kvs ts) (r : R n t a) : DP R (kvs ++ [(Sum.inl n, .ref a)]) (ts ++ [(n, t)]) := Two.app h (.cons ⟨a, rfl, r⟩ .nil)
end DP
/-! ### plain facts of ties -/
theorem tget_mem {ts : Ts} {n : Int} {t : Ti} (h : tget ts n = some t) : (n, t) ∈ ts := by
  unfold tget at h
  cases e : ts.find? fun x => decide (x.1 = n) with
  | none => rw [e] at h; simp at h
  | some x =>
    rw [e] at h
    have hn : x.1 = n := by simpa using List.find?_some e
    have hm := List.mem_of_find?_eq_some e
    obtain ⟨m, u⟩ := x
    cases h; cases hn
    exact hm
theorem tput_new {ts : Ts} {n : Int} {t : Ti} (h : ∀ x ∈ ts, x.1 ≠ n) : tput ts n t = ts ++ [(n, t)] := by
  unfold tput
  rw [if_neg]
  intro e
  obtain ⟨x, hx, e2⟩ := List.any_eq_true.mp e
  exact h x hx (by simpa using e2)
abbrev Rise (ts : Ts) : Prop := ts.Pairwise fun a b => a.1 < b.1
theorem tget_of {ts : Ts} (hs : Rise ts) {n : Int} {t : Ti} (h : (n, t) ∈ ts) : tget ts n = some t := by
  induction ts with
  | nil => simp at h
  | cons x r ih =>
    unfold tget
    rw [List.find?_cons]
    by_cases e : x.1 = n
    · rw [decide_eq_true e]
      rcases List.mem_cons.mp h with h | h
      · rw [← h]; rfl
      · have := (List.pairwise_cons.mp hs).1 _ h
        simp at this; omega
    · rw [decide_eq_false e]
      rcases List.mem_cons.mp h with h | h
      · exact absurd (by rw [← h]) e
      · exact ih (List.pairwise_cons.mp hs).2 h
theorem tput_keys {ts : Ts} {n : Int} {t u : Ti} (h : tget ts n = some u) : (tput ts n t).map (·.1) = ts.map (·.1) := by
  have a : (ts.any fun x => decide (x.1 = n)) = true := List.any_eq_true.mpr ⟨_, tget_mem h, by simp⟩
  unfold tput
  rw [if_pos a, List.map_map]
  apply List.map_congr_left
  intro x _
  show (if x.1 = n then (x.1, t) else x).1 = x.1
  split <;> rfl
theorem tput_eq {ts : Ts} {n : Int} {t u : Ti} (h : tget ts n = some u) : tput ts n t = ts.map fun x => if x.1 = n then (x.1, t) else x := by
  have a : (ts.any fun x => decide (x.1 = n)) = true := List.any_eq_true.mpr ⟨_, tget_mem h, by simp⟩
  unfold tput
  rw [if_pos a]
theorem rise_keys {ts us : Ts} (e : us.map (·.1) = ts.map (·.1)) (h : Rise ts) : Rise us := by
  have h1 : (ts.map (·.1)).Pairwise (· < ·) := List.pairwise_map.mpr h
  rw [← e] at h1
  exact List.pairwise_map.mp h1
/-! ### a web -/
structure Wb where
  ps : List Str
  ts : Ts
  g : Int
/-- a good name -/
def isNm (z : Str) : Bool := decide (1 ≤ z.length) && decide (z.length ≤ 12) && z.cps.toList.all fun c => decide (97 ≤ c) && decide (c ≤ 122)
def most : Int := 10 ^ 60
theorem most_pos : (0 : Int) < 10 ^ (60 : Int).toNat + 1 := by decide +kernel
structure TieOk (ps : List Str) (g : Int) (n : Int) (u : Ti) : Prop where
  lo : 1 ≤ n
  hi : n ≤ g
  t : u.t ∈ ps
  h : u.h ∈ ps
  ne : u.t ≠ u.h
  c0 : 0 ≤ u.c
  c1 : u.c ≤ most
structure Wok (w : Wb) : Prop where
  nd : w.ps.Nodup
  nm : ∀ x ∈ w.ps, isNm x = true
  le : w.ps.length ≤ 16
  tl : w.ts.length ≤ 48
  rise : Rise w.ts
  ok : ∀ n t, (n, t) ∈ w.ts → TieOk w.ps w.g n t
  g0 : 0 ≤ w.g
namespace Wb
def put (w : Wb) (x : Str) : Wb := { w with ps := w.ps ++ [x] }
def gone (w : Wb) (x : Str) : Wb := { w with ps := w.ps.erase x }
def ren (w : Wb) (x y : Str) : Wb := { w with ps := w.ps.set (w.ps.idxOf x) y, ts := w.ts.map fun nt => (nt.1, turn x y nt.2) }
def tie (w : Wb) (t : Ti) : Wb := { w with ts := w.ts ++ [(w.g + 1, t)], g := w.g + 1 }
def untie (w : Wb) (n : Int) : Wb := { w with ts := tdrop w.ts n }
def load (w : Wb) (n c : Int) : Wb := { w with ts := w.ts.map fun nt => if nt.1 = n then (nt.1, { nt.2 with c := c }) else nt }
def join (w : Wb) (x y : Str) : Wb := { w with ps := w.ps.erase y, ts := (w.ts.map fun nt => (nt.1, turn y x nt.2)).filter fun nt => decide (nt.2.t ≠ nt.2.h) }
def part (w : Wb) (x y : Str) (ns : List Int) : Wb := { w with ps := w.ps ++ [y], ts := w.ts.map fun nt => if nt.1 ∈ ns then (nt.1, turn x y nt.2) else nt }
end Wb
theorem Wok.put {w : Wb} (h : Wok w) {x : Str} (hx : x ∉ w.ps) (hn : isNm x = true) (hl : w.ps.length < 16) : Wok (w.put x) where
  nd := List.nodup_append.mpr ⟨h.nd, by simp, fun a ha b hb e => hx (by rw [List.mem_singleton.mp hb] at e; rw [← e]; exact ha)⟩
  nm := fun z hz => by
    rcases List.mem_append.mp hz with hz | hz
    · exact h.nm z hz
    · rw [List.mem_singleton.mp hz]; exact hn
  le := by
    show (w.ps ++ [x]).length ≤ 16
    rw [List.length_append, List.length_singleton]; omega
  tl := h.tl
  rise := h.rise
  ok := fun n t ht => have o := h.ok n t ht; { o with t := List.mem_append.mpr (.inl o.t), h := List.mem_append.mpr (.inl o.h) }
  g0 := h.g0
theorem Wok.gone {w : Wb} (h : Wok w) {x : Str} (hx : ∀ n t, (n, t) ∈ w.ts → t.t ≠ x ∧ t.h ≠ x) : Wok (w.gone x) where
  nd := h.nd.erase x
  nm := fun z hz => h.nm z (List.mem_of_mem_erase hz)
  le := Nat.le_trans (List.length_erase_le ..) h.le
  tl := h.tl
  rise := h.rise
  ok := fun n t ht => have o := h.ok n t ht; { o with t := (List.mem_erase_of_ne (hx n t ht).1).mpr o.t, h := (List.mem_erase_of_ne (hx n t ht).2).mpr o.h }
  g0 := h.g0
theorem set_idx {ps : List Str} {x y z : Str} (hx : x ∈ ps) (hz : z ∈ ps) (hne : z ≠ x) : z ∈ ps.set (ps.idxOf x) y := by
  induction ps with
  | nil => simp at hx
  | cons p r ih =>
    rw [List.idxOf_cons]
    by_cases e : p = x
    · subst e
      simp only [beq_self_eq_true, cond_true, List.set_cons_zero]
      rcases List.mem_cons.mp hz with h | h
      · exact absurd h hne
      · exact List.mem_cons_of_mem _ h
    · have eb : (p == x) = false := by simpa using e
      simp only [eb, cond_false, List.set_cons_succ]
      rcases List.mem_cons.mp hz with h | h
      · rw [h]; exact List.mem_cons_self
      · exact List.mem_cons_of_mem _ (ih ((List.mem_cons.mp hx).resolve_left (fun q => e q.symm)) h)
theorem set_new {ps : List Str} {x y : Str} (hx : x ∈ ps) : y ∈ ps.set (ps.idxOf x) y := by
  have hl : ps.idxOf x < ps.length := List.idxOf_lt_length_iff.mpr hx
  exact List.mem_iff_getElem?.mpr ⟨ps.idxOf x, by simp [hl]⟩
theorem set_nd {ps : List Str} {y : Str} (h : ps.Nodup) (hy : y ∉ ps) : ∀ i : Nat, (ps.set i y).Nodup := by
  induction ps with
  | nil => intro i; simp
  | cons p r ih =>
    intro i
    obtain ⟨h1, h2⟩ := List.nodup_cons.mp h
    cases i with
    | zero => exact List.nodup_cons.mpr ⟨fun m => hy (List.mem_cons_of_mem _ m), h2⟩
    | succ j =>
      refine List.nodup_cons.mpr ⟨fun m => ?_, ih h2 (fun m => hy (List.mem_cons_of_mem _ m)) j⟩
      rcases List.mem_or_eq_of_mem_set m with m | m
      · exact h1 m
      · exact hy (by rw [← m]; exact List.mem_cons_self)
theorem turn_end {x y : Str} {t : Ti} {ps : List Str} {z : Str} (hz : z = t.t ∨ z = t.h) : True := trivial
theorem Wok.ren {w : Wb} (h : Wok w) {x y : Str} (hx : x ∈ w.ps) (hy : y ∉ w.ps) (hn : isNm y = true) : Wok (w.ren x y) where
  nd := set_nd h.nd hy _
  nm := fun z hz => by
    rcases List.mem_or_eq_of_mem_set hz with m | m
    · exact h.nm z m
    · rw [m]; exact hn
  le := by
    show (w.ps.set _ y).length ≤ 16
    rw [List.length_set]; exact h.le
  tl := by
    show (w.ts.map _).length ≤ 48
    rw [List.length_map]; exact h.tl
  rise := rise_keys (by show (w.ts.map _).map _ = _; rw [List.map_map]; rfl) h.rise
  ok := fun n t ht => by
    obtain ⟨⟨m, u⟩, hm, e⟩ := List.mem_map.mp ht
    cases e
    have o := h.ok m u hm
    have ends : ∀ z, z ∈ w.ps → (if z = x then y else z) ∈ w.ps.set (w.ps.idxOf x) y := fun z hz => by
      split
      · exact set_new hx
      · rename_i hne; exact set_idx hx hz hne
    refine ⟨o.lo, o.hi, ends _ o.t, ends _ o.h, ?_, o.c0, o.c1⟩
    show (if u.t = x then y else u.t) ≠ (if u.h = x then y else u.h)
    have n1 : y ≠ u.t := fun e => hy (by rw [e]; exact o.t)
    have n2 : y ≠ u.h := fun e => hy (by rw [e]; exact o.h)
    have n3 := o.ne
    split
    · rename_i e1
      rw [if_neg (fun e2 => n3 (e1.trans e2.symm))]
      exact n2
    · split
      · exact n1.symm
      · exact n3
  g0 := h.g0
theorem Wok.tie {w : Wb} (h : Wok w) {t : Ti} (h1 : t.t ∈ w.ps) (h2 : t.h ∈ w.ps) (h3 : t.t ≠ t.h) (c0 : 0 ≤ t.c) (c1 : t.c ≤ most) (hl : w.ts.length < 48) : Wok (w.tie t) where
  nd := h.nd
  nm := h.nm
  le := h.le
  tl := by
    show (w.ts ++ _).length ≤ 48
    rw [List.length_append, List.length_singleton]; omega
  rise := by
    refine List.pairwise_append.mpr ⟨h.rise, by simp, fun a ha b hb => ?_⟩
    rw [List.mem_singleton.mp hb]
    have := (h.ok a.1 a.2 ha).hi
    show a.1 < w.g + 1
    omega
  ok := fun n u hu => by
    have hg := h.g0
    rcases List.mem_append.mp hu with hu | hu
    · have o := h.ok n u hu
      exact { o with hi := by have := o.hi; show n ≤ w.g + 1; omega }
    · cases List.mem_singleton.mp hu
      exact ⟨by omega, Int.le_refl _, h1, h2, h3, c0, c1⟩
  g0 := by have := h.g0; show 0 ≤ w.g + 1; omega
theorem Wok.untie {w : Wb} (h : Wok w) (n : Int) : Wok (w.untie n) where
  nd := h.nd
  nm := h.nm
  le := h.le
  tl := Nat.le_trans (List.length_filter_le ..) h.tl
  rise := h.rise.filter _
  ok := fun m t ht => h.ok m t (List.mem_filter.mp ht).1
  g0 := h.g0
theorem Wok.load {w : Wb} (h : Wok w) {n c : Int} (c0 : 0 ≤ c) (c1 : c ≤ most) : Wok (w.load n c) where
  nd := h.nd
  nm := h.nm
  le := h.le
  tl := by
    show (w.ts.map _).length ≤ 48
    rw [List.length_map]; exact h.tl
  rise := rise_keys (by
    show (w.ts.map _).map _ = _
    rw [List.map_map]
    apply List.map_congr_left
    intro x _
    show (if x.1 = n then (x.1, { x.2 with c := c }) else x).1 = x.1
    split <;> rfl) h.rise
  ok := fun m t ht => by
    obtain ⟨⟨k, u⟩, hm, e⟩ := List.mem_map.mp ht
    have o := h.ok k u hm
    by_cases hk : k = n
    · rw [if_pos hk] at e
      cases e
      exact { o with c0 := c0, c1 := c1 }
    · rw [if_neg hk] at e
      cases e
      exact o
  g0 := h.g0
theorem Wok.join {w : Wb} (h : Wok w) {x y : Str} (hx : x ∈ w.ps) (hy : y ∈ w.ps) (hne : x ≠ y) : Wok (w.join x y) where
  nd := h.nd.erase y
  nm := fun z hz => h.nm z (List.mem_of_mem_erase hz)
  le := Nat.le_trans (List.length_erase_le ..) h.le
  tl := Nat.le_trans (List.length_filter_le ..) (by rw [List.length_map]; exact h.tl)
  rise := by
    have r : Rise (w.ts.map fun nt => (nt.1, turn y x nt.2)) := rise_keys (by rw [List.map_map]; rfl) h.rise
    exact r.filter _
  ok := fun n t ht => by
    obtain ⟨h1, h2⟩ := List.mem_filter.mp ht
    obtain ⟨⟨m, u⟩, hm, e⟩ := List.mem_map.mp h1
    cases e
    have o := h.ok m u hm
    have ends : ∀ z, z ∈ w.ps → (if z = y then x else z) ∈ w.ps.erase y := fun z hz => by
      split
      · exact (List.mem_erase_of_ne hne).mpr hx
      · rename_i hn; exact (List.mem_erase_of_ne hn).mpr hz
    exact ⟨o.lo, o.hi, ends _ o.t, ends _ o.h, by simpa using h2, o.c0, o.c1⟩
  g0 := h.g0
theorem Wok.part {w : Wb} (h : Wok w) {x y : Str} {ns : List Int} (hy : y ∉ w.ps) (hn : isNm y = true) (hl : w.ps.length < 16) : Wok (w.part x y ns) where
  nd := (h.put hy hn hl).nd
  nm := (h.put hy hn hl).nm
  le := (h.put hy hn hl).le
  tl := by
    show (w.ts.map _).length ≤ 48
    rw [List.length_map]; exact h.tl
  rise := rise_keys (by
    show (w.ts.map _).map _ = _
    rw [List.map_map]
    apply List.map_congr_left
    intro z _
    show (if z.1 ∈ ns then (z.1, turn x y z.2) else z).1 = z.1
    split <;> rfl) h.rise
  ok := fun n t ht => by
    obtain ⟨⟨m, u⟩, hm, e⟩ := List.mem_map.mp ht
    have o := h.ok m u hm
    have inl : ∀ z, z ∈ w.ps → z ∈ w.ps ++ [y] := fun z hz => List.mem_append.mpr (.inl hz)
    by_cases hk : m ∈ ns
    · rw [if_pos hk] at e
      cases e
      have ends : ∀ z, z ∈ w.ps → (if z = x then y else z) ∈ w.ps ++ [y] := fun z hz => by
        split
        · exact List.mem_append.mpr (.inr (by simp))
        · exact inl z hz
      refine ⟨o.lo, o.hi, ends _ o.t, ends _ o.h, ?_, o.c0, o.c1⟩
      show (if u.t = x then y else u.t) ≠ (if u.h = x then y else u.h)
      have n1 : y ≠ u.t := fun e => hy (by rw [e]; exact o.t)
      have n2 : y ≠ u.h := fun e => hy (by rw [e]; exact o.h)
      have n3 := o.ne
      split
      · rename_i e1
        rw [if_neg (fun e2 => n3 (e1.trans e2.symm))]
        exact n2
      · split
        · exact n1.symm
        · exact n3
    · rw [if_neg hk] at e
      cases e
      exact { o with t := inl _ o.t, h := inl _ o.h }
  g0 := h.g0
end WB

set_option Elab.async false
set_option linter.all false
set_option maxRecDepth 100000
set_option maxHeartbeats 2000000
/-! KG: ways in a web, as plain data. -/
namespace WB
open PySem PySem.Spec PyProof.Rows L2 HX
/-- the steps from a point, as they may be gone -/
def freeOne (x : Str) (nt : Int × Ti) : List (Int × Str) := (if nt.2.t = x then [(nt.1, nt.2.h)] else []) ++ (if nt.2.o = false ∧ nt.2.h = x then [(nt.1, nt.2.t)] else [])
def freeS (ts : Ts) (x : Str) : List (Int × Str) := ts.flatMap (freeOne x)
/-- .. one-way ties as plain ones -/
def plainOne (x : Str) (nt : Int × Ti) : List (Int × Str) := (if nt.2.t = x then [(nt.1, nt.2.h)] else []) ++ (if nt.2.h = x then [(nt.1, nt.2.t)] else [])
def plainS (ts : Ts) (x : Str) : List (Int × Str) := ts.flatMap (plainOne x)
abbrev Steps := Str → List (Int × Str)
abbrev Came := List (Str × Option (Int × Str))
def keysC (cm : Came) : List Str := cm.map (·.1)
def see (cm : Came) (a : Str) (s : Int × Str) : Came := if s.2 ∈ keysC cm then cm else cm ++ [(s.2, some (s.1, a))]
def seeAll (cm : Came) (a : Str) (ss : List (Int × Str)) : Came := ss.foldl (fun c s => see c a s) cm
def bfs (S : Steps) : Nat → Came → Nat → Came
  | 0, cm, _ => cm
  | f + 1, cm, d => match cm[d]? with
    | none => cm
    | some p => bfs S f (seeAll cm p.1 (S p.1)) (d + 1)
def came (S : Steps) (one : Str) : Came := bfs S 17 [(one, none)] 0
/-! ### what a came keeps -/
/-- all but the first stand behind the one that they are come to from -/
structure CmOk (S : Steps) (one : Str) (cm : Came) : Prop where
  nd : (keysC cm).Nodup
  hd : cm[0]? = some (one, none)
  from' : ∀ (i : Nat) (y : Str) (o : Option (Int × Str)), cm[i]? = some (y, o) → 0 < i → ∃ n a, o = some (n, a) ∧ (n, y) ∈ S a ∧ ∃ j, j < i ∧ (keysC cm)[j]? = some a
/-- the first d are done with -/
def Done (S : Steps) (cm : Came) (d : Nat) : Prop := ∀ i a, i < d → (keysC cm)[i]? = some a → ∀ s ∈ S a, s.2 ∈ keysC cm
theorem keysC_app {a b : Came} : keysC (a ++ b) = keysC a ++ keysC b := List.map_append ..
theorem keysC_len {a : Came} : (keysC a).length = a.length := List.length_map ..
theorem keysC_get {cm : Came} {i : Nat} {y : Str} {o : Option (Int × Str)} (h : cm[i]? = some (y, o)) : (keysC cm)[i]? = some y := by
  unfold keysC
  rw [List.getElem?_map, h]; rfl
theorem see_pre (cm : Came) (a : Str) (s : Int × Str) : ∃ r, see cm a s = cm ++ r := by
  unfold see
  split
  · exact ⟨[], by simp⟩
  · exact ⟨_, rfl⟩
theorem seeAll_pre (a : Str) : ∀ (ss : List (Int × Str)) (cm : Came), ∃ r, seeAll cm a ss = cm ++ r
  | [], cm => ⟨[], by simp [seeAll]⟩
  | s :: ss, cm => by
    obtain ⟨r1, e1⟩ := see_pre cm a s
    obtain ⟨r2, e2⟩ := seeAll_pre a ss (see cm a s)
    refine ⟨r1 ++ r2, ?_⟩
    show seeAll (see cm a s) a ss = _
    rw [e2, e1, List.append_assoc]
theorem get_app {α : Type} {a b : List α} {i : Nat} {x : α} (h : a[i]? = some x) : (a ++ b)[i]? = some x := by
  rw [List.getElem?_append_left (List.getElem?_eq_some_iff.mp h).1]; exact h
theorem CmOk.see {S : Steps} {one a : Str} {cm : Came} (h : CmOk S one cm) {s : Int × Str} (hs : s ∈ S a) (ha : a ∈ keysC cm) : CmOk S one (see cm a s) := by
  unfold WB.see
  split
  · exact h
  · rename_i hn
    refine ⟨?_, get_app h.hd, ?_⟩
    · rw [keysC_app]
      exact List.nodup_append.mpr ⟨h.nd, by simp [keysC], fun x hx y hy e => hn (by simp [keysC] at hy; rw [← hy, ← e]; exact hx)⟩
    · intro i y o hi h0
      rcases Nat.lt_or_ge i cm.length with hl | hl
      · rw [List.getElem?_append_left hl] at hi
        obtain ⟨n, b, e, m, j, hj, hk⟩ := h.from' i y o hi h0
        exact ⟨n, b, e, m, j, hj, by rw [keysC_app]; exact get_app hk⟩
      · rw [List.getElem?_append_right hl] at hi
        have hi0 : i - cm.length = 0 := by
          have := (List.getElem?_eq_some_iff.mp hi).1
          simp at this; omega
        rw [hi0] at hi
        cases hi
        obtain ⟨j, hj⟩ := List.mem_iff_getElem?.mp ha
        refine ⟨s.1, a, rfl, hs, j, ?_, by rw [keysC_app]; exact get_app hj⟩
        have := (List.getElem?_eq_some_iff.mp hj).1
        rw [keysC_len] at this
        omega
theorem mem_keys_see {cm : Came} {a x : Str} {s : Int × Str} (h : x ∈ keysC cm) : x ∈ keysC (see cm a s) := by
  obtain ⟨r, e⟩ := see_pre cm a s
  rw [e, keysC_app]
  exact List.mem_append.mpr (.inl h)
theorem CmOk.seeAll {S : Steps} {one a : Str} : ∀ (ss : List (Int × Str)) {cm : Came} (h : CmOk S one cm) (hs : ∀ s ∈ ss, s ∈ S a) (ha : a ∈ keysC cm), CmOk S one (seeAll cm a ss)
  | [], _, h, _, _ => h
  | s :: ss, cm, h, hs, ha => CmOk.seeAll ss (h.see (hs s (List.mem_cons_self ..)) ha) (fun t ht => hs t (List.mem_cons_of_mem _ ht)) (mem_keys_see ha)
theorem seeAll_has {a : Str} : ∀ (ss : List (Int × Str)) {cm : Came}, ∀ s ∈ ss, s.2 ∈ keysC (seeAll cm a ss)
  | [], _, s, hs => by simp at hs
  | t :: ss, cm, s, hs => by
    show s.2 ∈ keysC (seeAll (see cm a t) a ss)
    rcases List.mem_cons.mp hs with rfl | hs
    · obtain ⟨r, e⟩ := seeAll_pre a ss (see cm a s)
      rw [e, keysC_app]
      refine List.mem_append.mpr (.inl ?_)
      unfold see
      split
      · assumption
      · rw [keysC_app]; simp [keysC]
    · exact seeAll_has ss s hs
theorem Done.step {S : Steps} {cm : Came} {d : Nat} {a : Str} {o : Option (Int × Str)} (h : Done S cm d) (hd : cm[d]? = some (a, o)) : Done S (seeAll cm a (S a)) (d + 1) := by
  obtain ⟨r, e⟩ := seeAll_pre a (S a) cm
  intro i b hi hb s hs
  have hdl := (List.getElem?_eq_some_iff.mp hd).1
  have hb2 : (keysC cm)[i]? = some b := by
    rw [e, keysC_app, List.getElem?_append_left (by rw [keysC_len]; omega)] at hb
    exact hb
  rcases Nat.lt_or_ge i d with hl | hl
  · rw [e, keysC_app]
    exact List.mem_append.mpr (.inl (h i b hl hb2 s hs))
  · have : i = d := by omega
    subst this
    rw [keysC_get hd] at hb2
    cases hb2
    exact seeAll_has _ s hs
/-- the loop's end: all points come to are points of ps -/
theorem CmOk.keys_in {S : Steps} {one : Str} {cm : Came} {ps : List Str} (h : CmOk S one cm) (h1 : one ∈ ps) (hS : ∀ a ∈ ps, ∀ s ∈ S a, s.2 ∈ ps) : ∀ y ∈ keysC cm, y ∈ ps := by
  have : ∀ (i : Nat) y, (keysC cm)[i]? = some y → y ∈ ps := by
    intro i
    induction i using Nat.strongRecOn with
    | _ i ih =>
      intro y hy
      have hi := (List.getElem?_eq_some_iff.mp hy).1
      rw [keysC_len] at hi
      obtain ⟨⟨z, o⟩, e⟩ : ∃ p, cm[i]? = some p := ⟨_, List.getElem?_eq_getElem hi⟩
      have e2 := keysC_get e
      rw [hy] at e2
      cases e2
      rcases Nat.eq_zero_or_pos i with rfl | h0
      · rw [h.hd] at e
        cases e; exact h1
      · obtain ⟨n, a, _, m, j, hj, hk⟩ := h.from' i y o e h0
        exact hS a (ih j hj a hk) _ m
  intro y hy
  obtain ⟨i, hi⟩ := List.mem_iff_getElem?.mp hy
  exact this i y hi
theorem nodup_len {α : Type} [DecidableEq α] : ∀ {a b : List α}, a.Nodup → (∀ x ∈ a, x ∈ b) → a.length ≤ b.length
  | [], _, _, _ => Nat.zero_le _
  | x :: r, b, h, hb => by
    obtain ⟨h1, h2⟩ := List.nodup_cons.mp h
    have hx := hb x (List.mem_cons_self ..)
    have := nodup_len (a := r) (b := b.erase x) h2 (fun y hy => (List.mem_erase_of_ne (fun e => h1 (by rw [← e]; exact hy))).mpr (hb y (List.mem_cons_of_mem _ hy)))
    rw [List.length_erase_of_mem hx] at this
    have : 0 < b.length := List.length_pos_of_mem hx
    simp only [List.length_cons]
    omega
/-- a came that is at its end -/
structure CmEnd (S : Steps) (one : Str) (cm : Came) : Prop extends CmOk S one cm where
  cl : ∀ a ∈ keysC cm, ∀ s ∈ S a, s.2 ∈ keysC cm
theorem CmOk.toEnd {S : Steps} {one : Str} {cm : Came} {d : Nat} (h : CmOk S one cm) (hd : Done S cm d) (hl : cm.length ≤ d) : CmEnd S one cm where
  nd := h.nd
  hd := h.hd
  from' := h.from'
  cl := fun a ha s hs => by
    obtain ⟨i, hi⟩ := List.mem_iff_getElem?.mp ha
    have hlt := (List.getElem?_eq_some_iff.mp hi).1
    rw [keysC_len] at hlt
    exact hd i a (Nat.lt_of_lt_of_le hlt hl) hi s hs
theorem cmOk_one (S : Steps) (one : Str) : CmOk S one [(one, none)] where
  nd := by simp [keysC]
  hd := rfl
  from' := fun i y o hi h0 => by
    have := (List.getElem?_eq_some_iff.mp hi).1
    simp at this; omega
theorem done_zero (S : Steps) (cm : Came) : Done S cm 0 := fun i a hi => by omega
theorem bfs_end {S : Steps} {one : Str} {ps : List Str} (hp : ps.length ≤ 16) (h1 : one ∈ ps) (hS : ∀ a ∈ ps, ∀ s ∈ S a, s.2 ∈ ps) :
    ∀ (f : Nat) (cm : Came) (d : Nat), CmOk S one cm → Done S cm d → d + f = 17 → CmEnd S one (bfs S f cm d)
  | 0, cm, d, h, hd, e => h.toEnd hd (by
      have := nodup_len h.nd (h.keys_in h1 hS)
      rw [keysC_len] at this
      omega)
  | f + 1, cm, d, h, hd, e => by
    unfold bfs
    cases q : cm[d]? with
    | none => exact h.toEnd hd (List.getElem?_eq_none_iff.mp q)
    | some p =>
      obtain ⟨a, o⟩ := p
      exact bfs_end hp h1 hS f _ _ (h.seeAll _ (fun _ hs => hs) (List.mem_of_getElem? (keysC_get q))) (hd.step q) (by omega)
theorem came_end {S : Steps} {one : Str} {ps : List Str} (hp : ps.length ≤ 16) (h1 : one ∈ ps) (hS : ∀ a ∈ ps, ∀ s ∈ S a, s.2 ∈ ps) : CmEnd S one (came S one) :=
  bfs_end hp h1 hS 17 _ _ (cmOk_one S one) (done_zero _ _) rfl
theorem bfs_step {S : Steps} {f : Nat} {cm : Came} {d : Nat} {a : Str} {o : Option (Int × Str)} (h : cm[d]? = some (a, o)) : bfs S (f + 1) cm d = bfs S f (seeAll cm a (S a)) (d + 1) := by
  show (match cm[d]? with
    | none => cm
    | some p => bfs S f (seeAll cm p.1 (S p.1)) (d + 1)) = _
  rw [h]
theorem bfs_stop {S : Steps} {f : Nat} {cm : Came} {d : Nat} (h : cm.length ≤ d) : bfs S f cm d = cm := by
  cases f with
  | zero => rfl
  | succ f =>
    show (match cm[d]? with
      | none => cm
      | some p => bfs S f (seeAll cm p.1 (S p.1)) (d + 1)) = _
    rw [List.getElem?_eq_none_iff.mpr h]
/-- steps that are alike at all points of ps -/
theorem bfs_congr {S S' : Steps} {ps : List Str} (hS : ∀ a ∈ ps, ∀ s ∈ S a, s.2 ∈ ps) (he : ∀ a ∈ ps, S' a = S a) : ∀ (f : Nat) (cm : Came) (d : Nat), (∀ y ∈ keysC cm, y ∈ ps) → bfs S' f cm d = bfs S f cm d
  | 0, _, _, _ => rfl
  | f + 1, cm, d, h => by
    cases q : cm[d]? with
    | none => rw [bfs_stop (List.getElem?_eq_none_iff.mp q), bfs_stop (List.getElem?_eq_none_iff.mp q)]
    | some p =>
      obtain ⟨a, o⟩ := p
      have ha := h a (List.mem_of_getElem? (keysC_get q))
      rw [bfs_step q, bfs_step q, he a ha]
      refine bfs_congr hS he f _ _ ?_
      have : ∀ (ss : List (Int × Str)) (cm : Came), (∀ y ∈ keysC cm, y ∈ ps) → (∀ s ∈ ss, s.2 ∈ ps) → ∀ y ∈ keysC (seeAll cm a ss), y ∈ ps := by
        intro ss
        induction ss with
        | nil => intro cm h _; exact h
        | cons s ss ih =>
          intro cm h hs
          refine ih (see cm a s) ?_ (fun t ht => hs t (List.mem_cons_of_mem _ ht))
          unfold see
          split
          · exact h
          · intro y hy
            rw [keysC_app] at hy
            rcases List.mem_append.mp hy with hy | hy
            · exact h y hy
            · simp [keysC] at hy
              rw [hy]; exact hs s (List.mem_cons_self ..)
      exact this _ _ h (hS a ha)
theorem came_congr {S S' : Steps} {ps : List Str} {one : Str} (h1 : one ∈ ps) (hS : ∀ a ∈ ps, ∀ s ∈ S a, s.2 ∈ ps) (he : ∀ a ∈ ps, S' a = S a) : came S' one = came S one :=
  bfs_congr hS he _ _ _ (fun y hy => by simp [keysC] at hy; rw [hy]; exact h1)
/-! ### the way back -/
def look (cm : Came) (y : Str) : Option (Option (Int × Str)) := (cm.find? fun p => decide (p.1 = y)).map (·.2)
def back (cm : Came) : Nat → Str → List Int
  | 0, _ => []
  | f + 1, y => match look cm y with
    | some (some p) => p.1 :: back cm f p.2
    | _ => []
theorem look_at {cm : Came} (h : (keysC cm).Nodup) {i : Nat} {y : Str} {o : Option (Int × Str)} (e : cm[i]? = some (y, o)) : look cm y = some o := by
  unfold look
  induction cm generalizing i with
  | nil => simp at e
  | cons p r ih =>
    obtain ⟨h1, h2⟩ := List.nodup_cons.mp h
    rw [List.find?_cons]
    cases i with
    | zero =>
      cases e
      simp
    | succ i =>
      have e' : r[i]? = some (y, o) := e
      have hy : p.1 ≠ y := fun q => h1 (List.mem_map.mpr ⟨_, List.mem_of_getElem? e', q.symm⟩)
      rw [decide_eq_false hy]
      exact ih h2 e'
theorem look_none {cm : Came} {y : Str} (h : y ∉ keysC cm) : look cm y = none := by
  unfold look
  rw [List.find?_eq_none.mpr (fun p hp => by
    simp only [decide_eq_true_eq]
    intro e
    exact h (List.mem_map.mpr ⟨p, hp, e⟩))]
  rfl
/-- the points that a way leads by -/
inductive Leads (S : Steps) : Str → List Int → List Str → Str → Prop where
  | here (x : Str) : Leads S x [] [x] x
  | snoc {x a y : Str} {ns : List Int} {ps : List Str} {n : Int} (h : Leads S x ns ps a) (s : (n, y) ∈ S a) : Leads S x (ns ++ [n]) (ps ++ [y]) y
theorem CmOk.back {S : Steps} {one : Str} {cm : Came} (h : CmOk S one cm) : ∀ (i : Nat) (y : Str) (f : Nat), (keysC cm)[i]? = some y → i < f →
    (WB.back cm f y).length ≤ i ∧ ∃ ps, Leads S one (WB.back cm f y).reverse ps y ∧ ps.Nodup ∧ ∀ z ∈ ps, ∃ j, j ≤ i ∧ (keysC cm)[j]? = some z := by
  intro i
  induction i using Nat.strongRecOn with
  | _ i ih =>
    intro y f hy hf
    have hi := (List.getElem?_eq_some_iff.mp hy).1
    rw [keysC_len] at hi
    obtain ⟨⟨z, o⟩, e⟩ : ∃ p, cm[i]? = some p := ⟨_, List.getElem?_eq_getElem hi⟩
    have e2 := keysC_get e
    rw [hy] at e2
    cases e2
    obtain ⟨f, rfl⟩ : ∃ g, f = g + 1 := ⟨f - 1, by omega⟩
    have hl := look_at h.nd e
    rcases Nat.eq_zero_or_pos i with rfl | h0
    · rw [h.hd] at e
      cases e
      have eb : WB.back cm (f + 1) one = [] := by
        show (match look cm one with
          | some (some p) => p.1 :: WB.back cm f p.2
          | _ => []) = _
        rw [hl]
      rw [eb]
      exact ⟨Nat.le_refl _, [one], .here _, by simp, fun z hz => ⟨0, Nat.le_refl _, by simp at hz; rw [hz]; exact hy⟩⟩
    · obtain ⟨n, a, rfl, m, j, hj, hk⟩ := h.from' i y o e h0
      have eb : WB.back cm (f + 1) y = n :: WB.back cm f a := by
        show (match look cm y with
          | some (some p) => p.1 :: WB.back cm f p.2
          | _ => []) = _
        rw [hl]
      obtain ⟨h1, ps, h2, h3, h4⟩ := ih j hj a f hk (by omega)
      rw [eb, List.reverse_cons]
      refine ⟨by simp only [List.length_cons]; omega, ps ++ [y], .snoc h2 m, ?_, ?_⟩
      · refine List.nodup_append.mpr ⟨h3, by simp, fun z hz w hw e3 => ?_⟩
        simp at hw
        obtain ⟨k, hk1, hk2⟩ := h4 z hz
        rw [e3, hw] at hk2
        have : k < (keysC cm).length := (List.getElem?_eq_some_iff.mp hk2).1
        have := (List.getElem_inj h.nd (h₀ := this) (h₁ := by rw [keysC_len]; omega)).mp ((List.getElem?_eq_some_iff.mp hk2).2.trans (List.getElem?_eq_some_iff.mp hy).2.symm)
        omega
      · intro z hz
        rcases List.mem_append.mp hz with hz | hz
        · obtain ⟨k, hk1, hk2⟩ := h4 z hz
          exact ⟨k, by omega, hk2⟩
        · simp at hz
          exact ⟨i, Nat.le_refl _, by rw [hz]; exact hy⟩
/-! ### what is come to -/
inductive Rch (S : Steps) (one : Str) : Str → Prop where
  | here : Rch S one one
  | step {a y : Str} {n : Int} (h : Rch S one a) (s : (n, y) ∈ S a) : Rch S one y
theorem CmEnd.keys_iff {S : Steps} {one : Str} {cm : Came} (h : CmEnd S one cm) {y : Str} : y ∈ keysC cm ↔ Rch S one y := by
  constructor
  · have : ∀ (i : Nat) y, (keysC cm)[i]? = some y → Rch S one y := by
      intro i
      induction i using Nat.strongRecOn with
      | _ i ih =>
        intro y hy
        have hi := (List.getElem?_eq_some_iff.mp hy).1
        rw [keysC_len] at hi
        obtain ⟨⟨z, o⟩, e⟩ : ∃ p, cm[i]? = some p := ⟨_, List.getElem?_eq_getElem hi⟩
        have e2 := keysC_get e
        rw [hy] at e2
        cases e2
        rcases Nat.eq_zero_or_pos i with rfl | h0
        · rw [h.hd] at e
          cases e; exact .here
        · obtain ⟨n, a, _, m, j, hj, hk⟩ := h.from' i y o e h0
          exact .step (ih j hj a hk) m
    intro hy
    obtain ⟨i, hi⟩ := List.mem_iff_getElem?.mp hy
    exact this i y hi
  · intro r
    induction r with
    | here => exact List.mem_of_getElem? (keysC_get h.hd)
    | step _ s ih => exact h.cl _ ih _ s
/-- a list that is closed, too, and whose points are all come to, holds the same -/
theorem Rch.of_closed {S : Steps} {one : Str} {fs : List Str} (h1 : one ∈ fs) (cl : ∀ a ∈ fs, ∀ s ∈ S a, s.2 ∈ fs) {y : Str} (r : Rch S one y) : y ∈ fs := by
  induction r with
  | here => exact h1
  | step _ s ih => exact cl _ ih _ s
theorem free_mem {ts : Ts} {x y : Str} {n : Int} : (n, y) ∈ freeS ts x ↔ ∃ u, (n, u) ∈ ts ∧ ((u.t = x ∧ u.h = y) ∨ (u.o = false ∧ u.h = x ∧ u.t = y)) := by
  unfold freeS freeOne
  rw [List.mem_flatMap]
  constructor
  · rintro ⟨⟨m, u⟩, hm, h⟩
    rcases List.mem_append.mp h with h | h
    · split at h
      · rename_i c
        simp at h
        obtain ⟨rfl, rfl⟩ := h
        exact ⟨u, hm, .inl ⟨c, rfl⟩⟩
      · simp at h
    · split at h
      · rename_i c
        simp at h
        obtain ⟨rfl, rfl⟩ := h
        exact ⟨u, hm, .inr ⟨c.1, c.2, rfl⟩⟩
      · simp at h
  · rintro ⟨u, hu, h⟩
    refine ⟨(n, u), hu, List.mem_append.mpr ?_⟩
    rcases h with ⟨h1, h2⟩ | ⟨h1, h2, h3⟩
    · left; simp [h1, h2]
    · right; simp [h1, h2, h3]
theorem free_in {w : Wb} (h : Wok w) : ∀ a ∈ w.ps, ∀ s ∈ freeS w.ts a, s.2 ∈ w.ps := by
  rintro a _ ⟨n, y⟩ hs
  obtain ⟨u, hu, c⟩ := free_mem.mp hs
  have o := h.ok n u hu
  rcases c with ⟨_, rfl⟩ | ⟨_, _, rfl⟩
  · exact o.h
  · exact o.t
end WB

set_option Elab.async false
set_option linter.all false
set_option maxRecDepth 100000
set_option maxHeartbeats 2000000
namespace L2
theorem Same.new {H : Hp} {p : PySem.Addr} {o : HO} (h : H p = none) : Same H (upd H p o) := fun a u e => by
  rw [upd_ne (ne_of_none e h)]
  exact e
theorem Same.mut {H H' : Hp} {p : PySem.Addr} {o : HO} (e : Same H H') (h : H p = none) : Same H (upd H' p o) := fun a u ha => by
  rw [upd_ne (ne_of_none ha h)]
  exact e a u ha
end L2
/-! KH: webs in the heap. -/
namespace WB
open PySem PySem.Spec PyProof.Rows L2 HX
def tieFs (n : Int) (t : Ti) : List (Str × V) := [("number", .int n), ("tail", .str t.t), ("head", .str t.h), ("load", .int t.c), ("is_oneway", .bl t.o)]
def TieAt (K : PySem.W.Frag) (H : Hp) (n : Int) (t : Ti) (a : Addr) : Prop := ∃ dx, H a = some (.ins (He.ga K "Tie") dx (tieFs n t))
def webFs (l d : Addr) (g : Int) : List (Str × V) := [("_points", .ref l), ("_ties", .ref d), ("_given", .int g)]
structure WebAt (K : PySem.W.Frag) (H : Hp) (p l d : Addr) (w : Wb) : Prop where
  self : ∃ dx, H p = some (.ins (He.ga K "Web") dx (webFs l d w.g))
  pts : H l = some (.lst (w.ps.map V.str))
  ties : ∃ kvs, H d = some (.dK kvs) ∧ DP (TieAt K H) kvs w.ts
/-- all else stays -/
def Keep (H H' : Hp) (p l d : Addr) : Prop := ∀ b o, b ≠ p → b ≠ l → b ≠ d → H b = some o → H' b = some o
section
variable {K : PySem.W.Frag} {H H' : Hp} {p l d a b : Addr} {w : Wb} {n : Int} {t : Ti} {o : HO} {ts : Ts} {kvs : List (Key × V)}
theorem Keep.rfl : Keep H H p l d := fun _ _ _ _ _ e => e
theorem Keep.of (s : Same H H') : Keep H H' p l d := fun b o _ _ _ e => s b o e
theorem Keep.trans {H2 : Hp} {d2 : Addr} (k : Keep H H' p l d) (k2 : Keep H' H2 p l d2) (hd : d2 = d ∨ H d2 = none) : Keep H H2 p l d := fun b o h1 h2 h3 e => by
  refine k2 b o h1 h2 ?_ (k b o h1 h2 h3 e)
  rintro rfl
  rcases hd with e2 | e2
  · exact h3 e2
  · rw [e2] at e; cases e
theorem TieAt.same (h : TieAt K H n t a) (s : Same H H') : TieAt K H' n t a := by
  obtain ⟨dx, e⟩ := h
  exact ⟨dx, s _ _ e⟩
theorem TieAt.ne (h : TieAt K H n t a) (e : H b = some o) (c : ∀ C dx n t, o ≠ .ins C dx (tieFs n t)) : a ≠ b := by
  rintro rfl
  obtain ⟨dx, e2⟩ := h
  exact c _ _ _ _ (Option.some.inj (e.symm.trans e2))
theorem webFs_ne {C dx C2 dx2 : Addr} {g : Int} : HO.ins C dx (webFs l d g) ≠ .ins C2 dx2 (tieFs n t) := by
  intro e
  have e1 := (HO.ins.inj e).2.2
  have e2 := (Prod.mk.inj (List.cons.inj e1).1).1
  exact absurd e2 (by decide +kernel)
theorem TieAt.other (h : TieAt K H n t a) (hb : a ≠ b) : TieAt K (upd H b o) n t a := by
  obtain ⟨dx, e⟩ := h
  exact ⟨dx, (upd_ne hb).trans e⟩
theorem TieAt.new (h : TieAt K H n t a) (hb : H b = none) : TieAt K (upd H b o) n t a := by
  obtain ⟨dx, e⟩ := h
  exact ⟨dx, (upd_ne (ne_of_none e hb)).trans e⟩
theorem WebAt.ne_pl (h : WebAt K H p l d w) : p ≠ l := by
  rintro rfl
  obtain ⟨dx, e⟩ := h.self
  have e2 := h.pts
  rw [e] at e2; cases e2
theorem WebAt.ne_pd (h : WebAt K H p l d w) : p ≠ d := by
  rintro rfl
  obtain ⟨dx, e⟩ := h.self
  obtain ⟨kvs, e2, _⟩ := h.ties
  rw [e] at e2; cases e2
theorem WebAt.ne_ld (h : WebAt K H p l d w) : l ≠ d := by
  rintro rfl
  have e := h.pts
  obtain ⟨kvs, e2, _⟩ := h.ties
  rw [e] at e2; cases e2
theorem WebAt.tie_ne (h : WebAt K H p l d w) (ta : TieAt K H n t a) : a ≠ p ∧ a ≠ l ∧ a ≠ d := by
  obtain ⟨dx, e1⟩ := h.self
  obtain ⟨kvs, e3, _⟩ := h.ties
  exact ⟨ta.ne e1 (fun _ _ _ _ => webFs_ne), ta.ne h.pts (fun _ _ _ _ => by simp), ta.ne e3 (fun _ _ _ _ => by simp)⟩
theorem WebAt.tie_keep (h : WebAt K H p l d w) (k : Keep H H' p l d) (ta : TieAt K H n t a) : TieAt K H' n t a := by
  obtain ⟨n1, n2, n3⟩ := h.tie_ne ta
  obtain ⟨dx, e⟩ := ta
  exact ⟨dx, k _ _ n1 n2 n3 e⟩
theorem WebAt.same (h : WebAt K H p l d w) (s : Same H H') : WebAt K H' p l d w where
  self := by
    obtain ⟨dx, e⟩ := h.self
    exact ⟨dx, s _ _ e⟩
  pts := s _ _ h.pts
  ties := by
    obtain ⟨kvs, e, c⟩ := h.ties
    exact ⟨kvs, s _ _ e, c.mono fun _ _ _ r => r.same s⟩
/-- another web that stands beside -/
theorem WebAt.beside {p2 l2 d2 : Addr} {w2 : Wb} (h : WebAt K H p l d w) (k : Keep H H' p2 l2 d2) (g : WebAt K H p2 l2 d2 w2) (c1 : p ≠ p2) (c2 : l ≠ l2) (c3 : d ≠ d2) : WebAt K H' p l d w where
  self := by
    obtain ⟨dx, e⟩ := h.self
    refine ⟨dx, k _ _ c1 ?_ ?_ e⟩
    · rintro rfl
      have e2 := g.pts
      rw [e] at e2; cases e2
    · rintro rfl
      obtain ⟨_, e2, _⟩ := g.ties
      rw [e] at e2; cases e2
  pts := by
    have e := h.pts
    refine k _ _ ?_ c2 ?_ e
    · rintro rfl
      obtain ⟨_, e2⟩ := g.self
      rw [e] at e2; cases e2
    · rintro rfl
      obtain ⟨_, e2, _⟩ := g.ties
      rw [e] at e2; cases e2
  ties := by
    obtain ⟨kvs, e, c⟩ := h.ties
    refine ⟨kvs, k _ _ ?_ ?_ c3 e, c.mono fun _ _ _ r => g.tie_keep k r⟩
    · rintro rfl
      obtain ⟨_, e2⟩ := g.self
      rw [e] at e2; cases e2
    · rintro rfl
      have e2 := g.pts
      rw [e] at e2; cases e2
end
end WB
namespace WB
open PySem PySem.Spec PyProof.Rows L2 HX
section
variable {n : Int} {t : Ti} {l d l' d' : Addr} {g g' : Int}
theorem lk_number : (tieFs n t).lookup ("number" : Str) = some (.int n) := rfl
theorem lk_tail : (tieFs n t).lookup ("tail" : Str) = some (.str t.t) := rfl
theorem lk_head : (tieFs n t).lookup ("head" : Str) = some (.str t.h) := rfl
theorem lk_load : (tieFs n t).lookup ("load" : Str) = some (.int t.c) := rfl
theorem lk_oneway : (tieFs n t).lookup ("is_oneway" : Str) = some (.bl t.o) := rfl
theorem lk_points : (webFs l d g).lookup ("_points" : Str) = some (.ref l) := rfl
theorem lk_ties : (webFs l d g).lookup ("_ties" : Str) = some (.ref d) := rfl
theorem lk_given : (webFs l d g).lookup ("_given" : Str) = some (.int g) := rfl
theorem pf_points : putF "_points" (.ref l') (webFs l d g) = webFs l' d g := rfl
theorem pf_ties : putF "_ties" (.ref d') (webFs l d g) = webFs l d' g := rfl
theorem pf_given : putF "_given" (.int g') (webFs l d g) = webFs l d g' := rfl
theorem pf_tie {x y : Str} {c : Int} {o : Bool} : putF "is_oneway" (.bl o) (putF "load" (.int c) (putF "head" (.str y) (putF "tail" (.str x) (putF "number" (.int n) [])))) = tieFs n ⟨x, y, c, o⟩ := rfl
theorem pf_web : putF "_given" (.int g) (putF "_ties" (.ref d) (putF "_points" (.ref l) [])) = webFs l d g := rfl
end
end WB

/-! ### changes of a web -/
namespace WB
open PySem PySem.Spec PyProof.Rows L2 HX
section
variable {K : PySem.W.Frag} {H H' : Hp} {p l d d2 dx a : Addr} {w : Wb} {ts : Ts} {kvs : List (Key × V)} {g : Int} {ps : List Str}
theorem WebAt.setPts (h : WebAt K H p l d w) (s : Same H H') : WebAt K (upd H' l (.lst (ps.map V.str))) p l d { w with ps := ps } ∧ Keep H (upd H' l (.lst (ps.map V.str))) p l d := by
  have h2 := h.same s
  obtain ⟨dx, e1⟩ := h2.self
  obtain ⟨kvs, e3, c⟩ := h2.ties
  exact ⟨⟨⟨dx, (upd_ne h2.ne_pl).trans e1⟩, upd_same, ⟨kvs, (upd_ne h2.ne_ld.symm).trans e3, c.mono fun _ _ _ r => r.other (h2.tie_ne r).2.1⟩⟩,
    fun b o _ n _ e => (upd_ne n).trans (s _ _ e)⟩
theorem WebAt.setTies (h : WebAt K H p l d w) (s : Same H H') (c : DP (TieAt K H') kvs ts) : WebAt K (upd H' d (.dK kvs)) p l d { w with ts := ts } ∧ Keep H (upd H' d (.dK kvs)) p l d := by
  have h2 := h.same s
  obtain ⟨dx, e1⟩ := h2.self
  exact ⟨⟨⟨dx, (upd_ne h2.ne_pd).trans e1⟩, (upd_ne h2.ne_ld).trans h2.pts, ⟨kvs, upd_same, c.mono fun _ _ _ r => r.other (h2.tie_ne r).2.2⟩⟩,
    fun b o _ _ n e => (upd_ne n).trans (s _ _ e)⟩
theorem WebAt.swapTies (h : WebAt K H p l d w) (s : Same H H') (e : H' d2 = some (.dK kvs)) (c : DP (TieAt K H') kvs ts) : WebAt K (upd H' p (.ins (He.ga K "Web") dx (webFs l d2 w.g))) p l d2 { w with ts := ts } ∧ Keep H (upd H' p (.ins (He.ga K "Web") dx (webFs l d2 w.g))) p l d := by
  have h2 := h.same s
  obtain ⟨dy, e1⟩ := h2.self
  have n2 : d2 ≠ p := by
    rintro rfl
    rw [e1] at e; cases e
  exact ⟨⟨⟨dx, upd_same⟩, (upd_ne h2.ne_pl.symm).trans h2.pts, ⟨kvs, (upd_ne n2).trans e, c.mono fun _ _ _ r => r.other (h2.tie_ne r).1⟩⟩,
    fun b o n _ _ e => (upd_ne n).trans (s _ _ e)⟩
theorem WebAt.setGiven (h : WebAt K H p l d w) (s : Same H H') : WebAt K (upd H' p (.ins (He.ga K "Web") dx (webFs l d g))) p l d { w with g := g } ∧ Keep H (upd H' p (.ins (He.ga K "Web") dx (webFs l d g))) p l d := by
  have h2 := h.same s
  obtain ⟨kvs, e3, c⟩ := h2.ties
  exact ⟨⟨⟨dx, upd_same⟩, (upd_ne h2.ne_pl.symm).trans h2.pts, ⟨kvs, (upd_ne h2.ne_pd.symm).trans e3, c.mono fun _ _ _ r => r.other (h2.tie_ne r).1⟩⟩,
    fun b o n _ _ e => (upd_ne n).trans (s _ _ e)⟩
/-- behind a lock -/
theorem lock_same {u : HO} {o : Obj} (h : H d = some u) (s : Same (upd H d (.frz o u)) H') : H' d = some (.frz o u) ∧ Same H (upd H' d u) := by
  refine ⟨s _ _ upd_same, fun b v e => ?_⟩
  by_cases n : b = d
  · subst n
    rw [upd_same, ← h, e]
  · rw [upd_ne n]
    exact s _ _ ((upd_ne n).trans e)
theorem TieAt.unlock {u : HO} {o : Obj} {n : Int} {t : Ti} (h : TieAt K H' n t a) (e : H' d = some (.frz o u)) : TieAt K (upd H' d u) n t a := h.other (h.ne e (fun _ _ _ _ => by simp))
theorem TieAt.locked {u : HO} {o : Obj} {n : Int} {t : Ti} (h : TieAt K H n t a) (e : H d = some (.dK kvs)) : TieAt K (upd H d (.frz o u)) n t a := h.other (h.ne e (fun _ _ _ _ => by simp))
theorem inV_str {x : Str} {ys : List Str} : inV (.str x) (ys.map V.str) = decide (x ∈ ys) := by
  unfold inV
  induction ys with
  | nil => simp
  | cons y r ih =>
    rw [List.map_cons, List.any_cons, ih]
    have e : eqV (.str y) (.str x) = decide (x = y) := by
      by_cases c : x = y
      · subst c; simp [eqV]
      · have c2 : ¬ y = x := fun e => c e.symm
        simp [eqV, c, c2]
    rw [e, ← Bool.decide_or]
    exact decide_eq_decide.mpr (by simp)
theorem flat_strs {ys : List Str} : (ys.map V.str).all flatV = true := by
  rw [List.all_map, List.all_eq_true]
  intro _ _; rfl
end
end WB
namespace WB
open PySem PySem.Spec PyProof.Rows L2 HX
section
variable {K : PySem.W.Frag} {H : Hp} {Q : VK} {l : Addr} {ys : List Str} {x : Str}
theorem idx_get {ys : List Str} {x : Str} (h : x ∈ ys) : ys[ys.idxOf x]? = some x := by
  have hl : ys.idxOf x < ys.length := List.idxOf_lt_length_iff.mpr h
  rw [List.getElem?_eq_getElem hl, List.getElem_idxOf hl]
theorem idx_before {x : Str} : ∀ {ys : List Str} {m : Nat}, m < ys.idxOf x → ys[m]? ≠ some x
  | [], m, h => by simp
  | y :: r, m, h => by
    rw [List.idxOf_cons] at h
    by_cases e : y = x
    · subst e; simp at h
    · have eb : (y == x) = false := by simpa using e
      rw [eb] at h
      simp only [cond_false] at h
      cases m with
      | zero => simpa using e
      | succ k => exact idx_before (ys := r) (by omega)
theorem i_remS (h : H l = some (.lst (ys.map V.str))) (m : x ∈ ys) (q : Q .non (upd H l (.lst ((ys.erase x).map V.str)))) : rRemS (.ref l) [.str x] H Q :=
  ⟨l, ys, x, ys.idxOf x, rfl, rfl, h, idx_get m, fun _ hm => idx_before hm, by rw [← List.erase_eq_eraseIdx_of_idxOf rfl]; exact q⟩
theorem i_indexS (h : SqL K H l (ys.map V.str)) (m : x ∈ ys) (q : Q (.int (ys.idxOf x : Nat)) H) : rIndex K (.ref l) [.str x] H Q := by
  refine ⟨l, ys.map V.str, .str x, ys.idxOf x, .str x, rfl, rfl, h, rfl, flat_strs, ?_, by simp [eqV], fun k z hk hz => ?_, q⟩
  · rw [List.getElem?_map, idx_get m]; rfl
  · rw [List.getElem?_map] at hz
    cases e : ys[k]? with
    | none => rw [e] at hz; cases hz
    | some y =>
      rw [e] at hz
      cases hz
      have hne : y ≠ x := fun c => idx_before hk (by rw [e, c])
      simpa [eqV] using hne
theorem i_inS {b : Bool} (h : SqL K H l (ys.map V.str)) (q : Q (.bl (if b = true then !decide (x ∈ ys) else decide (x ∈ ys))) H) : rIn K b (.str x) (.ref l) H Q :=
  i_rIn h rfl flat_strs (by rw [inV_str]; exact q)
theorem i_inT {b : Bool} (h : SqT K H l (ys.map V.str)) (q : Q (.bl (if b = true then !decide (x ∈ ys) else decide (x ∈ ys))) H) : rIn K b (.str x) (.ref l) H Q :=
  i_rInT h rfl flat_strs (by rw [inV_str]; exact q)
theorem nm_len {z : Str} (h : isNm z = true) : z.length ≤ 12 := by
  unfold isNm at h
  simp only [Bool.and_eq_true, decide_eq_true_eq] at h
  exact h.1.2
end
end WB
namespace WB
open PySem PySem.Spec PyProof.Rows L2 HX
theorem tput_map {ts : Ts} {n : Int} {t : Ti} (hs : Rise ts) (h : tget ts n = some t) (f : Ti → Ti) : tput ts n (f t) = ts.map fun x => if x.1 = n then (x.1, f x.2) else x := by
  rw [tput_eq h]
  apply List.map_congr_left
  rintro ⟨m, u⟩ hm
  by_cases e : m = n
  · subst e
    have := tget_of hs hm
    rw [h] at this
    cases this
    rfl
  · simp only [e, if_false]
/-- turning at the numbers of a list, one more -/
theorem part_step {ts : Ts} {ns : List Int} {n : Int} {t : Ti} {x y : Str} (hs : Rise ts) (h : tget ts n = some t) (hn : n ∉ ns) :
    tget (ts.map fun nt => if nt.1 ∈ ns then (nt.1, turn x y nt.2) else nt) n = some t ∧
    tput (ts.map fun nt => if nt.1 ∈ ns then (nt.1, turn x y nt.2) else nt) n (turn x y t) = ts.map fun nt => if nt.1 ∈ ns ++ [n] then (nt.1, turn x y nt.2) else nt := by
  have hr : Rise (ts.map fun nt => if nt.1 ∈ ns then (nt.1, turn x y nt.2) else nt) := rise_keys (by
    rw [List.map_map]
    apply List.map_congr_left
    intro z _
    show (if z.1 ∈ ns then (z.1, turn x y z.2) else z).1 = z.1
    split <;> rfl) hs
  have hm : (n, t) ∈ ts.map fun nt => if nt.1 ∈ ns then (nt.1, turn x y nt.2) else nt := List.mem_map.mpr ⟨(n, t), tget_mem h, by simp [hn]⟩
  have hg := tget_of hr hm
  refine ⟨hg, ?_⟩
  rw [tput_map hr hg, List.map_map]
  apply List.map_congr_left
  rintro ⟨m, u⟩ _
  show (fun x_1 : Int × Ti => if x_1.1 = n then (x_1.1, turn x y x_1.2) else x_1) (if m ∈ ns then (m, turn x y u) else (m, u)) = if m ∈ ns ++ [n] then (m, turn x y u) else (m, u)
  by_cases e : m = n
  · subst e
    simp [hn]
  · by_cases e2 : m ∈ ns <;> simp [e, e2]
/-- a dict that is built up by rising numbers -/
theorem put_new {R : Int → Ti → Addr → Prop} {kvs : List (Key × V)} {ts : Ts} {n : Int} {t : Ti} {a : Addr} (h : DP R kvs ts) (r : R n t a) (hn : ∀ x ∈ ts, x.1 ≠ n) : DP R (putK kvs (Sum.inl n) (.ref a)) (ts ++ [(n, t)]) := by
  have := h.put r
  rwa [tput_new hn] at this
theorem rise_take {ts : Ts} {m : Nat} {n : Int} {t : Ti} (hs : Rise ts) (h : ts[m]? = some (n, t)) : ∀ x ∈ ts.take m, x.1 ≠ n := by
  intro x hx
  obtain ⟨i, hi⟩ := List.mem_iff_getElem?.mp hx
  rw [List.getElem?_take] at hi
  split at hi
  · rename_i hlt
    obtain ⟨h1, h2⟩ := List.getElem?_eq_some_iff.mp hi
    obtain ⟨h3, h4⟩ := List.getElem?_eq_some_iff.mp h
    have := List.pairwise_iff_getElem.mp hs i m h1 h3 hlt
    rw [h2, h4] at this
    simp at this
    omega
  · cases hi
theorem take_map {ts : Ts} {m : Nat} {x : Int × Ti} {f : Int × Ti → Int × Ti} (h : ts[m]? = some x) : (ts.take (m + 1)).map f = (ts.take m).map f ++ [f x] := by
  rw [List.take_add_one, h, List.map_append]
  rfl
theorem ixN_at {n j : Nat} (h : j < n) : ixN n (j : Int) = some j := by
  unfold ixN
  rw [if_pos (by omega), if_pos (by omega)]
  simp
end WB

set_option Elab.async false
set_option linter.all false
set_option maxRecDepth 100000
set_option maxHeartbeats 2000000
/-! K01m: texts and data, plain mathematics. -/
namespace TX
open PySem PySem.Spec PyProof.Rows L2 HX TL
/-! ### good texts -/
abbrev okS (z : Str) : Bool := PyData.strOk z
theorem okS_iff {z : Str} : okS z = true ↔ ∀ c ∈ tl z, c < 0x110000 := by
  unfold okS PyData.strOk
  rw [Array.all_eq_true']
  simp [tl]
theorem okS_app {x y : Str} (hx : okS x = true) (hy : okS y = true) : okS (x ++ y) = true := by
  rw [okS_iff] at *
  intro c hc
  rw [tl_append] at hc
  rcases List.mem_append.mp hc with h | h
  · exact hx c h
  · exact hy c h
theorem okS_one {c : Nat} (h : c < 0x110000) : okS ⟨#[c]⟩ = true := okS_iff.mpr fun d hd => by
  have : d = c := by simpa [tl] using hd
  omega
theorem okS_sign {z : Str} {c : Nat} (h : okS z = true) (hc : c ∈ z.cps.toList) : okS ⟨#[c]⟩ = true := okS_one (okS_iff.mp h c hc)
theorem mem_joinL {S : List Nat} : ∀ {ps : List (List Nat)} {p : List Nat} {c : Nat}, p ∈ ps → c ∈ p → c ∈ joinL S ps
  | [q], p, c, hp, hc => by
    rw [List.mem_singleton.mp hp] at hc
    exact hc
  | q :: q2 :: r, p, c, hp, hc => by
    show c ∈ q ++ (S ++ joinL S (q2 :: r))
    rcases List.mem_cons.mp hp with rfl | h
    · exact List.mem_append.mpr (.inl hc)
    · exact List.mem_append.mpr (.inr (List.mem_append.mpr (.inr (mem_joinL h hc))))
theorem of_joinL {S : List Nat} : ∀ {ps : List (List Nat)} {c : Nat}, c ∈ joinL S ps → c ∈ S ∨ ∃ p ∈ ps, c ∈ p
  | [], c, h => by simp [joinL] at h
  | [q], c, h => .inr ⟨q, by simp, h⟩
  | q :: q2 :: r, c, h => by
    rcases List.mem_append.mp (show c ∈ q ++ (S ++ joinL S (q2 :: r)) from h) with h | h
    · exact .inr ⟨q, by simp, h⟩
    · rcases List.mem_append.mp h with h | h
      · exact .inl h
      · rcases of_joinL h with h | ⟨p, hp, hc⟩
        · exact .inl h
        · exact .inr ⟨p, List.mem_cons_of_mem _ hp, hc⟩
theorem okS_split {x y z : Str} (h : okS x = true) (hz : z ∈ Txt.split x y) : okS z = true := by
  rw [okS_iff] at *
  intro c hc
  refine h c ?_
  rw [← StrLaws.join_split x y, tl_join]
  exact mem_joinL (List.mem_map.mpr ⟨z, hz, rfl⟩) hc
theorem okS_join {y : Str} {ys : List Str} (hy : okS y = true) (h : ∀ z ∈ ys, okS z = true) : okS (Txt.join y ys) = true := by
  rw [join_eq, okS_iff, tl_join]
  intro c hc
  rcases of_joinL hc with hc | ⟨p, hp, hc⟩
  · exact okS_iff.mp hy c hc
  · obtain ⟨z, hz, rfl⟩ := List.mem_map.mp hp
    exact okS_iff.mp (h z hz) c hc
theorem len_app (x y : Str) : (x ++ y).length = x.length + y.length := by
  rw [len_tl, tl_append, List.length_append, ← len_tl, ← len_tl]
theorem joinL_len_nil : ∀ ps : List (List Nat), (joinL [] ps).length = (ps.map List.length).sum
  | [] => rfl
  | [p] => by simp [joinL]
  | p :: q :: r => by
    show (p ++ ([] ++ joinL [] (q :: r))).length = _
    rw [List.length_append, List.nil_append, joinL_len_nil (q :: r)]
    simp
theorem joinL_nil : ∀ ps : List (List Nat), joinL [] ps = ps.flatten
  | [] => rfl
  | [p] => by simp [joinL]
  | p :: q :: r => by
    show p ++ ([] ++ joinL [] (q :: r)) = _
    rw [List.nil_append, joinL_nil (q :: r)]
    simp
theorem tl_empty : tl ("" : Str) = [] := by decide +kernel
theorem join_empty_len (ys : List Str) : (Txt.join "" ys).length = (ys.map (·.length)).sum := by
  rw [join_eq, len_tl, tl_join, tl_empty, joinL_len_nil, List.map_map]
  congr 1
theorem sum_le {ys : List Str} {k : Nat} (h : ∀ y ∈ ys, y.length ≤ k) : (ys.map (·.length)).sum ≤ ys.length * k := by
  induction ys with
  | nil => simp
  | cons y r ih =>
    rw [List.map_cons, List.sum_cons, List.length_cons]
    have h1 := h y (by simp)
    have h2 := ih fun z hz => h z (by simp [hz])
    rw [Nat.succ_mul]
    omega
/-! ### lists of texts as data -/
section
variable {K : PySem.W.Frag} {H : Hp} {Q : VK}
theorem dp_strs : ∀ ys : List Str, DpAll K H (ys.map V.str) (ys.map PyData.str)
  | [] => .nil
  | y :: r => .cons (.str y) (dp_strs r)
theorem depth_strs : ∀ ys : List Str, PyData.depthAll (ys.map PyData.str) = 0
  | [] => by simp [PyData.depthAll]
  | y :: r => by simp [PyData.depthAll, PyData.depth, depth_strs r]
theorem lay_strs : ∀ {ys : List Str}, (∀ y ∈ ys, okS y = true) → PyData.canLayAll0 (ys.map PyData.str) = true
  | [], _ => by simp [PyData.canLayAll0]
  | y :: r, h => by
    have h1 := h y (by simp)
    have h2 := lay_strs (ys := r) fun z hz => h z (by simp [hz])
    simp only [List.map_cons, PyData.canLayAll0, PyData.canLay0, h2, Bool.and_true]
    exact h1
theorem shaped_strs {ys : List Str} (h : ∀ y ∈ ys, okS y = true) : SeqAt.shaped (.list (ys.map PyData.str)) = true := by
  unfold SeqAt.shaped
  rw [PyData.canLay0, lay_strs h, PyData.depth, depth_strs]
  rfl
theorem eqvAll_nil : ∀ ys : List Str, PyData.eqv (.list (ys.map PyData.str)) (.list []) = ys.isEmpty
  | [] => by simp [PyData.eqv, PyData.eqvAll]
  | y :: r => by simp [PyData.eqv, PyData.eqvAll]
theorem eqv_same {ys : List Str} (h : ∀ y ∈ ys, okS y = true) : PyData.eqv (.list (ys.map PyData.str)) (.list (ys.map PyData.str)) = true :=
  SeqAt.eqv_refl _ (by rw [PyData.canLay0]; exact lay_strs h)
theorem i_eqNil {D p : Addr} {ys : List Str} (h : SqL K H D (ys.map V.str)) (h2 : SqL K H p []) (o : ∀ y ∈ ys, okS y = true) (q : Q (.bl ys.isEmpty) H) : rEqD K (.ref D) (.ref p) H Q :=
  ⟨_, _, .lst h (dp_strs ys), .lst h2 .nil, shaped_strs o, by decide +kernel, by rw [eqvAll_nil]; exact q⟩
theorem i_neNil {D p : Addr} {ys : List Str} (h : SqL K H D (ys.map V.str)) (h2 : SqL K H p []) (o : ∀ y ∈ ys, okS y = true) (q : Q (.bl (!ys.isEmpty)) H) : rNeD K (.ref D) (.ref p) H Q :=
  ⟨_, _, .lst h (dp_strs ys), .lst h2 .nil, shaped_strs o, by decide +kernel, by rw [eqvAll_nil]; exact q⟩
theorem i_neSame {D p : Addr} {ys : List Str} (h : SqL K H D (ys.map V.str)) (h2 : SqL K H p (ys.map V.str)) (o : ∀ y ∈ ys, okS y = true) (q : Q (.bl false) H) : rNeD K (.ref D) (.ref p) H Q :=
  ⟨_, _, .lst h (dp_strs ys), .lst h2 (dp_strs ys), shaped_strs o, shaped_strs o, by rw [eqv_same o]; exact q⟩
end
/-! ### the figures of a number, the last one first -/
def FigInv (n : Nat) (left : Nat) (fs : List Nat) : Prop :=
  (fs = [] ∧ left = n) ∨ (fs ≠ [] ∧ (0 < left → numL left ++ fs.reverse = numL n) ∧ (left = 0 → fs.reverse = numL n))
theorem FigInv.step {n left : Nat} {fs : List Nat} (h : FigInv n left fs) (c : 0 < left ∨ fs = []) : FigInv n (left / 10) (fs ++ [48 + left % 10]) := by
  refine .inr ⟨by simp, fun hp => ?_, fun hz => ?_⟩
  · have h10 : 10 ≤ left := by omega
    rw [List.reverse_append]
    rcases h with ⟨rfl, rfl⟩ | ⟨_, h1, _⟩
    · rw [numL_step h10]; simp
    · rw [← h1 (by omega), numL_step h10]; simp
  · have h10 : left < 10 := by omega
    rw [List.reverse_append]
    rcases h with ⟨rfl, rfl⟩ | ⟨hne, h1, _⟩
    · rw [numL_lt h10, Nat.mod_eq_of_lt h10]; simp
    · rw [← h1 (by rcases c with c | c; exact c; exact absurd c hne), numL_lt h10, Nat.mod_eq_of_lt h10]; simp
theorem FigInv.done {n : Nat} {fs : List Nat} (h : FigInv n 0 fs) (hne : fs ≠ []) : fs.reverse = numL n := by
  rcases h with ⟨e, _⟩ | ⟨_, _, h2⟩
  · exact absurd e hne
  · exact h2 rfl
def sgn (c : Nat) : Str := ⟨#[c]⟩
theorem flat_signs : ∀ fs : List Nat, ((fs.map sgn).map tl).flatten = fs
  | [] => rfl
  | c :: r => by
    rw [List.map_cons, List.map_cons, List.flatten_cons, flat_signs r]
    rfl
theorem join_signs (fs : List Nat) : tl (Txt.join "" ((fs.map sgn).reverse)) = fs.reverse := by
  rw [join_eq, tl_join, tl_empty, joinL_nil, ← List.map_reverse, flat_signs]
theorem numL_head {n : Nat} (h : (numL n).headD 0 = 48) : n = 0 := by
  induction n using Nat.strongRecOn with
  | _ n ih =>
    by_cases h10 : n < 10
    · rw [numL_lt h10] at h
      simp at h
      omega
    · rw [numL_step (by omega)] at h
      have e := ih (n / 10) (by omega) (by
        cases q : numL (n / 10) with
        | nil => exact absurd q (numL_ne _)
        | cons c r => rw [q] at h; exact h)
      omega
end TX

set_option Elab.async false
set_option linter.all false
set_option maxRecDepth 100000
set_option maxHeartbeats 2000000
/-! KL: lines that write a web, as plain data. -/
namespace WB
open PySem PySem.Spec PyProof.Rows L2 HX TX TL
/-! ### numbers as texts -/
/-- all signs of z are signs of s -/
def only (z s : Str) : Bool := z.cps.toList.all fun c => decide (c ∈ s.cps.toList)
abbrev digs : Str := "0123456789"
def fst1 (z : Str) : Str := ⟨#[z.cps.toList.headD 0]⟩
def numOk (z : Str) : Bool := decide (1 ≤ (z.length : Int)) && decide ((z.length : Int) ≤ 61) && only z digs && !(decide (fst1 z = "0") && !decide (z = "0"))
def numV (z : Str) : V := if numOk z = true then .int ((NumText.digitsVal z.cps.toList : Nat) : Int) else .non
theorem digs_list : digs.cps.toList = [48, 49, 50, 51, 52, 53, 54, 55, 56, 57] := by decide +kernel
theorem dig_mem {c : Nat} : c ∈ digs.cps.toList ↔ 48 ≤ c ∧ c ≤ 57 := by
  rw [digs_list]
  simp only [List.mem_cons, List.not_mem_nil, or_false]
  omega
theorem only_digs {z : Str} (h : only z digs = true) : NumText.AllDigits z.cps.toList := by
  intro c hc
  unfold only at h
  rw [List.all_eq_true] at h
  exact dig_mem.mp (of_decide_eq_true (h c hc))
theorem len_list (z : Str) : z.cps.toList.length = z.length := by simp [Str.length]
theorem first_at {z : Str} (h : 1 ≤ (z.length : Int)) : atI z.cps.toList 0 = some (z.cps.toList.headD 0) := by
  have e := len_list z
  cases q : z.cps.toList with
  | nil => rw [q] at e; simp at e; omega
  | cons c r => exact atI_nat (j := 0) rfl
/-- a number, written -/
def nS (n : Int) : Str := Str.ofString (toString n)
theorem tl_nS (m : Nat) : tl (nS (m : Int)) = numL m := tl_num m
theorem nS_len {n : Int} (h0 : 0 ≤ n) (h : n < 10 ^ 61) : (nS n).length ≤ 61 := by
  obtain ⟨m, rfl⟩ := Int.eq_ofNat_of_zero_le h0
  rw [len_tl, tl_nS]
  exact numL_len (by decide) (by omega)
theorem nS_pos {n : Int} (h0 : 0 ≤ n) : 1 ≤ (nS n).length := by
  obtain ⟨m, rfl⟩ := Int.eq_ofNat_of_zero_le h0
  rw [len_tl, tl_nS]
  have := numL_ne m
  cases q : numL m with
  | nil => exact absurd q this
  | cons c r => simp
theorem nS_digits {n : Int} (h0 : 0 ≤ n) : ∀ c ∈ tl (nS n), 48 ≤ c ∧ c ≤ 57 := by
  obtain ⟨m, rfl⟩ := Int.eq_ofNat_of_zero_le h0
  intro c hc
  rw [tl_nS] at hc
  have := numL_digits m c hc
  omega
theorem nS_log {n : Int} (h0 : 0 ≤ n) (h : n < 10 ^ 61) : n.natAbs.log2 < 1920 := by
  obtain ⟨m, rfl⟩ := Int.eq_ofNat_of_zero_le h0
  have h : m < 10 ^ 61 := by omega
  rw [Int.natAbs_natCast]
  by_cases e : m = 0
  · subst e; decide
  · exact (Nat.log2_lt e).mpr (Nat.lt_of_lt_of_le h (by decide))
theorem zero_tl : tl ("0" : Str) = [48] := by decide +kernel
theorem num_back {n : Int} (h0 : 0 ≤ n) (h : n < 10 ^ 61) : numV (nS n) = .int n := by
  have h1 := nS_len h0 h
  have h2 := nS_pos h0
  obtain ⟨m, rfl⟩ := Int.eq_ofNat_of_zero_le h0
  have ok : numOk (nS (m : Int)) = true := by
    have h3 : only (nS (m : Int)) digs = true := by
      unfold only
      rw [List.all_eq_true]
      intro c hc
      exact decide_eq_true (dig_mem.mpr (nS_digits h0 c hc))
    have h4 : fst1 (nS (m : Int)) = "0" → nS (m : Int) = "0" := by
      intro e
      have e1 : (numL m).headD 0 = 48 := by
        have q := congrArg tl e
        rw [zero_tl] at q
        have q2 : [(tl (nS (m : Int))).headD 0] = [48] := q
        rw [tl_nS] at q2
        exact List.cons.inj q2 |>.1
      have e2 := numL_head e1
      subst e2
      exact ext_tl (by rw [tl_nS, zero_tl]; decide +kernel)
    unfold numOk
    rw [decide_eq_true (show (1 : Int) ≤ ((nS (m : Int)).length : Int) by omega), decide_eq_true (show ((nS (m : Int)).length : Int) ≤ 61 by omega), h3]
    by_cases e : fst1 (nS (m : Int)) = "0"
    · rw [decide_eq_true e, decide_eq_true (h4 e)]; rfl
    · rw [decide_eq_false e]; rfl
  show (if numOk (nS (m : Int)) = true then V.int ((NumText.digitsVal (tl (nS (m : Int))) : Nat) : Int) else V.non) = _
  rw [if_pos ok, tl_nS, numL_val]
theorem most_lt : most < 10 ^ 61 := by decide +kernel
/-! ### lines -/
inductive Ln where
  | pt (x : Str)
  | tie (n : Int) (u : Ti)
  | gv (g : Int)
def kindS (o : Bool) : Str := if o = true then "way" else "tie"
def Ln.words : Ln → List Str
  | .pt x => ["point", x]
  | .tie n u => [kindS u.o, nS n, u.t, u.h, nS u.c]
  | .gv g => ["given", nS g]
def Ln.text (l : Ln) : Str := Txt.join " " l.words
/-- a word: some signs, no blank among them, good ones, not too many -/
def isWd (z : Str) : Prop := tl z ≠ [] ∧ (∀ c ∈ tl z, c ≠ 32 ∧ c < 0x110000) ∧ z.length ≤ 61
theorem nm_wd {z : Str} (h : isNm z = true) : isWd z := by
  unfold isNm at h
  simp only [Bool.and_eq_true, decide_eq_true_eq, List.all_eq_true] at h
  refine ⟨fun e => ?_, fun c hc => ?_, by omega⟩
  · have := h.1.1
    rw [len_tl, e] at this
    simp at this
  · have := h.2 c hc
    omega
theorem nS_wd {n : Int} (h0 : 0 ≤ n) (h : n < 10 ^ 61) : isWd (nS n) := by
  refine ⟨fun e => ?_, fun c hc => ?_, nS_len h0 h⟩
  · have := nS_pos h0
    rw [len_tl, e] at this
    simp at this
  · have := nS_digits h0 c hc
    omega
theorem kind_wd (o : Bool) : isWd (kindS o) := by
  cases o
  · exact ⟨by decide +kernel, by decide +kernel, by decide +kernel⟩
  · exact ⟨by decide +kernel, by decide +kernel, by decide +kernel⟩
theorem point_wd : isWd "point" := ⟨by decide +kernel, by decide +kernel, by decide +kernel⟩
theorem given_wd : isWd "given" := ⟨by decide +kernel, by decide +kernel, by decide +kernel⟩
def Ln.fine (l : Ln) : Prop := ∀ z ∈ l.words, isWd z
theorem tl_blank : tl (" " : Str) = [32] := by decide +kernel
theorem Ln.words_ne (l : Ln) : l.words ≠ [] := by cases l <;> simp [Ln.words]
theorem Ln.words_len (l : Ln) : l.words.length ≤ 5 := by cases l <;> simp [Ln.words]
theorem Ln.parts {l : Ln} (h : l.fine) : Txt.split l.text " " = l.words :=
  split_join (S := []) tl_blank (by decide +kernel) l.words_ne fun p hp e => (h p hp).2.1 32 e |>.1 rfl
theorem join_len (y : Str) : ∀ ys : List Str, (Txt.join y ys).length ≤ (ys.map (·.length)).sum + ys.length * y.length
  | ys => by
    rw [join_eq, len_tl, tl_join]
    have : ∀ ys : List Str, (joinL (tl y) (ys.map tl)).length ≤ (ys.map (·.length)).sum + ys.length * y.length := by
      intro ys
      induction ys with
      | nil => simp [joinL]
      | cons a r ih =>
        cases r with
        | nil =>
          show (tl a).length ≤ _
          simp [len_tl]
        | cons b r =>
          show (tl a ++ (tl y ++ joinL (tl y) ((b :: r).map tl))).length ≤ _
          rw [List.length_append, List.length_append, ← len_tl, ← len_tl]
          simp only [List.map_cons, List.sum_cons, List.length_cons, Nat.add_mul, Nat.one_mul] at ih ⊢
          omega
    exact this ys
theorem Ln.text_len {l : Ln} (h : l.fine) : l.text.length ≤ 400 := by
  refine Nat.le_trans (join_len " " l.words) ?_
  have h1 := sum_le (ys := l.words) (k := 61) (fun y hy => (h y hy).2.2)
  have h2 := l.words_len
  have h3 : (" " : Str).length = 1 := by decide +kernel
  rw [h3]
  omega
theorem wd_ne {z : Str} (h : isWd z) : z ≠ "" := fun e => h.1 (by rw [e]; decide +kernel)
theorem Ln.no_empty {l : Ln} (h : l.fine) : decide (("" : Str) ∈ l.words) = false := decide_eq_false fun m => wd_ne (h _ m) rfl
theorem Ln.text_ok {l : Ln} (h : l.fine) : okS l.text = true := okS_join (by decide +kernel) fun z hz => okS_iff.mpr fun c hc => ((h z hz).2.1 c hc).2
/-! ### the lines of a web -/
def linesOf (w : Wb) : List Ln := w.ps.map .pt ++ (w.ts.map (fun nt => .tie nt.1 nt.2) ++ [.gv w.g])
def textsOf (w : Wb) : List Str := (linesOf w).map Ln.text
def wb0 : Wb := ⟨[], [], 0⟩
theorem wok0 : Wok wb0 := ⟨by simp [wb0], by simp [wb0], by simp [wb0], by simp [wb0], by simp [wb0], by simp [wb0], by simp [wb0]⟩
/-- lines read, one behind the other -/
inductive Reads : Wb → List Ln → Wb → Prop where
  | pt {w w' : Wb} {x : Str} {r : List Ln} (g : w.g = 0) (hx : x ∉ w.ps) (hn : isNm x = true) (hl : w.ps.length < 16) (h : Reads (w.put x) r w') : Reads w (.pt x :: r) w'
  | tie {w w' : Wb} {n : Int} {u : Ti} {r : List Ln} (c : w.g < n) (m : n ≤ most) (h1 : u.t ∈ w.ps) (h2 : u.h ∈ w.ps) (h3 : u.t ≠ u.h) (c0 : 0 ≤ u.c) (c1 : u.c ≤ most) (hl : w.ts.length < 48)
      (h : Reads ⟨w.ps, w.ts ++ [(n, u)], n⟩ r w') : Reads w (.tie n u :: r) w'
  | gv {w : Wb} {g : Int} (c : w.g ≤ g) (m : g ≤ most) : Reads w [.gv g] { w with g := g }
def Ln.ok (w : Wb) : Ln → Prop
  | .pt x => w.g = 0 ∧ x ∉ w.ps ∧ isNm x = true ∧ w.ps.length < 16
  | .tie n u => w.g < n ∧ n ≤ most ∧ u.t ∈ w.ps ∧ u.h ∈ w.ps ∧ u.t ≠ u.h ∧ 0 ≤ u.c ∧ u.c ≤ most ∧ w.ts.length < 48
  | .gv g => w.g ≤ g ∧ g ≤ most
def Ln.does (w : Wb) : Ln → Wb
  | .pt x => w.put x
  | .tie n u => ⟨w.ps, w.ts ++ [(n, u)], n⟩
  | .gv g => { w with g := g }
def Ln.isGv : Ln → Bool
  | .gv _ => true
  | _ => false
theorem Reads.next {w w' : Wb} {l : Ln} {r : List Ln} (h : Reads w (l :: r) w') : l.ok w ∧ ((l.isGv = true ∧ r = [] ∧ w' = l.does w) ∨ (l.isGv = false ∧ Reads (l.does w) r w')) := by
  cases h with
  | pt g hx hn hl h => exact ⟨⟨g, hx, hn, hl⟩, .inr ⟨rfl, h⟩⟩
  | tie c m h1 h2 h3 c0 c1 hl h => exact ⟨⟨c, m, h1, h2, h3, c0, c1, hl⟩, .inr ⟨rfl, h⟩⟩
  | gv c m => exact ⟨⟨c, m⟩, .inl ⟨rfl, rfl, rfl⟩⟩
theorem Reads.ne {w w' : Wb} (h : Reads w [] w') : False := by cases h
theorem Ln.does_ok {w : Wb} (h : Wok w) {l : Ln} (o : l.ok w) : Wok (l.does w) := by
  cases l with
  | pt x => exact h.put o.2.1 o.2.2.1 o.2.2.2
  | tie n u =>
    obtain ⟨c, m, h1, h2, h3, c0, c1, hl⟩ := o
    have h0 : Wok { w with g := n - 1 } := ⟨h.nd, h.nm, h.le, h.tl, h.rise, fun m t ht => have o := h.ok m t ht; { o with hi := by have := o.hi; show m ≤ n - 1; omega }, by have := h.g0; show 0 ≤ n - 1; omega⟩
    have := h0.tie (t := u) h1 h2 h3 c0 c1 hl
    have e : ({ w with g := n - 1 } : Wb).tie u = ⟨w.ps, w.ts ++ [(n, u)], n⟩ := by
      show (⟨w.ps, w.ts ++ [(n - 1 + 1, u)], n - 1 + 1⟩ : Wb) = _
      rw [Int.sub_add_cancel]
    rw [e] at this
    exact this
  | gv g =>
    have hg := o.1
    exact ⟨h.nd, h.nm, h.le, h.tl, h.rise, fun m t ht => have o := h.ok m t ht; { o with hi := Int.le_trans o.hi hg }, Int.le_trans h.g0 o.1⟩
theorem reads_ties {ps : List Str} {g : Int} (hg : g ≤ most) : ∀ (ts2 ts1 : Ts) (g1 : Int), g1 ≤ g → (∀ x ∈ ts2, g1 < x.1) → Rise ts2 → ts1.length + ts2.length ≤ 48 →
    (∀ n u, (n, u) ∈ ts2 → TieOk ps g n u) → Reads ⟨ps, ts1, g1⟩ (ts2.map (fun nt => .tie nt.1 nt.2) ++ [.gv g]) ⟨ps, ts1 ++ ts2, g⟩
  | [], ts1, g1, h, _, _, _, _ => by
    rw [List.append_nil]
    exact Reads.gv (w := ⟨ps, ts1, g1⟩) h hg
  | (n, u) :: r, ts1, g1, h, hlt, hr, hl, ok => by
    have o := ok n u (List.mem_cons_self ..)
    obtain ⟨r1, r2⟩ := List.pairwise_cons.mp hr
    have hl' : ts1.length + (r.length + 1) ≤ 48 := hl
    refine Reads.tie (hlt _ (List.mem_cons_self ..)) (Int.le_trans o.hi hg) o.t o.h o.ne o.c0 o.c1 (by show ts1.length < 48; omega) ?_
    have := reads_ties hg r (ts1 ++ [(n, u)]) n o.hi (fun x hx => r1 x hx) r2 (by rw [List.length_append, List.length_singleton]; omega) (fun m v hm => ok m v (List.mem_cons_of_mem _ hm))
    rw [List.append_assoc] at this
    exact this
theorem reads_pts {r : List Ln} {w' : Wb} : ∀ (ps2 ps1 : List Str), (ps1 ++ ps2).Nodup → (∀ x ∈ ps2, isNm x = true) → (ps1 ++ ps2).length ≤ 16 → Reads ⟨ps1 ++ ps2, [], 0⟩ r w' → Reads ⟨ps1, [], 0⟩ (ps2.map .pt ++ r) w'
  | [], ps1, _, _, _, h => by
    rw [List.append_nil] at h
    exact h
  | x :: t, ps1, hn, hm, hl, h => by
    have e : ps1 ++ x :: t = (ps1 ++ [x]) ++ t := by simp
    refine Reads.pt rfl (fun hx => ?_) (hm x (List.mem_cons_self ..)) ?_ ?_
    · exact (List.nodup_append.mp hn).2.2 x hx x (List.mem_cons_self ..) rfl
    · rw [List.length_append, List.length_cons] at hl
      show ps1.length < 16
      omega
    · rw [e] at hn hl h
      exact reads_pts t (ps1 ++ [x]) hn (fun y hy => hm y (List.mem_cons_of_mem _ hy)) hl h
theorem reads_web {w : Wb} (h : Wok w) (hg : w.g ≤ most) : Reads wb0 (linesOf w) w := by
  refine reads_pts w.ps [] h.nd h.nm h.le ?_
  have := reads_ties hg w.ts [] 0 h.g0 (fun x hx => by have := (h.ok x.1 x.2 hx).lo; omega) h.rise (by simpa using h.tl) h.ok
  exact this
theorem lines_fine {w : Wb} (h : Wok w) (hg : w.g ≤ most) : ∀ l ∈ linesOf w, l.fine := by
  have hm := most_lt
  have hg0 := h.g0
  intro l hl z hz
  rcases List.mem_append.mp hl with hl | hl
  · obtain ⟨x, hx, rfl⟩ := List.mem_map.mp hl
    simp [Ln.words] at hz
    rcases hz with rfl | rfl
    · exact point_wd
    · exact nm_wd (h.nm _ hx)
  · rcases List.mem_append.mp hl with hl | hl
    · obtain ⟨⟨n, u⟩, hx, rfl⟩ := List.mem_map.mp hl
      have o := h.ok n u hx
      have o1 := o.lo
      have o2 := o.hi
      have o3 := o.c0
      have o4 := o.c1
      simp [Ln.words] at hz
      rcases hz with rfl | rfl | rfl | rfl | rfl
      · exact kind_wd _
      · exact nS_wd (by omega) (by omega)
      · exact nm_wd (h.nm _ o.t)
      · exact nm_wd (h.nm _ o.h)
      · exact nS_wd o3 (by omega)
    · simp at hl
      subst hl
      simp [Ln.words] at hz
      rcases hz with rfl | rfl
      · exact given_wd
      · exact nS_wd (by omega) (by omega)
theorem lines_len {w : Wb} (h : Wok w) : (linesOf w).length ≤ 65 := by
  unfold linesOf
  simp only [List.length_append, List.length_map, List.length_singleton]
  have := h.le
  have := h.tl
  omega
end WB

set_option Elab.async false
set_option linter.all false
set_option maxRecDepth 100000
set_option maxHeartbeats 2000000
namespace K18
open PySem PySem.Spec PyProof.Rows L2 HX WB
/-- the builtin type of a plain value -/
def tyB : V → String
  | .non => "NoneType"
  | .bl _ => "bool"
  | .int _ => "int"
  | .str _ => "str"
  | _ => ""
def isB (x : V) (T : String) : Option Bool := if tyB x = "" then none else kitB (tyB x) T
theorem i_isT {K : PySem.W.Frag} {H : Hp} {x : V} {T : String} {b : Bool} {Q : VK} (e : isB x T = some b) (q : Q (.bl b) H) : rIsi K [x, .ty T] H Q := by
  cases x with
  | non => exact ⟨_, _, _, _, _, rfl, .ty _, .base .non, kit_ty e, q⟩
  | bl c => exact ⟨_, _, _, _, _, rfl, .ty _, .base (.bl _), kit_ty e, q⟩
  | int i => exact ⟨_, _, _, _, _, rfl, .ty _, .base (.int _), kit_ty e, q⟩
  | str z => exact ⟨_, _, _, _, _, rfl, .ty _, .base (.str _), kit_ty e, q⟩
  | _ => cases e
local macro_rules | `(tactic| walk_at "side") => `(tactic| first
  | assumption
  | rfl
  | (show (0 : Int) < _; omega)
  | (unfold CDiv; omega)
  | (unfold CMul; omega)
  | (unfold CPow; omega)
  | (rw [sizeLine_eq]; omega)
  | omega)
local macro_rules | `(tactic| walk_at "e") => `(tactic| first
  | ((with_reducible apply i_var); exact rfl)
  | (with_reducible apply i_c)
  | (with_reducible apply i_op)
  | (with_reducible apply i_un)
  | (with_reducible apply i_rI0)
  | ((with_reducible apply i_rI); (case c => walk_at "side"))
  | (with_reducible apply i_rGe)
  | (with_reducible apply i_rGt)
  | (with_reducible apply i_rU)
  | (with_reducible apply i_rEqI)
  | (with_reducible apply i_rNeI)
  | (with_reducible apply i_rEqS)
  | (with_reducible apply i_rNeS)
  | (with_reducible apply i_rEqB)
  | (with_reducible apply i_rNeB)
  | (with_reducible apply i_rIsN)
  | (with_reducible apply i_rNotN)
  | (with_reducible apply i_rInS)
  | (with_reducible apply i_rNotInS)
  | ((with_reducible apply i_catS); (case c => walk_at "side"))
  | (with_reducible apply i_tcb)
  | (with_reducible apply i_nil)
  | (with_reducible apply i_cons)
  | ((with_reducible apply i_lenS); (case c => walk_at "side"))
  | ((with_reducible apply i_lenL); assumption)
  | (with_reducible apply i_abs)
  | (with_reducible apply i_max2)
  | (with_reducible apply i_min2)
  | ((with_reducible apply i_strI); (case c => walk_at "side"))
  | (with_reducible apply i_intB)
  | (with_reducible apply i_test)
  | (with_reducible apply i_tB)
  | (with_reducible apply i_kB)
  | (with_reducible apply i_and)
  | (with_reducible apply i_or)
  | (with_reducible apply i_not)
  | (with_reducible apply i_if)
  | (with_reducible apply i_andV)
  | (with_reducible apply i_orV)
  | (with_reducible apply i_notV)
  | (with_reducible apply i_kAndV)
  | (with_reducible apply i_kOrV)
  | (with_reducible apply i_kNotV)
  | (with_reducible apply i_chain)
  | (with_reducible apply i_kChain)
  | (with_reducible apply i_drop)
  | (with_reducible apply i_ret)
  | (with_reducible apply i_retN)
  | (with_reducible apply i_ifS)
  | (with_reducible apply i_asg)
  | (with_reducible apply i_gName)
  | (with_reducible apply i_for)
  | (with_reducible apply i_lc)
  | (with_reducible apply i_iList)
  | (with_reducible apply i_iTup)
  | (with_reducible apply i_iStr)
  | (with_reducible apply i_kStrI)
  | (with_reducible apply i_lst)
  | (with_reducible apply i_tup)
  | (with_reducible apply i_call)
  | (with_reducible apply i_m1)
  | (with_reducible apply i_kStr)
  | (with_reducible apply i_bm)
  | (with_reducible apply i_bm0)
  | (with_reducible apply i_part)
  | (with_reducible apply i_kInt)
  | (with_reducible apply i_noPart)
  | (with_reducible apply i_sl)
  | (with_reducible apply i_range1)
  | (with_reducible apply i_range2)
  | ((with_reducible apply i_kRng1); (case c => walk_at "side"))
  | ((with_reducible apply i_kRng2); (case c => walk_at "side"))
  | (with_reducible apply i_gCons)
  | (with_reducible apply i_gNil)
  | (with_reducible apply i_gSub)
  | (with_reducible apply i_iZip)
  | (with_reducible apply i_yes)
  | (with_reducible apply i_ift)
  | (with_reducible apply i_iff)
  | (with_reducible apply i_nb))
local macro_rules | `(tactic| walk_at "go") => `(tactic| repeat (first | (with_reducible apply i_seq) | (with_reducible apply i_next) | walk_at "e"))
local macro_rules | `(tactic| walk_at "ge") => `(tactic| repeat walk_at "e")
local macro_rules | `(tactic| walk_at "sz") => `(tactic| first | decide | (rw [sizeLine_eq]; simp; done) | (rw [sizeLine_eq]; omega))
local macro_rules | `(tactic| walk_at "side") => `(tactic| (with_reducible exact WB.most_pos))
local macro_rules | `(tactic| walk_at "e") => `(tactic| first
  | ((with_reducible apply i_isT (b := true)); exact rfl)
  | ((with_reducible apply i_isT (b := false)); exact rfl)
  | (with_reducible apply i_fld)
  | ((with_reducible apply i_kFld); (case h => assumption); (case c1 => assumption); (case c2 => assumption); (case e => first | exact lk_number | exact lk_tail | exact lk_head | exact lk_load | exact lk_oneway | exact lk_points | exact lk_ties | exact lk_given))
  | (with_reducible apply i_sfld)
  | ((with_reducible apply i_kSFld); (case h => first | assumption | exact upd_same); (case c1 => assumption); (case c2 => assumption); (case e => exact Nat.le_of_ble_eq_true rfl))
  | (with_reducible apply i_methC)
  | (with_reducible apply i_make)
  | (with_reducible apply i_fldaug)
  | (with_reducible apply i_vals)
  | (with_reducible apply i_items)
  | (with_reducible apply i_dget)
  | (with_reducible apply i_dput)
  | (with_reducible apply i_din)
  | (with_reducible apply i_dnotin)
  | (with_reducible apply i_ddel)
  | (with_reducible apply i_dc)
  | (with_reducible apply i_enum))
section
variable {P : Program} {w : World} {K : PySem.W.Frag} {mg : Str → Option Value} {base : Heap}
def sp_has_only : Sp := fun vs H Q _ => ∃ z s, vs = [.str z, .str s] ∧ Q (.bl (only z s)) H
theorem ok_has_only (T : Tx K mg) : FnOk P w K mg base CX0 1 (He.ga K "_has_only") T.fd_has_only ["text", "signs"] sp_has_only := by
  refine T.F_has_only.ok sc_has_only (fun vs H Q E h => ?_) (fun cdv A outer s H vs Q E hr h => ?_)
  · obtain ⟨z, t, rfl, _⟩ := h
    rfl
  · obtain ⟨z, t, rfl, q⟩ := h
    refine ⟨_, PSs.nox (pss_cons (ps_for PassesOwn.never rfl (pi_str (pv 0)) (pg_name (i := 2) sc_has_only.nd rfl (Or.inl rfl))
      (pss_one (ps_if (pt_cmpR op_notInS (pv 2) (pv 1) rfl) (pss_one (ps_ret pe_bl)) pss_nil)))
      (pss_one (ps_ret pe_bl))), ?_⟩
    walk_at "go"
    refine for_it walk_str (fun i σ H' => H' = H ∧ (∀ c ∈ z.cps.toList.take i, c ∈ t.cps.toList) ∧ ∃ v, σ = [some (.str z), some (.str t), v]) ⟨rfl, by simp, none, rfl⟩ (fun _ _ _ _ _ => trivial) ?_ ?_
    · rintro i x σ H1 H2 hi ⟨rfl, ho, v, rfl⟩ ⟨rfl, c, hc, rfl⟩
      have hc' : z.cps.toList[i]? = some c := by simpa using hc
      walk_at "go"
      apply i_dec
      · intro hm
        walk_at "go"
        refine ⟨rfl, ?_, _, rfl⟩
        intro d hd
        rw [List.take_add_one, hc'] at hd
        rcases List.mem_append.mp hd with hd | hd
        · exact ho d hd
        · have : d = c := by simpa using hd
          rw [this]; exact hm
      · intro hn
        walk_at "go"
        have e : only z t = false := by
          unfold only
          rw [List.all_eq_false]
          exact ⟨c, List.mem_of_getElem? hc', by simpa using hn⟩
        rw [← e]
        exact q
    · rintro σ H1 ⟨rfl, ho, v, rfl⟩
      walk_at "go"
      have e : only z t = true := by
        unfold only
        rw [List.all_eq_true]
        intro c hc
        refine decide_eq_true (ho c ?_)
        rw [List.take_of_length_le (by simp)]
        exact hc
      rw [← e]
      exact q
/-- of whole numbers -/
def sp_is_whole : Sp := fun vs H Q _ => ∃ i : Int, vs = [.int i] ∧ Q (.bl true) H
theorem ok_is_whole (T : Tx K mg) : FnOk P w K mg base CX0 1 (He.ga K "is_whole") T.fd_is_whole ["thing"] sp_is_whole := by
  refine T.F_is_whole.ok sc_is_whole (fun vs H Q E h => ?_) (fun cdv A outer s H vs Q E hr h => ?_)
  · obtain ⟨x, rfl, _⟩ := h
    rfl
  · obtain ⟨x, rfl, q⟩ := h
    refine ⟨_, PSs.nox (pss_one (ps_ret (pe_and (pe_callB call_isi (by rfl) T.b_isinstance (by decide +kernel) (pa_cons (pv 0) (pa_cons (pe_bltn (v := .ty "int") rfl T.b_int (by decide +kernel) rfl) pa_nil))) (pe_one (pe_not (pe_callB call_isi (by rfl) T.b_isinstance (by decide +kernel) (pa_cons (pv 0) (pa_cons (pe_bltn (v := .ty "bool") rfl T.b_bool (by decide +kernel) rfl) pa_nil)))))))), ?_⟩
    walk_at "go"
    exact q
def sp_is_among : Sp := fun vs H Q _ => ∃ i a b : Int, vs = [.int i, .int a, .int b] ∧ Q (.bl (decide (a ≤ i) && decide (i ≤ b))) H
theorem ok_is_among (T : Tx K mg) : FnOk P w K mg base CX0 2 (He.ga K "is_among") T.fd_is_among ["thing", "least", "most"] sp_is_among := by
  refine T.F_is_among.ok sc_is_among (fun vs H Q E h => ?_) (fun cdv A outer s H vs Q E hr h => ?_)
  · obtain ⟨x, a, b, rfl, _⟩ := h
    rfl
  · obtain ⟨i, a, b, rfl, q⟩ := h
    refine ⟨_, PSs.nox (pss_one (ps_ret (pe_and (pe_call (ok_is_whole T) (hr.mono (by decide)) (by rfl) T.g_is_whole T.F_is_whole.kp T.k_is_whole .nil pass0 (pa_cons (pv 0) pa_nil)) (pe_one (pe_chain op_le op_le (pv 1) (pv 0) (pv 2)))))), ?_⟩
    walk_at "go"
    refine ⟨i, rfl, ?_⟩
    walk_at "go"
    apply i_dec
    · intro h1
      walk_at "go"
      rw [decide_eq_true h1, Bool.true_and] at q
      exact q
    · intro h1
      walk_at "go"
      rw [decide_eq_false h1, Bool.false_and] at q
      exact q
theorem letters_list : ("abcdefghijklmnopqrstuvwxyz" : Str).cps.toList = List.range' 97 26 := by decide +kernel
theorem isNm_of {z : Str} : isNm z = (decide (1 ≤ z.length) && (decide (z.length ≤ 12) && only z "abcdefghijklmnopqrstuvwxyz")) := by
  unfold isNm only
  rw [Bool.and_assoc, letters_list]
  congr 3
  funext c
  rw [← Bool.decide_and]
  refine decide_eq_decide.mpr ?_
  rw [List.mem_range'_1]
  omega
/-- of short texts -/
def sp_is_name : Sp := fun vs H Q _ => ∃ z : Str, vs = [.str z] ∧ z.length ≤ 1000 ∧ Q (.bl (isNm z)) H
theorem ok_is_name (T : Tx K mg) : FnOk P w K mg base CX0 2 (He.ga K "is_name") T.fd_is_name ["thing"] sp_is_name := by
  refine T.F_is_name.ok sc_is_name (fun vs H Q E h => ?_) (fun cdv A outer s H vs Q E hr h => ?_)
  · obtain ⟨x, rfl, _⟩ := h
    rfl
  · obtain ⟨z, rfl, hz, q⟩ := h
    refine ⟨_, PSs.nox (pss_cons (ps_if (pt_not (pt_val (pe_callB call_isi (by rfl) T.b_isinstance (by decide +kernel) (pa_cons (pv 0) (pa_cons (pe_bltn (v := .ty "str") rfl T.b_str (by decide +kernel) rfl) pa_nil))))) (pss_one (ps_ret pe_bl)) pss_nil)
      (pss_one (ps_ret (pe_and (pe_chain op_le op_le pe_int (pe_callB x_lenS (by rfl) T.b_len (by decide +kernel) (pa_cons (pv 0) pa_nil)) (pe_glob (v := .int 12) rfl (T.c_MOST_LETTERS).choose_spec ⟨_, rfl⟩)) (pe_one (pe_call (ok_has_only T) (hr.mono (by decide)) (by rfl) T.g_has_only T.F_has_only.kp T.k_has_only .nil pass0 (pa_cons (pv 0) (pa_cons (pe_glob (v := .str "abcdefghijklmnopqrstuvwxyz") rfl (T.c_LETTERS).choose_spec ⟨_, rfl⟩) pa_nil)))))))), ?_⟩
    rw [isNm_of] at q
    walk_at "go"
    apply i_dec
    · intro h1
      have h1' : 1 ≤ z.length := by omega
      rw [decide_eq_true h1', Bool.true_and] at q
      walk_at "go"
      apply i_dec
      · intro h2
        have h2' : z.length ≤ 12 := by omega
        rw [decide_eq_true h2', Bool.true_and] at q
        walk_at "go"
        exact ⟨z, _, rfl, q⟩
      · intro h2
        have h2' : ¬ z.length ≤ 12 := by omega
        rw [decide_eq_false h2', Bool.false_and] at q
        walk_at "go"
        exact q
    · intro h1
      have h1' : ¬ 1 ≤ z.length := by omega
      rw [decide_eq_false h1', Bool.false_and] at q
      walk_at "go"
      exact q
/-- of good loads -/
def sp_need_load : Sp := fun vs H Q _ => ∃ c : Int, vs = [.int c] ∧ 0 ≤ c ∧ c ≤ most ∧ Q .non H
theorem ok_need_load (T : Tx K mg) : FnOk P w K mg base CX0 3 (He.ga K "_need_load") T.fd_need_load ["load"] sp_need_load := by
  refine T.F_need_load.ok sc_need_load (fun vs H Q E h => ?_) (fun cdv A outer s H vs Q E hr h => ?_)
  · obtain ⟨x, rfl, _⟩ := h
    rfl
  · obtain ⟨c, rfl, c0, c1, q⟩ := h
    refine ⟨_, PSs.nox (pss_one (ps_if (pt_not (pt_val (pe_call (ok_is_among T) (hr.mono (by decide)) (by rfl) T.g_is_among T.F_is_among.kp T.k_is_among .nil pass0 (pa_cons (pv 0) (pa_cons pe_int (pa_cons (pe_glob (v := .int 1000000000000000000000000000000000000000000000000000000000000) rfl (T.c_MOST).choose_spec ⟨_, rfl⟩) pa_nil)))))) (pss_one ps_never) pss_nil)), ?_⟩
    walk_at "go"
    refine ⟨c, 0, most, rfl, ?_⟩
    rw [decide_eq_true c0, decide_eq_true c1]
    walk_at "go"
    exact q
def sp_Tie (K : PySem.W.Frag) : Sp := fun vs H Q _ => ∃ (x dx : Addr) (n : Int) (t : Ti), vs = [.ref x, .int n, .str t.t, .str t.h, .int t.c, .bl t.o] ∧ H x = some (.ins (He.ga K "Tie") dx []) ∧ Q .non (upd H x (.ins (He.ga K "Tie") dx (tieFs n t)))
theorem ok_Tie_init (T : Tx K mg) : FnOk P w K mg base CX0 1 (He.ma K (He.ga K "Tie") "__init__") T.fd_Tie_init ["self", "number", "tail", "head", "load", "is_oneway"] (sp_Tie K) := by
  refine T.F_Tie_init.ok sc_Tie_init (fun vs H Q E h => ?_) (fun cdv A outer s H vs Q E hr h => ?_)
  · obtain ⟨x, dx, n, t, rfl, _⟩ := h
    rfl
  · obtain ⟨x, dx, n, t, rfl, hx, q⟩ := h
    refine ⟨_, PSs.nox (pss_cons (ps_fld (pv 0) (pv 1) rfl)
      (pss_cons (ps_fld (pv 0) (pv 2) rfl)
      (pss_cons (ps_fld (pv 0) (pv 3) rfl)
      (pss_cons (ps_fld (pv 0) (pv 4) rfl)
      (pss_one (ps_fld (pv 0) (pv 5) rfl)))))), ?_⟩
    have c1 := T.cl_Tie
    have c2 := T.na_Tie_number
    have c3 := T.na_Tie_tail
    have c4 := T.na_Tie_head
    have c5 := T.na_Tie_load
    have c6 := T.na_Tie_is_oneway
    walk_at "go"
    simp only [upd_upd]
    exact q
/-- a new tie -/
def newTie (K : PySem.W.Frag) (H : Hp) (n : Int) (t : Ti) (Q : VK) : Prop := ∀ a H', Same H H' → H a = none → TieAt K H' n t a → (∀ b, b ≠ a → (∀ dx, H b = none → H' b = none ∨ b = dx) → True) → Q (.ref a) H'
def sp_between (K : PySem.W.Frag) : Sp := fun vs H Q _ => ∃ (a : Addr) (n : Int) (t : Ti) (x y : Str), vs = [.ref a, .str x, .str y] ∧ TieAt K H n t a ∧ ∀ b H', Same H H' → TieAt K H' n { t with t := x, h := y } b → H b = none → Q (.ref b) H'
theorem ok_between (T : Tx K mg) : FnOk P w K mg base CX0 3 (He.ga K "_between") T.fd_between ["tie", "tail", "head"] (sp_between K) := by
  refine T.F_between.ok sc_between (fun vs H Q E h => ?_) (fun cdv A outer s H vs Q E hr h => ?_)
  · obtain ⟨a, n, t, x, y, rfl, _⟩ := h
    rfl
  · obtain ⟨a, n, t, x, y, rfl, ⟨dx, ha⟩, q⟩ := h
    refine ⟨_, PSs.nox (pss_one (ps_ret (pe_make T.mk_Tie (ok_Tie_init T) (hr.mono (by decide)) (by rfl) T.g_Tie T.k_Tie_init .nil pass0 (pa_cons (pe_fld (pv 0) rfl) (pa_cons (pv 1) (pa_cons (pv 2) (pa_cons (pe_fld (pv 0) rfl) (pa_cons (pe_fld (pv 0) rfl) pa_nil)))))))), ?_⟩
    have c1 := T.cl_Tie
    have c2 := T.na_Tie_number
    have c5 := T.na_Tie_load
    have c6 := T.na_Tie_is_oneway
    walk_at "go"
    intro b dy hb hd hne
    refine ⟨b, dy, n, { t with t := x, h := y }, rfl, upd_same, rfl, ?_⟩
    rw [upd_upd]
    have s1 : Same H (upd H dy (.own b)) := Same.new hd
    have hb' : (upd H dy (.own b)) b = none := (upd_ne (fun e => hne e.symm)).trans hb
    exact q b _ (Same.mut s1 hb) ⟨dy, upd_same⟩ hb
def sp_turned (K : PySem.W.Frag) : Sp := fun vs H Q _ => ∃ (a : Addr) (n : Int) (t : Ti) (x y : Str), vs = [.ref a, .str x, .str y] ∧ TieAt K H n t a ∧ ∀ b H', Same H H' → TieAt K H' n (turn x y t) b → H b = none → Q (.ref b) H'
theorem ok_turned (T : Tx K mg) : FnOk P w K mg base CX0 4 (He.ga K "_turned") T.fd_turned ["tie", "name", "other"] (sp_turned K) := by
  refine T.F_turned.ok sc_turned (fun vs H Q E h => ?_) (fun cdv A outer s H vs Q E hr h => ?_)
  · obtain ⟨a, n, t, x, y, rfl, _⟩ := h
    rfl
  · obtain ⟨a, n, t, x, y, rfl, ⟨dx, ha⟩, q⟩ := h
    refine ⟨_, PSs.nox (pss_cons (ps_set (i := 3) sc_turned.nd rfl (Or.inl rfl) (pe_ifExp (pt_cmpR op_eq (pe_fld (pv 0) rfl) (pv 1) (nomark _)) (pv 2) (pe_fld (pv 0) rfl)))
      (pss_cons (ps_set (i := 4) sc_turned.nd rfl (Or.inl rfl) (pe_ifExp (pt_cmpR op_eq (pe_fld (pv 0) rfl) (pv 1) (nomark _)) (pv 2) (pe_fld (pv 0) rfl)))
      (pss_one (ps_ret (pe_call (ok_between T) (hr.mono (by decide)) (by rfl) T.g_between T.F_between.kp T.k_between .nil pass0 (pa_cons (pv 0) (pa_cons (pv 3) (pa_cons (pv 4) pa_nil)))))))), ?_⟩
    have c1 := T.cl_Tie
    have c2 := T.na_Tie_tail
    have c3 := T.na_Tie_head
    walk_at "go"
    refine i_dec (fun e1 => ?_) (fun e1 => ?_)
    · walk_at "go"
      refine i_dec (fun e2 => ?_) (fun e2 => ?_)
      · walk_at "go"
        refine ⟨a, n, t, y, y, rfl, ⟨dx, ha⟩, fun b H' s tb hb => q b H' s ?_ hb⟩
        have e : turn x y t = { t with t := y, h := y } := by simp [turn, e1, e2]
        rw [e]; exact tb
      · walk_at "go"
        refine ⟨a, n, t, y, t.h, rfl, ⟨dx, ha⟩, fun b H' s tb hb => q b H' s ?_ hb⟩
        have e : turn x y t = { t with t := y, h := t.h } := by simp [turn, e1, e2]
        rw [e]; exact tb
    · walk_at "go"
      refine i_dec (fun e2 => ?_) (fun e2 => ?_)
      · walk_at "go"
        refine ⟨a, n, t, t.t, y, rfl, ⟨dx, ha⟩, fun b H' s tb hb => q b H' s ?_ hb⟩
        have e : turn x y t = { t with t := t.t, h := y } := by simp [turn, e1, e2]
        rw [e]; exact tb
      · walk_at "go"
        refine ⟨a, n, t, t.t, t.h, rfl, ⟨dx, ha⟩, fun b H' s tb hb => q b H' s ?_ hb⟩
        have e : turn x y t = { t with t := t.t, h := t.h } := by simp [turn, e1, e2]
        rw [e]; exact tb
end
end K18

set_option Elab.async false
set_option linter.all false
set_option maxRecDepth 100000
set_option maxHeartbeats 2000000
namespace K18
open PySem PySem.Spec PyProof.Rows L2 HX WB
local macro_rules | `(tactic| walk_at "side") => `(tactic| first
  | assumption
  | rfl
  | (show (0 : Int) < _; omega)
  | (unfold CDiv; omega)
  | (unfold CMul; omega)
  | (unfold CPow; omega)
  | (rw [sizeLine_eq]; omega)
  | omega)
local macro_rules | `(tactic| walk_at "e") => `(tactic| first
  | ((with_reducible apply i_var); exact rfl)
  | (with_reducible apply i_c)
  | (with_reducible apply i_op)
  | (with_reducible apply i_un)
  | (with_reducible apply i_rI0)
  | ((with_reducible apply i_rI); (case c => walk_at "side"))
  | (with_reducible apply i_rGe)
  | (with_reducible apply i_rGt)
  | (with_reducible apply i_rU)
  | (with_reducible apply i_rEqI)
  | (with_reducible apply i_rNeI)
  | (with_reducible apply i_rEqS)
  | (with_reducible apply i_rNeS)
  | (with_reducible apply i_rEqB)
  | (with_reducible apply i_rNeB)
  | (with_reducible apply i_rIsN)
  | (with_reducible apply i_rNotN)
  | (with_reducible apply i_rInS)
  | (with_reducible apply i_rNotInS)
  | ((with_reducible apply i_catS); (case c => walk_at "side"))
  | (with_reducible apply i_tcb)
  | (with_reducible apply i_nil)
  | (with_reducible apply i_cons)
  | ((with_reducible apply i_lenS); (case c => walk_at "side"))
  | ((with_reducible apply i_lenL); assumption)
  | (with_reducible apply i_abs)
  | (with_reducible apply i_max2)
  | (with_reducible apply i_min2)
  | ((with_reducible apply i_strI); (case c => walk_at "side"))
  | (with_reducible apply i_intB)
  | (with_reducible apply i_test)
  | (with_reducible apply i_tB)
  | (with_reducible apply i_kB)
  | (with_reducible apply i_and)
  | (with_reducible apply i_or)
  | (with_reducible apply i_not)
  | (with_reducible apply i_if)
  | (with_reducible apply i_andV)
  | (with_reducible apply i_orV)
  | (with_reducible apply i_notV)
  | (with_reducible apply i_kAndV)
  | (with_reducible apply i_kOrV)
  | (with_reducible apply i_kNotV)
  | (with_reducible apply i_chain)
  | (with_reducible apply i_kChain)
  | (with_reducible apply i_drop)
  | (with_reducible apply i_ret)
  | (with_reducible apply i_retN)
  | (with_reducible apply i_ifS)
  | (with_reducible apply i_asg)
  | (with_reducible apply i_gName)
  | (with_reducible apply i_for)
  | (with_reducible apply i_lc)
  | (with_reducible apply i_iList)
  | (with_reducible apply i_iTup)
  | (with_reducible apply i_iStr)
  | (with_reducible apply i_kStrI)
  | (with_reducible apply i_lst)
  | (with_reducible apply i_tup)
  | (with_reducible apply i_call)
  | (with_reducible apply i_m1)
  | (with_reducible apply i_kStr)
  | (with_reducible apply i_bm)
  | (with_reducible apply i_bm0)
  | (with_reducible apply i_part)
  | (with_reducible apply i_kInt)
  | (with_reducible apply i_noPart)
  | (with_reducible apply i_sl)
  | (with_reducible apply i_range1)
  | (with_reducible apply i_range2)
  | ((with_reducible apply i_kRng1); (case c => walk_at "side"))
  | ((with_reducible apply i_kRng2); (case c => walk_at "side"))
  | (with_reducible apply i_gCons)
  | (with_reducible apply i_gNil)
  | (with_reducible apply i_gSub)
  | (with_reducible apply i_iZip)
  | (with_reducible apply i_yes)
  | (with_reducible apply i_ift)
  | (with_reducible apply i_iff)
  | (with_reducible apply i_nb))
local macro_rules | `(tactic| walk_at "go") => `(tactic| repeat (first | (with_reducible apply i_seq) | (with_reducible apply i_next) | walk_at "e"))
local macro_rules | `(tactic| walk_at "ge") => `(tactic| repeat walk_at "e")
local macro_rules | `(tactic| walk_at "sz") => `(tactic| first | decide | (rw [sizeLine_eq]; simp; done) | (rw [sizeLine_eq]; omega))
local macro_rules | `(tactic| walk_at "side") => `(tactic| (with_reducible exact WB.most_pos))
local macro_rules | `(tactic| walk_at "e") => `(tactic| first
  | ((with_reducible apply i_isT (b := true)); exact rfl)
  | ((with_reducible apply i_isT (b := false)); exact rfl)
  | (with_reducible apply i_fld)
  | ((with_reducible apply i_kFld); (case h => assumption); (case c1 => assumption); (case c2 => assumption); (case e => first | exact lk_number | exact lk_tail | exact lk_head | exact lk_load | exact lk_oneway | exact lk_points | exact lk_ties | exact lk_given))
  | (with_reducible apply i_sfld)
  | ((with_reducible apply i_kSFld); (case h => first | assumption | exact upd_same); (case c1 => assumption); (case c2 => assumption); (case e => exact Nat.le_of_ble_eq_true rfl))
  | (with_reducible apply i_methC)
  | (with_reducible apply i_make)
  | (with_reducible apply i_fldaug)
  | (with_reducible apply i_vals)
  | (with_reducible apply i_items)
  | (with_reducible apply i_dget)
  | (with_reducible apply i_dput)
  | (with_reducible apply i_din)
  | (with_reducible apply i_dnotin)
  | (with_reducible apply i_ddel)
  | (with_reducible apply i_dc)
  | (with_reducible apply i_enum))
section
variable {P : Program} {w : World} {K : PySem.W.Frag} {mg : Str → Option Value} {base : Heap}
def sp_Web_init (K : PySem.W.Frag) : Sp := fun vs H Q _ => ∃ (x dx : Addr), vs = [.ref x] ∧ H x = some (.ins (He.ga K "Web") dx []) ∧ ∀ l d, H l = none → H d = none → l ≠ d → Q .non (upd (upd (upd H l (.lst [])) d (.dK [])) x (.ins (He.ga K "Web") dx (webFs l d 0)))
theorem ok_Web_init (T : Tx K mg) : FnOk P w K mg base CX0 1 (He.ma K (He.ga K "Web") "__init__") T.fd_Web_init ["self"] (sp_Web_init K) := by
  refine T.F_Web_init.ok sc_Web_init (fun vs H Q E h => ?_) (fun cdv A outer s H vs Q E hr h => ?_)
  · obtain ⟨x, dx, rfl, _⟩ := h
    rfl
  · obtain ⟨x, dx, rfl, hx, q⟩ := h
    refine ⟨_, PSs.nox (pss_cons (ps_fld (pv 0) (pe_lst pa_nil) rfl)
      (pss_cons (ps_fld (pv 0) pe_dnewK rfl)
      (pss_one (ps_fld (pv 0) pe_int rfl)))), ?_⟩
    have c1 := T.cl_Web
    have c2 := T.na_Web_points
    have c3 := T.na_Web_ties
    have c4 := T.na_Web_given
    walk_at "go"
    refine ⟨by walk_at "sz", fun l hl => ?_⟩
    walk_at "go"
    refine i_kSFld ((upd_ne (ne_of_none hx hl)).trans hx) c1 c2 (Nat.le_of_ble_eq_true rfl) ?_
    intro d hd
    have nl : l ≠ x := fun e => by rw [e] at hl; rw [hl] at hx; cases hx
    have hd1 : (upd H l (.lst [])) d = none := by
      by_cases e : d = x
      · subst e; rw [upd_same] at hd; cases hd
      · rwa [upd_ne e] at hd
    have nd : d ≠ l := fun e => by rw [e, upd_same] at hd1; cases hd1
    have hd2 : H d = none := by rwa [upd_ne nd] at hd1
    have nx : d ≠ x := fun e => by rw [e] at hd2; rw [hd2] at hx; cases hx
    walk_at "go"
    refine i_kSFld ((upd_ne nx.symm).trans upd_same) c1 c3 (Nat.le_of_ble_eq_true rfl) ?_
    walk_at "go"
    have e : upd (upd (upd (upd (upd H l (.lst [])) x (.ins (He.ga K "Web") dx (putF "_points" (.ref l) []))) d (.dK [])) x (.ins (He.ga K "Web") dx (putF "_ties" (.ref d) (putF "_points" (.ref l) [])))) x (.ins (He.ga K "Web") dx (putF "_given" (.int 0) (putF "_ties" (.ref d) (putF "_points" (.ref l) [])))) = upd (upd (upd H l (.lst [])) d (.dK [])) x (.ins (He.ga K "Web") dx (webFs l d 0)) := by
      rw [upd_upd]
      funext b
      by_cases hb : b = x
      · subst hb; rw [upd_same, upd_same]; rfl
      · rw [upd_ne hb, upd_ne hb]
        by_cases hb2 : b = d
        · subst hb2; rw [upd_same, upd_same]
        · rw [upd_ne hb2, upd_ne hb2, upd_ne hb]
    rw [e]
    exact q l d hl hd2 nd.symm
def sp_Web_points (K : PySem.W.Frag) : Sp := fun vs H Q _ => ∃ p l d w, vs = [.ref p] ∧ WebAt K H p l d w ∧ ∀ a, H a = none → Q (.ref a) (upd H a (.lst (w.ps.map V.str)))
theorem ok_Web_points (T : Tx K mg) : FnOk P w K mg base CX0 1 (He.ma K (He.ga K "Web") "points") T.fd_Web_points ["self"] (sp_Web_points K) := by
  refine T.F_Web_points.ok sc_Web_points (fun vs H Q E h => ?_) (fun cdv A outer s H vs Q E hr h => ?_)
  · obtain ⟨_, _, _, _, rfl, _⟩ := h
    rfl
  · obtain ⟨p, l, d, w, rfl, hw, q⟩ := h
    obtain ⟨dx, ep⟩ := hw.self
    refine ⟨_, PSs.nox (pss_one (ps_ret (pe_callTy x_list (by rfl) T.b_list (by decide +kernel) (pa_cons (pe_fld (pv 0) rfl) pa_nil)))), ?_⟩
    have c1 := T.cl_Web
    have c2 := T.na_Web_points
    walk_at "go"
    exact ⟨l, _, rfl, .inl (SqL.of hw.pts), q⟩
def sp_Web_given (K : PySem.W.Frag) : Sp := fun vs H Q _ => ∃ p l d w, vs = [.ref p] ∧ WebAt K H p l d w ∧ Q (.int w.g) H
theorem ok_Web_given (T : Tx K mg) : FnOk P w K mg base CX0 1 (He.ma K (He.ga K "Web") "given") T.fd_Web_given ["self"] (sp_Web_given K) := by
  refine T.F_Web_given.ok sc_Web_given (fun vs H Q E h => ?_) (fun cdv A outer s H vs Q E hr h => ?_)
  · obtain ⟨_, _, _, _, rfl, _⟩ := h
    rfl
  · obtain ⟨p, l, d, w, rfl, hw, q⟩ := h
    obtain ⟨dx, ep⟩ := hw.self
    refine ⟨_, PSs.nox (pss_one (ps_ret (pe_fld (pv 0) rfl))), ?_⟩
    have c1 := T.cl_Web
    have c2 := T.na_Web_given
    walk_at "go"
    exact q
def sp_need_point (K : PySem.W.Frag) : Sp := fun vs H Q _ => ∃ p l d w x, vs = [.ref p, .str x] ∧ WebAt K H p l d w ∧ x ∈ w.ps ∧ isNm x = true ∧ Q .non H
theorem ok_Web_need_point (T : Tx K mg) : FnOk P w K mg base CX0 3 (He.ma K (He.ga K "Web") "_need_point") T.fd_Web_need_point ["self", "name"] (sp_need_point K) := by
  refine T.F_Web_need_point.ok sc_Web_need_point (fun vs H Q E h => ?_) (fun cdv A outer s H vs Q E hr h => ?_)
  · obtain ⟨_, _, _, _, _, rfl, _⟩ := h
    rfl
  · obtain ⟨p, l, d, w, x, rfl, hw, hx, hn, q⟩ := h
    obtain ⟨dx, ep⟩ := hw.self
    refine ⟨_, PSs.nox (pss_one (ps_if (PW.pt (pw_or (pt_not (pt_val (pe_call (ok_is_name T) (hr.mono (by decide)) (by rfl) T.g_is_name T.F_is_name.kp T.k_is_name .nil pass0 (pa_cons (pv 1) pa_nil)))) (pw_or1 (pt_cmpR op_notIn_seq (pv 1) (pe_fld (pv 0) rfl) (by rfl))))) (pss_one ps_never) pss_nil)), ?_⟩
    have c1 := T.cl_Web
    have c2 := T.na_Web_points
    walk_at "go"
    refine ⟨x, rfl, by have := nm_len hn; omega, ?_⟩
    rw [hn]
    walk_at "go"
    refine i_inS (SqL.of hw.pts) ?_
    rw [decide_eq_true hx]
    walk_at "go"
    exact q
def sp_need_new_name (K : PySem.W.Frag) : Sp := fun vs H Q _ => ∃ p l d w x, vs = [.ref p, .str x] ∧ WebAt K H p l d w ∧ x ∉ w.ps ∧ isNm x = true ∧ Q .non H
theorem ok_Web_need_new_name (T : Tx K mg) : FnOk P w K mg base CX0 3 (He.ma K (He.ga K "Web") "_need_new_name") T.fd_Web_need_new_name ["self", "name"] (sp_need_new_name K) := by
  refine T.F_Web_need_new_name.ok sc_Web_need_new_name (fun vs H Q E h => ?_) (fun cdv A outer s H vs Q E hr h => ?_)
  · obtain ⟨_, _, _, _, _, rfl, _⟩ := h
    rfl
  · obtain ⟨p, l, d, w, x, rfl, hw, hx, hn, q⟩ := h
    obtain ⟨dx, ep⟩ := hw.self
    refine ⟨_, PSs.nox (pss_cons (ps_if (pt_not (pt_val (pe_call (ok_is_name T) (hr.mono (by decide)) (by rfl) T.g_is_name T.F_is_name.kp T.k_is_name .nil pass0 (pa_cons (pv 1) pa_nil)))) (pss_one ps_never) pss_nil)
      (pss_one (ps_if (pt_cmpR op_in_seq (pv 1) (pe_fld (pv 0) rfl) (by rfl)) (pss_one ps_never) pss_nil))), ?_⟩
    have c1 := T.cl_Web
    have c2 := T.na_Web_points
    walk_at "go"
    refine ⟨x, rfl, by have := nm_len hn; omega, ?_⟩
    rw [hn]
    walk_at "go"
    refine i_inS (SqL.of hw.pts) ?_
    rw [decide_eq_false hx]
    walk_at "go"
    exact q
def sp_need_new_point (K : PySem.W.Frag) : Sp := fun vs H Q _ => ∃ p l d w x, vs = [.ref p, .str x] ∧ WebAt K H p l d w ∧ x ∉ w.ps ∧ isNm x = true ∧ w.ps.length < 16 ∧ Q .non H
theorem ok_Web_need_new_point (T : Tx K mg) : FnOk P w K mg base CX0 4 (He.ma K (He.ga K "Web") "_need_new_point") T.fd_Web_need_new_point ["self", "name"] (sp_need_new_point K) := by
  refine T.F_Web_need_new_point.ok sc_Web_need_new_point (fun vs H Q E h => ?_) (fun cdv A outer s H vs Q E hr h => ?_)
  · obtain ⟨_, _, _, _, _, rfl, _⟩ := h
    rfl
  · obtain ⟨p, l, d, w, x, rfl, hw, hx, hn, hl, q⟩ := h
    obtain ⟨dx, ep⟩ := hw.self
    refine ⟨_, PSs.nox (pss_cons (ps_expr (pe_meth (pv 0) T.cl_Web T.m_Web_need_new_name (ok_Web_need_new_name T) (hr.mono (by decide)) T.k_Web_need_new_name .nil pass0 (pa_cons (pv 1) pa_nil)))
      (pss_one (ps_if (pt_cmpR op_ge (pe_callB x_lenL (by rfl) T.b_len (by decide +kernel) (pa_cons (pe_fld (pv 0) rfl) pa_nil)) (pe_glob (v := .int 16) rfl (T.c_MOST_POINTS).choose_spec ⟨_, rfl⟩) (nomark _)) (pss_one ps_never) pss_nil))), ?_⟩
    have c1 := T.cl_Web
    have c2 := T.na_Web_points
    walk_at "go"
    refine i_kMethC ep rfl ?_
    walk_at "go"
    refine ⟨p, l, d, w, x, rfl, hw, hx, hn, ?_⟩
    walk_at "go"
    refine i_lenL (SqL.of hw.pts) ?_
    walk_at "go"
    rw [List.length_map]
    refine i_dec (fun e => ?_) (fun _ => ?_)
    · omega
    · walk_at "go"
      exact q
def sp_need_tie (K : PySem.W.Frag) : Sp := fun vs H Q _ => ∃ p l d w n t, vs = [.ref p, .int n] ∧ WebAt K H p l d w ∧ tget w.ts n = some t ∧ Q .non H
theorem ok_Web_need_tie (T : Tx K mg) : FnOk P w K mg base CX0 2 (He.ma K (He.ga K "Web") "_need_tie") T.fd_Web_need_tie ["self", "number"] (sp_need_tie K) := by
  refine T.F_Web_need_tie.ok sc_Web_need_tie (fun vs H Q E h => ?_) (fun cdv A outer s H vs Q E hr h => ?_)
  · obtain ⟨_, _, _, _, _, _, rfl, _⟩ := h
    rfl
  · obtain ⟨p, l, d, w, n, t, rfl, hw, ht, q⟩ := h
    obtain ⟨dx, ep⟩ := hw.self
    obtain ⟨kvs, ed, hd⟩ := hw.ties
    have hu := hu_of hr
    refine ⟨_, PSs.nox (pss_one (ps_if (PW.pt (pw_or (pt_not (pt_val (pe_call (ok_is_whole T) (hr.mono (by decide)) (by rfl) T.g_is_whole T.F_is_whole.kp T.k_is_whole .nil pass0 (pa_cons (pv 1) pa_nil)))) (pw_or1 (pt_cmp (pc_dnotin hu (pv 1) (pe_fld (pv 0) rfl)))))) (pss_one ps_never) pss_nil)), ?_⟩
    have c1 := T.cl_Web
    have c2 := T.na_Web_ties
    walk_at "go"
    refine ⟨n, rfl, ?_⟩
    walk_at "go"
    refine i_kDNotInI ed ?_
    rw [hd.some, ht]
    show kB _ (.bl false) _
    walk_at "go"
    exact q
def sp_put_point (K : PySem.W.Frag) : Sp := fun vs H Q _ => ∃ p l d w x, vs = [.ref p, .str x] ∧ WebAt K H p l d w ∧ x ∉ w.ps ∧ isNm x = true ∧ w.ps.length < 16 ∧ ∀ H', WebAt K H' p l d (w.put x) → Keep H H' p l d → Q .non H'
theorem ok_Web_put_point (T : Tx K mg) : FnOk P w K mg base CX0 5 (He.ma K (He.ga K "Web") "put_point") T.fd_Web_put_point ["self", "name"] (sp_put_point K) := by
  refine T.F_Web_put_point.ok sc_Web_put_point (fun vs H Q E h => ?_) (fun cdv A outer s H vs Q E hr h => ?_)
  · obtain ⟨_, _, _, _, _, rfl, _⟩ := h
    rfl
  · obtain ⟨p, l, d, w, x, rfl, hw, hx, hn, hl, q⟩ := h
    obtain ⟨dx, ep⟩ := hw.self
    refine ⟨_, PSs.nox (pss_cons (ps_expr (pe_meth (pv 0) T.cl_Web T.m_Web_need_new_point (ok_Web_need_new_point T) (hr.mono (by decide)) T.k_Web_need_new_point .nil pass0 (pa_cons (pv 1) pa_nil)))
      (pss_one (ps_expr (pe_bm PySem.F.plainAttrs_list PySem.F.slot_list_append PySem.F.type_list_append mt_append (pe_fld (pv 0) rfl) (pa_cons (pv 1) pa_nil))))), ?_⟩
    have c1 := T.cl_Web
    have c2 := T.na_Web_points
    walk_at "go"
    refine i_kMethC ep rfl ?_
    walk_at "go"
    refine ⟨p, l, d, w, x, rfl, hw, hx, hn, hl, ?_⟩
    walk_at "go"
    refine i_kTyL (SqL.of hw.pts) ?_
    walk_at "go"
    refine i_append hw.pts ?_ (by rw [List.length_map, sizeLine_eq]; omega)
    walk_at "go"
    obtain ⟨a1, a2⟩ := hw.setPts (Same.refl H) (ps := w.ps ++ [x])
    rw [List.map_append] at a1 a2
    exact q _ a1 a2
def sp_drop_tie (K : PySem.W.Frag) : Sp := fun vs H Q _ => ∃ p l d w n t, vs = [.ref p, .int n] ∧ WebAt K H p l d w ∧ tget w.ts n = some t ∧ ∀ H', WebAt K H' p l d (w.untie n) → Keep H H' p l d → Q .non H'
theorem ok_Web_drop_tie (T : Tx K mg) : FnOk P w K mg base CX0 3 (He.ma K (He.ga K "Web") "drop_tie") T.fd_Web_drop_tie ["self", "number"] (sp_drop_tie K) := by
  refine T.F_Web_drop_tie.ok sc_Web_drop_tie (fun vs H Q E h => ?_) (fun cdv A outer s H vs Q E hr h => ?_)
  · obtain ⟨_, _, _, _, _, _, rfl, _⟩ := h
    rfl
  · obtain ⟨p, l, d, w, n, t, rfl, hw, ht, q⟩ := h
    obtain ⟨dx, ep⟩ := hw.self
    obtain ⟨kvs, ed, hd⟩ := hw.ties
    have hu := hu_of hr
    refine ⟨_, PSs.nox (pss_cons (ps_expr (pe_meth (pv 0) T.cl_Web T.m_Web_need_tie (ok_Web_need_tie T) (hr.mono (by decide)) T.k_Web_need_tie .nil pass0 (pa_cons (pv 1) pa_nil)))
      (pss_one (ps_ddel (pe_fld (pv 0) rfl) (pv 1)))), ?_⟩
    have c1 := T.cl_Web
    have c3 := T.na_Web_ties
    walk_at "go"
    refine i_kMethC ep rfl ?_
    walk_at "go"
    refine ⟨p, l, d, w, n, t, rfl, hw, ht, ?_⟩
    walk_at "go"
    refine i_kDDelI ed (by rw [hd.some, ht]; rfl) ?_
    walk_at "go"
    obtain ⟨a1, a2⟩ := hw.setTies (Same.refl H) (hd.drop (n := n))
    exact q _ a1 a2
end
end K18

set_option Elab.async false
set_option linter.all false
set_option maxRecDepth 100000
set_option maxHeartbeats 2000000
namespace K18
open PySem PySem.Spec PyProof.Rows L2 HX WB
local macro_rules | `(tactic| walk_at "side") => `(tactic| first
  | assumption
  | rfl
  | (show (0 : Int) < _; omega)
  | (unfold CDiv; omega)
  | (unfold CMul; omega)
  | (unfold CPow; omega)
  | (rw [sizeLine_eq]; omega)
  | omega)
local macro_rules | `(tactic| walk_at "e") => `(tactic| first
  | ((with_reducible apply i_var); exact rfl)
  | (with_reducible apply i_c)
  | (with_reducible apply i_op)
  | (with_reducible apply i_un)
  | (with_reducible apply i_rI0)
  | ((with_reducible apply i_rI); (case c => walk_at "side"))
  | (with_reducible apply i_rGe)
  | (with_reducible apply i_rGt)
  | (with_reducible apply i_rU)
  | (with_reducible apply i_rEqI)
  | (with_reducible apply i_rNeI)
  | (with_reducible apply i_rEqS)
  | (with_reducible apply i_rNeS)
  | (with_reducible apply i_rEqB)
  | (with_reducible apply i_rNeB)
  | (with_reducible apply i_rIsN)
  | (with_reducible apply i_rNotN)
  | (with_reducible apply i_rInS)
  | (with_reducible apply i_rNotInS)
  | ((with_reducible apply i_catS); (case c => walk_at "side"))
  | (with_reducible apply i_tcb)
  | (with_reducible apply i_nil)
  | (with_reducible apply i_cons)
  | ((with_reducible apply i_lenS); (case c => walk_at "side"))
  | ((with_reducible apply i_lenL); assumption)
  | (with_reducible apply i_abs)
  | (with_reducible apply i_max2)
  | (with_reducible apply i_min2)
  | ((with_reducible apply i_strI); (case c => walk_at "side"))
  | (with_reducible apply i_intB)
  | (with_reducible apply i_test)
  | (with_reducible apply i_tB)
  | (with_reducible apply i_kB)
  | (with_reducible apply i_and)
  | (with_reducible apply i_or)
  | (with_reducible apply i_not)
  | (with_reducible apply i_if)
  | (with_reducible apply i_andV)
  | (with_reducible apply i_orV)
  | (with_reducible apply i_notV)
  | (with_reducible apply i_kAndV)
  | (with_reducible apply i_kOrV)
  | (with_reducible apply i_kNotV)
  | (with_reducible apply i_chain)
  | (with_reducible apply i_kChain)
  | (with_reducible apply i_drop)
  | (with_reducible apply i_ret)
  | (with_reducible apply i_retN)
  | (with_reducible apply i_ifS)
  | (with_reducible apply i_asg)
  | (with_reducible apply i_gName)
  | (with_reducible apply i_for)
  | (with_reducible apply i_lc)
  | (with_reducible apply i_iList)
  | (with_reducible apply i_iTup)
  | (with_reducible apply i_iStr)
  | (with_reducible apply i_kStrI)
  | (with_reducible apply i_lst)
  | (with_reducible apply i_tup)
  | (with_reducible apply i_call)
  | (with_reducible apply i_m1)
  | (with_reducible apply i_kStr)
  | (with_reducible apply i_bm)
  | (with_reducible apply i_bm0)
  | (with_reducible apply i_part)
  | (with_reducible apply i_kInt)
  | (with_reducible apply i_noPart)
  | (with_reducible apply i_sl)
  | (with_reducible apply i_range1)
  | (with_reducible apply i_range2)
  | ((with_reducible apply i_kRng1); (case c => walk_at "side"))
  | ((with_reducible apply i_kRng2); (case c => walk_at "side"))
  | (with_reducible apply i_gCons)
  | (with_reducible apply i_gNil)
  | (with_reducible apply i_gSub)
  | (with_reducible apply i_iZip)
  | (with_reducible apply i_yes)
  | (with_reducible apply i_ift)
  | (with_reducible apply i_iff)
  | (with_reducible apply i_nb))
local macro_rules | `(tactic| walk_at "go") => `(tactic| repeat (first | (with_reducible apply i_seq) | (with_reducible apply i_next) | walk_at "e"))
local macro_rules | `(tactic| walk_at "ge") => `(tactic| repeat walk_at "e")
local macro_rules | `(tactic| walk_at "sz") => `(tactic| first | decide | (rw [sizeLine_eq]; simp; done) | (rw [sizeLine_eq]; omega))
local macro_rules | `(tactic| walk_at "side") => `(tactic| (with_reducible exact WB.most_pos))
local macro_rules | `(tactic| walk_at "e") => `(tactic| first
  | ((with_reducible apply i_isT (b := true)); exact rfl)
  | ((with_reducible apply i_isT (b := false)); exact rfl)
  | (with_reducible apply i_fld)
  | ((with_reducible apply i_kFld); (case h => assumption); (case c1 => assumption); (case c2 => assumption); (case e => first | exact lk_number | exact lk_tail | exact lk_head | exact lk_load | exact lk_oneway | exact lk_points | exact lk_ties | exact lk_given))
  | (with_reducible apply i_sfld)
  | ((with_reducible apply i_kSFld); (case h => first | assumption | exact upd_same); (case c1 => assumption); (case c2 => assumption); (case e => exact Nat.le_of_ble_eq_true rfl))
  | (with_reducible apply i_methC)
  | (with_reducible apply i_make)
  | (with_reducible apply i_fldaug)
  | (with_reducible apply i_vals)
  | (with_reducible apply i_items)
  | (with_reducible apply i_dget)
  | (with_reducible apply i_dput)
  | (with_reducible apply i_din)
  | (with_reducible apply i_dnotin)
  | (with_reducible apply i_ddel)
  | (with_reducible apply i_dc)
  | (with_reducible apply i_enum))
section
variable {P : Program} {w : World} {K : PySem.W.Frag} {mg : Str → Option Value} {base : Heap}
def sp_put_tie (K : PySem.W.Frag) : Sp := fun vs H Q _ => ∃ p l d w t, vs = [.ref p, .str t.t, .str t.h, .int t.c, .bl t.o] ∧ WebAt K H p l d w ∧ Wok w ∧ t.t ∈ w.ps ∧ t.h ∈ w.ps ∧ t.t ≠ t.h ∧ 0 ≤ t.c ∧ t.c ≤ most ∧ w.ts.length < 48 ∧ ∀ H', WebAt K H' p l d (w.tie t) → Keep H H' p l d → Q (.int (w.g + 1)) H'
theorem ok_Web_put_tie (T : Tx K mg) : FnOk P w K mg base CX0 4 (He.ma K (He.ga K "Web") "put_tie") T.fd_Web_put_tie ["self", "tail", "head", "load", "is_oneway"] (sp_put_tie K) := by
  refine T.F_Web_put_tie.ok sc_Web_put_tie (fun vs H Q E h => ?_) (fun cdv A outer s H vs Q E hr h => ?_)
  · obtain ⟨_, _, _, _, _, rfl, _⟩ := h
    rfl
  · obtain ⟨p, l, d, w, t, rfl, hw, ok, h1, h2, h3, h4, h5, h6, q⟩ := h
    obtain ⟨dx, ep⟩ := hw.self
    obtain ⟨kvs, ed, hd⟩ := hw.ties
    have hu := hu_of hr
    refine ⟨_, PSs.nox (pss_cons (ps_expr (pe_meth (pv 0) T.cl_Web T.m_Web_need_point (ok_Web_need_point T) (hr.mono (by decide)) T.k_Web_need_point .nil pass0 (pa_cons (pv 1) pa_nil)))
      (pss_cons (ps_expr (pe_meth (pv 0) T.cl_Web T.m_Web_need_point (ok_Web_need_point T) (hr.mono (by decide)) T.k_Web_need_point .nil pass0 (pa_cons (pv 2) pa_nil)))
      (pss_cons (ps_if (pt_cmpR op_eq (pv 1) (pv 2) (nomark _)) (pss_one ps_never) pss_nil)
      (pss_cons (ps_if (pt_not (pt_val (pe_callB call_isi (by rfl) T.b_isinstance (by decide +kernel) (pa_cons (pv 4) (pa_cons (pe_bltn (v := .ty "bool") rfl T.b_bool (by decide +kernel) rfl) pa_nil))))) (pss_one ps_never) pss_nil)
      (pss_cons (ps_expr (pe_call (ok_need_load T) (hr.mono (by decide)) (by rfl) T.g_need_load T.F_need_load.kp T.k_need_load .nil pass0 (pa_cons (pv 3) pa_nil)))
      (pss_cons (ps_if (pt_cmpR op_ge (pe_callB call_lenD (by rfl) T.b_len (by decide +kernel) (pa_cons (pe_fld (pv 0) rfl) pa_nil)) (pe_glob (v := .int 48) rfl (T.c_MOST_TIES).choose_spec ⟨_, rfl⟩) (nomark _)) (pss_one ps_never) pss_nil)
      (pss_cons (ps_fldaug (pv 0) pe_int in_add)
      (pss_cons (ps_dput hu (pe_fld (pv 0) rfl) (pe_fld (pv 0) rfl) (pe_make T.mk_Tie (ok_Tie_init T) (hr.mono (by decide)) (by rfl) T.g_Tie T.k_Tie_init .nil pass0 (pa_cons (pe_fld (pv 0) rfl) (pa_cons (pv 1) (pa_cons (pv 2) (pa_cons (pv 3) (pa_cons (pv 4) pa_nil)))))) rfl)
      (pss_one (ps_ret (pe_fld (pv 0) rfl))))))))))), ?_⟩
    have c1 := T.cl_Web
    have c3 := T.na_Web_ties
    have c4 := T.na_Web_given
    walk_at "go"
    refine i_kMethC ep rfl ?_
    walk_at "go"
    refine ⟨p, l, d, w, _, rfl, hw, h1, ok.nm _ h1, ?_⟩
    walk_at "go"
    refine i_kMethC ep rfl ?_
    walk_at "go"
    refine ⟨p, l, d, w, _, rfl, hw, h2, ok.nm _ h2, ?_⟩
    walk_at "go"
    refine i_dec (fun e => absurd e h3) (fun _ => ?_)
    walk_at "go"
    refine ⟨t.c, rfl, h4, h5, ?_⟩
    walk_at "go"
    refine ⟨d, kvs, rfl, ed, ?_⟩
    walk_at "go"
    rw [hd.len]
    refine i_dec (fun e => ?_) (fun _ => ?_)
    · omega
    walk_at "go"
    refine i_kFldAugI ep c1 c4 lk_given (Nat.le_of_ble_eq_true rfl) ?_
    rw [pf_given]
    obtain ⟨b1, b2⟩ := hw.setGiven (Same.refl H) (dx := dx) (g := w.g + 1)
    generalize upd H p (.ins (He.ga K "Web") dx (webFs l d (w.g + 1))) = H1 at b1 b2 ⊢
    obtain ⟨dx1, ep1⟩ := b1.self
    walk_at "go"
    intro a dy ha hda hne
    refine ⟨a, dy, w.g + 1, t, rfl, upd_same, rfl, ?_⟩
    rw [upd_upd]
    have s2 : Same H1 (upd (upd H1 dy (.own a)) a (.ins (He.ga K "Tie") dy (tieFs (w.g + 1) t))) := Same.mut (Same.new hda) ha
    have ta : TieAt K (upd (upd H1 dy (.own a)) a (.ins (He.ga K "Tie") dy (tieFs (w.g + 1) t))) (w.g + 1) t a := ⟨dy, upd_same⟩
    generalize upd (upd H1 dy (.own a)) a (.ins (He.ga K "Tie") dy (tieFs (w.g + 1) t)) = H2 at s2 ta ⊢
    have b3 := b1.same s2
    obtain ⟨dx2, ep2⟩ := b3.self
    obtain ⟨kvs2, ed2, hd2⟩ := b3.ties
    walk_at "go"
    have hl2 := hd2.len
    refine i_kDPutI ed2 (by rw [hl2, sizeLine_eq]; show w.ts.length < _; omega) ?_
    have hnew : ∀ z ∈ w.ts, z.1 ≠ w.g + 1 := fun z hz e => by
      have := (ok.ok z.1 z.2 hz).hi
      omega
    obtain ⟨b4, b5⟩ := b3.setTies (Same.refl H2) (put_new hd2 ta hnew)
    generalize upd H2 d (.dK (putK kvs2 (Sum.inl (w.g + 1)) (.ref a))) = H3 at b4 b5 ⊢
    obtain ⟨dx3, ep3⟩ := b4.self
    walk_at "go"
    exact q H3 b4 ((b2.trans (Keep.of s2) (.inl rfl)).trans b5 (.inl rfl))
end
end K18

set_option Elab.async false
set_option linter.all false
set_option maxRecDepth 100000
set_option maxHeartbeats 2000000
namespace K18
open PySem PySem.Spec PyProof.Rows L2 HX WB
local macro_rules | `(tactic| walk_at "side") => `(tactic| first
  | assumption
  | rfl
  | (show (0 : Int) < _; omega)
  | (unfold CDiv; omega)
  | (unfold CMul; omega)
  | (unfold CPow; omega)
  | (rw [sizeLine_eq]; omega)
  | omega)
local macro_rules | `(tactic| walk_at "e") => `(tactic| first
  | ((with_reducible apply i_var); exact rfl)
  | (with_reducible apply i_c)
  | (with_reducible apply i_op)
  | (with_reducible apply i_un)
  | (with_reducible apply i_rI0)
  | ((with_reducible apply i_rI); (case c => walk_at "side"))
  | (with_reducible apply i_rGe)
  | (with_reducible apply i_rGt)
  | (with_reducible apply i_rU)
  | (with_reducible apply i_rEqI)
  | (with_reducible apply i_rNeI)
  | (with_reducible apply i_rEqS)
  | (with_reducible apply i_rNeS)
  | (with_reducible apply i_rEqB)
  | (with_reducible apply i_rNeB)
  | (with_reducible apply i_rIsN)
  | (with_reducible apply i_rNotN)
  | (with_reducible apply i_rInS)
  | (with_reducible apply i_rNotInS)
  | ((with_reducible apply i_catS); (case c => walk_at "side"))
  | (with_reducible apply i_tcb)
  | (with_reducible apply i_nil)
  | (with_reducible apply i_cons)
  | ((with_reducible apply i_lenS); (case c => walk_at "side"))
  | ((with_reducible apply i_lenL); assumption)
  | (with_reducible apply i_abs)
  | (with_reducible apply i_max2)
  | (with_reducible apply i_min2)
  | ((with_reducible apply i_strI); (case c => walk_at "side"))
  | (with_reducible apply i_intB)
  | (with_reducible apply i_test)
  | (with_reducible apply i_tB)
  | (with_reducible apply i_kB)
  | (with_reducible apply i_and)
  | (with_reducible apply i_or)
  | (with_reducible apply i_not)
  | (with_reducible apply i_if)
  | (with_reducible apply i_andV)
  | (with_reducible apply i_orV)
  | (with_reducible apply i_notV)
  | (with_reducible apply i_kAndV)
  | (with_reducible apply i_kOrV)
  | (with_reducible apply i_kNotV)
  | (with_reducible apply i_chain)
  | (with_reducible apply i_kChain)
  | (with_reducible apply i_drop)
  | (with_reducible apply i_ret)
  | (with_reducible apply i_retN)
  | (with_reducible apply i_ifS)
  | (with_reducible apply i_asg)
  | (with_reducible apply i_gName)
  | (with_reducible apply i_for)
  | (with_reducible apply i_lc)
  | (with_reducible apply i_iList)
  | (with_reducible apply i_iTup)
  | (with_reducible apply i_iStr)
  | (with_reducible apply i_kStrI)
  | (with_reducible apply i_lst)
  | (with_reducible apply i_tup)
  | (with_reducible apply i_call)
  | (with_reducible apply i_m1)
  | (with_reducible apply i_kStr)
  | (with_reducible apply i_bm)
  | (with_reducible apply i_bm0)
  | (with_reducible apply i_part)
  | (with_reducible apply i_kInt)
  | (with_reducible apply i_noPart)
  | (with_reducible apply i_sl)
  | (with_reducible apply i_range1)
  | (with_reducible apply i_range2)
  | ((with_reducible apply i_kRng1); (case c => walk_at "side"))
  | ((with_reducible apply i_kRng2); (case c => walk_at "side"))
  | (with_reducible apply i_gCons)
  | (with_reducible apply i_gNil)
  | (with_reducible apply i_gSub)
  | (with_reducible apply i_iZip)
  | (with_reducible apply i_yes)
  | (with_reducible apply i_ift)
  | (with_reducible apply i_iff)
  | (with_reducible apply i_nb))
local macro_rules | `(tactic| walk_at "go") => `(tactic| repeat (first | (with_reducible apply i_seq) | (with_reducible apply i_next) | walk_at "e"))
local macro_rules | `(tactic| walk_at "ge") => `(tactic| repeat walk_at "e")
local macro_rules | `(tactic| walk_at "sz") => `(tactic| first | decide | (rw [sizeLine_eq]; simp; done) | (rw [sizeLine_eq]; omega))
local macro_rules | `(tactic| walk_at "side") => `(tactic| (with_reducible exact WB.most_pos))
local macro_rules | `(tactic| walk_at "e") => `(tactic| first
  | ((with_reducible apply i_isT (b := true)); exact rfl)
  | ((with_reducible apply i_isT (b := false)); exact rfl)
  | (with_reducible apply i_fld)
  | ((with_reducible apply i_kFld); (case h => assumption); (case c1 => assumption); (case c2 => assumption); (case e => first | exact lk_number | exact lk_tail | exact lk_head | exact lk_load | exact lk_oneway | exact lk_points | exact lk_ties | exact lk_given))
  | (with_reducible apply i_sfld)
  | ((with_reducible apply i_kSFld); (case h => first | assumption | exact upd_same); (case c1 => assumption); (case c2 => assumption); (case e => exact Nat.le_of_ble_eq_true rfl))
  | (with_reducible apply i_methC)
  | (with_reducible apply i_make)
  | (with_reducible apply i_fldaug)
  | (with_reducible apply i_vals)
  | (with_reducible apply i_items)
  | (with_reducible apply i_dget)
  | (with_reducible apply i_dput)
  | (with_reducible apply i_din)
  | (with_reducible apply i_dnotin)
  | (with_reducible apply i_ddel)
  | (with_reducible apply i_dc)
  | (with_reducible apply i_enum))
section
variable {P : Program} {w : World} {K : PySem.W.Frag} {mg : Str → Option Value} {base : Heap}
/-- an address that is new behind a change of a web is new ahead of it -/
theorem free_keep {H H1 : Hp} {p l d D : Addr} {w1 : Wb} (b1 : WebAt K H1 p l d w1) (b2 : Keep H H1 p l d) (hD : H1 D = none) : H D = none := by
  cases e : H D with
  | none => rfl
  | some o =>
    obtain ⟨dx1, ep1⟩ := b1.self
    obtain ⟨kvs, ed, _⟩ := b1.ties
    by_cases n1 : D = p
    · subst n1; rw [ep1] at hD; cases hD
    · by_cases n2 : D = l
      · subst n2; rw [b1.pts] at hD; cases hD
      · by_cases n3 : D = d
        · subst n3; rw [ed] at hD; cases hD
        · rw [b2 _ _ n1 n2 n3 e] at hD; cases hD
/-- a list of new ties -/
def TiesL (K : PySem.W.Frag) (H : Hp) (as : List Addr) (ts : Ts) : Prop := Two (fun b nt => TieAt K H nt.1 nt.2 b) as ts
theorem TiesL.same {H H' : Hp} {as : List Addr} {ts : Ts} (h : TiesL K H as ts) (s : Same H H') : TiesL K H' as ts := Two.mono h fun _ _ r => r.same s
theorem TiesL.snoc {H : Hp} {as : List Addr} {ts : Ts} {a : Addr} {x : Int × Ti} (h : TiesL K H as ts) (r : TieAt K H x.1 x.2 a) : TiesL K H (as ++ [a]) (ts ++ [x]) := Two.app h (.cons r .nil)
def sp_ties (K : PySem.W.Frag) : Sp := fun vs H Q _ => ∃ p l d w, vs = [.ref p] ∧ WebAt K H p l d w ∧ w.ts.length ≤ 48 ∧ ∀ a as H', Same H H' → H a = none → H' a = some (.lst (as.map V.ref)) → TiesL K H' as w.ts → Q (.ref a) H'
theorem ok_Web_ties (T : Tx K mg) : FnOk P w K mg base CX0 4 (He.ma K (He.ga K "Web") "ties") T.fd_Web_ties ["self"] (sp_ties K) := by
  refine T.F_Web_ties.ok sc_Web_ties (fun vs H Q E h => ?_) (fun cdv A outer s H vs Q E hr h => ?_)
  · obtain ⟨_, _, _, _, rfl, _⟩ := h
    rfl
  · obtain ⟨p, l, d, w, rfl, hw, hl, q⟩ := h
    obtain ⟨dx, ep⟩ := hw.self
    obtain ⟨kvs, ed, hd⟩ := hw.ties
    have hu := hu_of hr
    refine ⟨_, PSs.nox (pss_one (ps_ret (pe_lock (pe_lc (own := [("tie", 1)]) (by rfl) sc_Web_ties.nd (pi_values (pe_fld (pv 0) rfl)) (blkOk_by (own := [("tie", 1)]) (N := N_Web_ties) (sc := defScope s_Web_ties) (by decide +kernel)) (fun _ _ _ _ _ => (pg_name (i := 1) sc_Web_ties.nd rfl (Or.inl rfl))) (fun _ _ _ _ _ => pts_nil) (fun _ _ _ _ _ => (pe_call (ok_between T) (hr.mono (by decide)) (by rfl) T.g_between T.F_between.kp T.k_between .nil pass0 (pa_cons (pv 1) (pa_cons (pe_fldK K rfl (pv 1) rfl) (pa_cons (pe_fldK K rfl (pv 1) rfl) pa_nil))))))))), ?_⟩
    have c1 := T.cl_Web
    have c3 := T.na_Web_ties
    have c4 := T.cl_Tie
    have c5 := T.na_Tie_tail
    have c6 := T.na_Tie_head
    walk_at "go"
    refine i_lockE ed trivial fun od => ?_
    have ep2 := (upd_ne hw.ne_pd (o := .frz od (.dK kvs))).trans ep
    walk_at "go"
    refine i_kVals upd_same ?_
    intro D hD
    have nDd : D ≠ d := fun e => by rw [e, upd_same] at hD; cases hD
    refine lc_it walk_values (fun m H' => Same (upd H d (.frz od (.dK kvs))) H' ∧ ∃ as, H' D = some (.lst (as.map V.ref)) ∧ TiesL K H' as (w.ts.take m))
      ⟨Same.new hD, [], upd_same, by simp; exact .nil⟩ (fun i H' _ h => h.1 _ _ upd_same) ?_ ?_
    · rintro i v H2 H3 hi ⟨s2, as, eD, dp⟩ ⟨rfl, k, hk⟩
      obtain ⟨n, t, a, et, ekv, ta⟩ := hd.item hk
      cases ekv
      have ta2 := (TieAt.locked (o := od) ta ed).same s2
      obtain ⟨dy, ta3⟩ := ta2
      walk_at "go"
      refine ⟨rfl, ?_⟩
      walk_at "go"
      refine ⟨a, n, t, t.t, t.h, rfl, ⟨dy, ta3⟩, fun b H4 s4 tb hb => ?_⟩
      have eD4 := s4 _ _ eD
      refine ⟨as.map V.ref, eD4, ?_, Same.mut (s2.trans s4) hD, as ++ [b], ?_, ?_⟩
      · have := Two.len dp
        rw [List.length_map, this, List.length_take, sizeLine_eq]; omega
      · rw [upd_same, List.map_append]; rfl
      · rw [List.take_add_one, et]
        exact Two.mono (TiesL.snoc (dp.same s4) tb) fun _ _ r => r.other (r.ne eD4 (fun _ _ _ _ => by simp))
    · rintro H2 ⟨s2, as, eD, dp⟩
      rw [hd.len, List.take_length] at dp
      obtain ⟨e2, s3⟩ := lock_same ed s2
      refine ⟨e2, ?_⟩
      walk_at "go"
      refine q D as _ s3 ?_ ((upd_ne nDd).trans eD) (Two.mono dp fun _ _ r => r.unlock e2)
      rwa [upd_ne nDd] at hD
def sp_join (K : PySem.W.Frag) : Sp := fun vs H Q _ => ∃ p l d w x y, vs = [.ref p, .str x, .str y] ∧ WebAt K H p l d w ∧ Wok w ∧ x ∈ w.ps ∧ y ∈ w.ps ∧ x ≠ y ∧ ∀ H' d', (d' = d ∨ H d' = none) → WebAt K H' p l d' (w.join x y) → Keep H H' p l d → Q .non H'
theorem ok_Web_join (T : Tx K mg) : FnOk P w K mg base CX0 5 (He.ma K (He.ga K "Web") "join") T.fd_Web_join ["self", "name", "other"] (sp_join K) := by
  refine T.F_Web_join.ok sc_Web_join (fun vs H Q E h => ?_) (fun cdv A outer s H vs Q E hr h => ?_)
  · obtain ⟨_, _, _, _, _, _, rfl, _⟩ := h
    rfl
  · obtain ⟨p, l, d, w, x, y, rfl, hw, ok, hx, hy, hne, q⟩ := h
    obtain ⟨dx, ep⟩ := hw.self
    have hu := hu_of hr
    refine ⟨_, PSs.nox (pss_cons (ps_expr (pe_meth (pv 0) T.cl_Web T.m_Web_need_point (ok_Web_need_point T) (hr.mono (by decide)) T.k_Web_need_point .nil pass0 (pa_cons (pv 1) pa_nil)))
      (pss_cons (ps_expr (pe_meth (pv 0) T.cl_Web T.m_Web_need_point (ok_Web_need_point T) (hr.mono (by decide)) T.k_Web_need_point .nil pass0 (pa_cons (pv 2) pa_nil)))
      (pss_cons (ps_if (pt_cmpR op_eq (pv 1) (pv 2) (nomark _)) (pss_one ps_never) pss_nil)
      (pss_cons (ps_expr (pe_bm PySem.F.plainAttrs_list PySem.F.slot_list_remove PySem.F.type_list_remove mt_removeS (pe_fld (pv 0) rfl) (pa_cons (pv 2) pa_nil)))
      (pss_cons (ps_lock (ps_setLc (i := 3) (own := [("tie", 4)]) (by rfl) sc_Web_join.nd rfl rfl (sw_true rfl rfl rfl (by decide +kernel)) (pi_values (pe_fld (pv 0) rfl)) (blkOk_by (own := [("tie", 4)]) (N := N_Web_join) (sc := defScope s_Web_join) (by decide +kernel)) (fun _ _ _ _ _ => (pg_name (i := 4) sc_Web_join.nd rfl (Or.inl rfl))) (fun _ _ _ _ _ => pts_nil) (fun _ _ _ _ _ => (pe_call (ok_turned T) (hr.mono (by decide)) (by rfl) T.g_turned T.F_turned.kp T.k_turned .nil pass0 (pa_cons (pv 4) (pa_cons (pv 2) (pa_cons (pv 1) pa_nil)))))))
      (pss_one (ps_fld (pv 0) (pe_dc (own := [("tie", 4)]) (by rfl) sc_Web_join.nd (pi_list (pv 3)) (blkOk_by (own := [("tie", 4)]) (N := N_Web_join) (sc := defScope s_Web_join) (by decide +kernel)) (fun _ _ _ _ _ => (pg_name (i := 4) sc_Web_join.nd rfl (Or.inl rfl))) (fun _ _ _ _ _ => (pts_one (pt_cmpR op_ne (pe_fldK K rfl (pv 4) rfl) (pe_fldK K rfl (pv 4) rfl) (nomark _)))) (fun _ _ _ _ _ => (pe_fldK K rfl (pv 4) rfl)) (fun _ _ _ _ _ => (pv 4))) rfl))))))), ?_⟩
    have c1 := T.cl_Web
    have c2 := T.na_Web_points
    have c3 := T.na_Web_ties
    have c4 := T.cl_Tie
    have c5 := T.na_Tie_tail
    have c6 := T.na_Tie_head
    have c7 := T.na_Tie_number
    walk_at "go"
    refine i_kMethC ep rfl ?_
    walk_at "go"
    refine ⟨p, l, d, w, _, rfl, hw, hx, ok.nm _ hx, ?_⟩
    walk_at "go"
    refine i_kMethC ep rfl ?_
    walk_at "go"
    refine ⟨p, l, d, w, _, rfl, hw, hy, ok.nm _ hy, ?_⟩
    walk_at "go"
    refine i_dec (fun e => absurd e hne) (fun _ => ?_)
    walk_at "go"
    refine i_kTyL (SqL.of hw.pts) ?_
    walk_at "go"
    refine i_remS hw.pts hy ?_
    obtain ⟨b1, b2⟩ := hw.setPts (Same.refl H) (ps := w.ps.erase y)
    generalize upd H l (.lst ((w.ps.erase y).map V.str)) = H1 at b1 b2 ⊢
    obtain ⟨dx1, ep1⟩ := b1.self
    obtain ⟨kvs, ed, hd⟩ := b1.ties
    have hl48 := ok.tl
    walk_at "go"
    refine i_lock ed trivial fun od => ?_
    have ep2 := (upd_ne b1.ne_pd (o := .frz od (.dK kvs))).trans ep1
    walk_at "go"
    refine i_kVals upd_same ?_
    intro D hD
    have nDd : D ≠ d := fun e => by rw [e, upd_same] at hD; cases hD
    refine lc_it walk_values (fun m H' => Same (upd H1 d (.frz od (.dK kvs))) H' ∧ ∃ as, H' D = some (.lst (as.map V.ref)) ∧ TiesL K H' as ((w.ts.take m).map fun nt => (nt.1, turn y x nt.2)))
      ⟨Same.new hD, [], upd_same, by simp; exact .nil⟩ (fun i H' _ h => h.1 _ _ upd_same) ?_ ?_
    · rintro i v H2 H3 hi ⟨s2, as, eD, dp⟩ ⟨rfl, k, hk⟩
      obtain ⟨n, t, a, et, ekv, ta⟩ := hd.item hk
      cases ekv
      have ta2 := (TieAt.locked (o := od) ta ed).same s2
      walk_at "go"
      refine ⟨rfl, ?_⟩
      walk_at "go"
      refine ⟨a, n, t, y, x, rfl, ta2, fun b H4 s4 tb hb => ?_⟩
      have eD4 := s4 _ _ eD
      refine ⟨as.map V.ref, eD4, ?_, Same.mut (s2.trans s4) hD, as ++ [b], ?_, ?_⟩
      · have := Two.len dp
        rw [List.length_map, this, List.length_map, List.length_take, sizeLine_eq]; omega
      · rw [upd_same, List.map_append]; rfl
      · rw [take_map (show w.ts[i]? = some (n, t) from et)]
        exact Two.mono (TiesL.snoc (x := (n, turn y x t)) (dp.same s4) tb) fun _ _ r => r.other (r.ne eD4 (fun _ _ _ _ => by simp))
    · rintro H2 ⟨s2, as, eD, dp⟩
      rw [hd.len, List.take_length] at dp
      obtain ⟨e2, s3⟩ := lock_same ed s2
      have hDn : H1 D = none := by rwa [upd_ne nDd] at hD
      have eD3 : (upd H2 d (.dK kvs)) D = some (.lst (as.map V.ref)) := (upd_ne nDd).trans eD
      have dp3 : TiesL K (upd H2 d (.dK kvs)) as (w.ts.map fun nt => (nt.1, turn y x nt.2)) := Two.mono dp fun _ _ r => r.unlock e2
      walk_at "go"
      refine ⟨e2, ?_⟩
      generalize upd H2 d (.dK kvs) = H3 at s3 eD3 dp3 ⊢
      have ep3 := s3 _ _ ep1
      walk_at "go"
      refine i_kListI (SqL.of eD3) ?_
      intro G hG
      have hlen := Two.len dp3
      have nGD : G ≠ D := fun e => by rw [e, eD3] at hG; cases hG
      refine dc_it walk_list (fun m H' => Same H3 H' ∧ ∃ kv2, H' G = some (.dK kv2) ∧ DP (TieAt K H') kv2 (((w.ts.take m).map fun nt => (nt.1, turn y x nt.2)).filter fun nt => decide (nt.2.t ≠ nt.2.h)))
        ⟨Same.new hG, [], upd_same, by simp; exact .nil⟩ (fun i H' _ h => SqL.of (h.1 _ _ eD3)) ?_ ?_
      · rintro i v H4 H5 hi ⟨s4, kv2, eG, dp4⟩ ⟨rfl, hv⟩
        rw [List.length_map] at hi
        rw [List.getElem?_map, List.getElem?_eq_getElem hi] at hv
        cases hv
        obtain ⟨⟨n, t⟩, et, ta⟩ := Two.get dp3 (List.getElem?_eq_getElem hi)
        obtain ⟨⟨n0, t0⟩, et0, e0⟩ := Option.map_eq_some_iff.mp ((List.getElem?_map ..).symm.trans et)
        cases e0
        obtain ⟨dy, ta4⟩ := ta.same s4
        walk_at "go"
        refine ⟨rfl, ?_⟩
        have tk := take_map (f := fun nt => (nt.1, turn y x nt.2)) (show w.ts[i]? = some (n0, t0) from et0)
        walk_at "go"
        apply i_dec
        · intro e
          walk_at "go"
          refine ⟨s4, kv2, eG, ?_⟩
          rw [tk, List.filter_append]
          have ef : ([(n0, turn y x t0)] : Ts).filter (fun nt => decide (nt.2.t ≠ nt.2.h)) = [] := by
            rw [List.filter_cons, if_neg (by simpa using e)]; rfl
          show DP _ _ (_ ++ ([(n0, turn y x t0)] : Ts).filter (fun nt => decide (nt.2.t ≠ nt.2.h)))
          rw [ef, List.append_nil]
          exact dp4
        · intro e
          walk_at "go"
          refine ⟨kv2, Sum.inl n0, rfl, eG, ?_, Same.mut s4 hG, _, upd_same, ?_⟩
          · have l1 := dp4.len
            have l2 := List.length_filter_le (fun nt : Int × Ti => decide (nt.2.t ≠ nt.2.h)) ((w.ts.take i).map fun nt => (nt.1, turn y x nt.2))
            rw [List.length_map, List.length_take] at l2
            rw [l1, sizeLine_eq]; omega
          · rw [tk, List.filter_append]
            have ef : ([(n0, turn y x t0)] : Ts).filter (fun nt => decide (nt.2.t ≠ nt.2.h)) = [(n0, turn y x t0)] := by
              rw [List.filter_cons, if_pos (by simpa using e)]; rfl
            show DP _ _ (_ ++ ([(n0, turn y x t0)] : Ts).filter (fun nt => decide (nt.2.t ≠ nt.2.h)))
            rw [ef]
            have dp5 := put_new dp4 ⟨dy, ta4⟩ (fun z hz => by
              obtain ⟨z1, hz1, rfl⟩ := List.mem_map.mp (List.mem_filter.mp hz).1
              exact rise_take ok.rise et0 z1 hz1)
            exact dp5.mono fun _ _ _ r => r.other (r.ne eG (fun _ _ _ _ => by simp))
      · rintro H4 ⟨s4, kv2, eG, dp4⟩
        have hm : (List.map V.ref as).length = w.ts.length := by rw [List.length_map, hlen, List.length_map]
        rw [hm, List.take_length] at dp4
        have ep4 := s4 _ _ ep3
        walk_at "go"
        obtain ⟨b4, b5⟩ := b1.swapTies (dx := dx1) (s3.trans s4) eG dp4
        exact q _ G (.inr (free_keep b1 b2 (s3.free hG))) b4 (b2.trans b5 (.inl rfl))
end
end K18

set_option Elab.async false
set_option linter.all false
set_option maxRecDepth 100000
set_option maxHeartbeats 2000000
namespace K18
open PySem PySem.Spec PyProof.Rows L2 HX WB
local macro_rules | `(tactic| walk_at "side") => `(tactic| first
  | assumption
  | rfl
  | (show (0 : Int) < _; omega)
  | (unfold CDiv; omega)
  | (unfold CMul; omega)
  | (unfold CPow; omega)
  | (rw [sizeLine_eq]; omega)
  | omega)
local macro_rules | `(tactic| walk_at "e") => `(tactic| first
  | ((with_reducible apply i_var); exact rfl)
  | (with_reducible apply i_c)
  | (with_reducible apply i_op)
  | (with_reducible apply i_un)
  | (with_reducible apply i_rI0)
  | ((with_reducible apply i_rI); (case c => walk_at "side"))
  | (with_reducible apply i_rGe)
  | (with_reducible apply i_rGt)
  | (with_reducible apply i_rU)
  | (with_reducible apply i_rEqI)
  | (with_reducible apply i_rNeI)
  | (with_reducible apply i_rEqS)
  | (with_reducible apply i_rNeS)
  | (with_reducible apply i_rEqB)
  | (with_reducible apply i_rNeB)
  | (with_reducible apply i_rIsN)
  | (with_reducible apply i_rNotN)
  | (with_reducible apply i_rInS)
  | (with_reducible apply i_rNotInS)
  | ((with_reducible apply i_catS); (case c => walk_at "side"))
  | (with_reducible apply i_tcb)
  | (with_reducible apply i_nil)
  | (with_reducible apply i_cons)
  | ((with_reducible apply i_lenS); (case c => walk_at "side"))
  | ((with_reducible apply i_lenL); assumption)
  | (with_reducible apply i_abs)
  | (with_reducible apply i_max2)
  | (with_reducible apply i_min2)
  | ((with_reducible apply i_strI); (case c => walk_at "side"))
  | (with_reducible apply i_intB)
  | (with_reducible apply i_test)
  | (with_reducible apply i_tB)
  | (with_reducible apply i_kB)
  | (with_reducible apply i_and)
  | (with_reducible apply i_or)
  | (with_reducible apply i_not)
  | (with_reducible apply i_if)
  | (with_reducible apply i_andV)
  | (with_reducible apply i_orV)
  | (with_reducible apply i_notV)
  | (with_reducible apply i_kAndV)
  | (with_reducible apply i_kOrV)
  | (with_reducible apply i_kNotV)
  | (with_reducible apply i_chain)
  | (with_reducible apply i_kChain)
  | (with_reducible apply i_drop)
  | (with_reducible apply i_ret)
  | (with_reducible apply i_retN)
  | (with_reducible apply i_ifS)
  | (with_reducible apply i_asg)
  | (with_reducible apply i_gName)
  | (with_reducible apply i_for)
  | (with_reducible apply i_lc)
  | (with_reducible apply i_iList)
  | (with_reducible apply i_iTup)
  | (with_reducible apply i_iStr)
  | (with_reducible apply i_kStrI)
  | (with_reducible apply i_lst)
  | (with_reducible apply i_tup)
  | (with_reducible apply i_call)
  | (with_reducible apply i_m1)
  | (with_reducible apply i_kStr)
  | (with_reducible apply i_bm)
  | (with_reducible apply i_bm0)
  | (with_reducible apply i_part)
  | (with_reducible apply i_kInt)
  | (with_reducible apply i_noPart)
  | (with_reducible apply i_sl)
  | (with_reducible apply i_range1)
  | (with_reducible apply i_range2)
  | ((with_reducible apply i_kRng1); (case c => walk_at "side"))
  | ((with_reducible apply i_kRng2); (case c => walk_at "side"))
  | (with_reducible apply i_gCons)
  | (with_reducible apply i_gNil)
  | (with_reducible apply i_gSub)
  | (with_reducible apply i_iZip)
  | (with_reducible apply i_yes)
  | (with_reducible apply i_ift)
  | (with_reducible apply i_iff)
  | (with_reducible apply i_nb))
local macro_rules | `(tactic| walk_at "go") => `(tactic| repeat (first | (with_reducible apply i_seq) | (with_reducible apply i_next) | walk_at "e"))
local macro_rules | `(tactic| walk_at "ge") => `(tactic| repeat walk_at "e")
local macro_rules | `(tactic| walk_at "sz") => `(tactic| first | decide | (rw [sizeLine_eq]; simp; done) | (rw [sizeLine_eq]; omega))
local macro_rules | `(tactic| walk_at "side") => `(tactic| (with_reducible exact WB.most_pos))
local macro_rules | `(tactic| walk_at "e") => `(tactic| first
  | ((with_reducible apply i_isT (b := true)); exact rfl)
  | ((with_reducible apply i_isT (b := false)); exact rfl)
  | (with_reducible apply i_fld)
  | ((with_reducible apply i_kFld); (case h => assumption); (case c1 => assumption); (case c2 => assumption); (case e => first | exact lk_number | exact lk_tail | exact lk_head | exact lk_load | exact lk_oneway | exact lk_points | exact lk_ties | exact lk_given))
  | (with_reducible apply i_sfld)
  | ((with_reducible apply i_kSFld); (case h => first | assumption | exact upd_same); (case c1 => assumption); (case c2 => assumption); (case e => exact Nat.le_of_ble_eq_true rfl))
  | (with_reducible apply i_methC)
  | (with_reducible apply i_make)
  | (with_reducible apply i_fldaug)
  | (with_reducible apply i_vals)
  | (with_reducible apply i_items)
  | (with_reducible apply i_dget)
  | (with_reducible apply i_dput)
  | (with_reducible apply i_din)
  | (with_reducible apply i_dnotin)
  | (with_reducible apply i_ddel)
  | (with_reducible apply i_dc)
  | (with_reducible apply i_enum))
section
variable {P : Program} {w : World} {K : PySem.W.Frag} {mg : Str → Option Value} {base : Heap}
def sp_need_ties_at (K : PySem.W.Frag) : Sp := fun vs H Q _ => ∃ p l d w x a ns, vs = [.ref p, .str x, .ref a] ∧ WebAt K H p l d w ∧ H a = some (.lst ((ns : List Int).map V.int)) ∧ ns.Nodup ∧ ns.length ≤ 48 ∧ (∀ n ∈ ns, ∃ t, tget w.ts n = some t ∧ (t.t = x ∨ t.h = x)) ∧ ∀ H', Same H H' → Q .non H'
theorem ok_Web_need_ties_at (T : Tx K mg) : FnOk P w K mg base CX0 3 (He.ma K (He.ga K "Web") "_need_ties_at") T.fd_Web_need_ties_at ["self", "name", "numbers"] (sp_need_ties_at K) := by
  refine T.F_Web_need_ties_at.ok sc_Web_need_ties_at (fun vs H Q E h => ?_) (fun cdv A outer s H vs Q E hr h => ?_)
  · obtain ⟨_, _, _, _, _, _, _, rfl, _⟩ := h
    rfl
  · obtain ⟨p, l, d, w, x, a, ns, rfl, hw, ha, hnd, hl, hn, q⟩ := h
    have hu := hu_of hr
    refine ⟨_, PSs.nox (pss_cons (ps_if (pt_not (pt_val (pe_callB call_isi (by rfl) T.b_isinstance (by decide +kernel) (pa_cons (pv 2) (pa_cons (pe_bltn (v := .ty "list") rfl T.b_list (by decide +kernel) rfl) pa_nil))))) (pss_one ps_never) pss_nil)
      (pss_cons (ps_set (i := 3) sc_Web_need_ties_at.nd rfl (Or.inl rfl) (pe_callTy0 cr_set0 (by rfl) T.b_set (by decide +kernel)))
      (pss_one (ps_for PassesOwn.never rfl (pi_list (pv 2)) (pg_name (i := 4) sc_Web_need_ties_at.nd rfl (Or.inl rfl))
      (pss_cons (ps_expr (pe_meth (pv 0) T.cl_Web T.m_Web_need_tie (ok_Web_need_tie T) (hr.mono (by decide)) T.k_Web_need_tie .nil pass0 (pa_cons (pv 4) pa_nil)))
      (pss_cons (ps_set (i := 5) sc_Web_need_ties_at.nd rfl (Or.inl rfl) (pe_dget hu (pe_fld (pv 0) rfl) (pv 4) (fun _ _ => rfl)))
      (pss_cons (ps_if (PW.pt (pw_or (pt_cmpR op_notIn_seq (pv 1) (pe_tup (pa_cons (pe_fld (pv 5) rfl) (pa_cons (pe_fld (pv 5) rfl) pa_nil))) (by rfl)) (pw_or1 (pt_cmpR or_sin (pv 4) (pv 3) (by rfl))))) (pss_one ps_never) pss_nil)
      (pss_one (ps_expr (pe_sadd (pv 3) (pa_cons (pv 4) pa_nil))))))))))), ?_⟩
    have c1 := T.cl_Web
    have c3 := T.na_Web_ties
    have c4 := T.cl_Tie
    have c5 := T.na_Tie_tail
    have c6 := T.na_Tie_head
    walk_at "go"
    refine i_isL ha ?_
    walk_at "go"
    refine ⟨rfl, fun S hS => ?_⟩
    walk_at "go"
    have ha1 : (upd H S (SetO (cxOf CX0 P ‹World› K mg base N_Web_need_ties_at (Str.ofString "Web._need_ties_at") (defScope s_Web_need_ties_at) (He.ma K (He.ga K (Str.ofString "Web")) (Str.ofString "_need_ties_at")) cdv A outer s H E).w S (fun _ => false) 0)) a = some (.lst (ns.map V.int)) := (upd_ne (ne_of_none ha hS)).trans ha
    refine i_kListI (SqL.of ha1) ?_
    refine for_it walk_list (fun i σ H' => Same H H' ∧ (∃ g cnt, H' S = some (SetO (cxOf CX0 P ‹World› K mg base N_Web_need_ties_at (Str.ofString "Web._need_ties_at") (defScope s_Web_need_ties_at) (He.ma K (He.ga K (Str.ofString "Web")) (Str.ofString "_need_ties_at")) cdv A outer s H E).w S g cnt) ∧ (∀ j, g j = decide (j ∈ ns.take i)) ∧ cnt ≤ i) ∧ ∃ v u, σ = [some (.ref p), some (.str x), some (.ref a), some (.ref S), v, u])
      ⟨Same.new hS, ⟨_, 0, upd_same, fun j => by simp, Nat.le_refl _⟩, none, none, rfl⟩ (fun i σ H' _ h => SqL.of (h.1 _ _ ha)) ?_ ?_
    · rintro i v σ H2 H3 hi ⟨s2, ⟨g, cnt, eS, hg, hc⟩, v0, u0, rfl⟩ ⟨rfl, hv⟩
      rw [List.length_map] at hi
      rw [List.getElem?_map, List.getElem?_eq_getElem hi] at hv
      cases hv
      obtain ⟨t, ht, he⟩ := hn ns[i] (List.getElem_mem hi)
      have hw2 := hw.same s2
      obtain ⟨dx, ep⟩ := hw2.self
      obtain ⟨kvs, ed, hd⟩ := hw2.ties
      obtain ⟨b, eb, dy, tb⟩ := hd.get ht
      walk_at "go"
      refine i_kMethC ep rfl ?_
      walk_at "go"
      refine ⟨p, l, d, w, ns[i], t, rfl, hw2, ht, ?_⟩
      walk_at "go"
      refine i_kDGetI ed eb ?_
      walk_at "go"
      refine ⟨by walk_at "sz", fun p3 hp3 => ?_⟩
      refine i_inT (ys := [t.t, t.h]) (SqT.of upd_same) ?_
      have e : decide (x ∈ [t.t, t.h]) = true := by
        refine decide_eq_true ?_
        rcases he with he | he <;> simp [he]
      rw [e]
      show kB _ (.bl false) _
      walk_at "go"
      have eS3 : (upd H3 p3 (.tup [.str t.t, .str t.h])) S = some _ := (upd_ne (ne_of_none eS hp3)).trans eS
      have hni : ¬ ns[i] ∈ ns.take i := by
        intro m
        obtain ⟨k, hk, ek⟩ := List.mem_take_iff_getElem.mp m
        have := (List.getElem_inj hnd (h₀ := by omega) (h₁ := hi)).mp ek
        omega
      refine ⟨ns[i], S, g, cnt, rfl, rfl, eS3, ?_⟩
      rw [hg, decide_eq_false hni]
      walk_at "go"
      refine ⟨_, rfl, ⟨S, g, cnt, rfl, eS3⟩, ?_⟩
      walk_at "go"
      refine ⟨S, ns[i], g, cnt, rfl, rfl, eS3, by show cnt + 1 < 4096; omega, ?_⟩
      refine ⟨Same.mut (Same.mut s2 (s2.free hp3)) hS, ⟨_, _, upd_same, fun j => ?_, ?_⟩, _, _, rfl⟩
      · rw [List.take_add_one, List.getElem?_eq_getElem hi]
        show (g j || decide (j = ns[i])) = _
        rw [hg, ← Bool.decide_or]
        refine decide_eq_decide.mpr ?_
        rw [List.mem_append]
        exact Iff.intro (fun h => h.imp id (fun e => by simp [e])) (fun h => h.imp id (fun e => by simpa using e))
      · split <;> omega
    · rintro σ H2 ⟨s2, _, v0, u0, rfl⟩
      walk_at "go"
      exact q H2 s2
def sp_part (K : PySem.W.Frag) : Sp := fun vs H Q _ => ∃ p l d w x y a ns, vs = [.ref p, .str x, .str y, .ref a] ∧ WebAt K H p l d w ∧ Wok w ∧ x ∈ w.ps ∧ y ∉ w.ps ∧ isNm y = true ∧ w.ps.length < 16 ∧ H a = some (.lst ((ns : List Int).map V.int)) ∧ a ≠ l ∧ ns.Nodup ∧ ns.length ≤ 48 ∧ (∀ n ∈ ns, ∃ t, tget w.ts n = some t ∧ (t.t = x ∨ t.h = x)) ∧ ∀ H', WebAt K H' p l d (w.part x y ns) → Keep H H' p l d → Q .non H'
theorem ok_Web_part (T : Tx K mg) : FnOk P w K mg base CX0 5 (He.ma K (He.ga K "Web") "part") T.fd_Web_part ["self", "name", "other", "numbers"] (sp_part K) := by
  refine T.F_Web_part.ok sc_Web_part (fun vs H Q E h => ?_) (fun cdv A outer s H vs Q E hr h => ?_)
  · obtain ⟨_, _, _, _, _, _, _, _, rfl, _⟩ := h
    rfl
  · obtain ⟨p, l, d, w, x, y, a, ns, rfl, hw, ok, hx, hy, hny, hl16, ha, hal, hnd, hl, hn, q⟩ := h
    obtain ⟨dx, ep⟩ := hw.self
    have hu := hu_of hr
    refine ⟨_, PSs.nox (pss_cons (ps_expr (pe_meth (pv 0) T.cl_Web T.m_Web_need_point (ok_Web_need_point T) (hr.mono (by decide)) T.k_Web_need_point .nil pass0 (pa_cons (pv 1) pa_nil)))
      (pss_cons (ps_expr (pe_meth (pv 0) T.cl_Web T.m_Web_need_new_point (ok_Web_need_new_point T) (hr.mono (by decide)) T.k_Web_need_new_point .nil pass0 (pa_cons (pv 2) pa_nil)))
      (pss_cons (ps_expr (pe_meth (pv 0) T.cl_Web T.m_Web_need_ties_at (ok_Web_need_ties_at T) (hr.mono (by decide)) T.k_Web_need_ties_at .nil pass0 (pa_cons (pv 1) (pa_cons (pv 3) pa_nil))))
      (pss_cons (ps_expr (pe_bm PySem.F.plainAttrs_list PySem.F.slot_list_append PySem.F.type_list_append mt_append (pe_fld (pv 0) rfl) (pa_cons (pv 2) pa_nil)))
      (pss_one (ps_for PassesOwn.never rfl (pi_list (pv 3)) (pg_name (i := 4) sc_Web_part.nd rfl (Or.inl rfl))
      (pss_one (ps_dput hu (pe_fld (pv 0) rfl) (pv 4) (pe_call (ok_turned T) (hr.mono (by decide)) (by rfl) T.g_turned T.F_turned.kp T.k_turned .nil pass0 (pa_cons (pe_dget hu (pe_fld (pv 0) rfl) (pv 4) (fun _ _ => rfl)) (pa_cons (pv 1) (pa_cons (pv 2) pa_nil)))) rfl)))))))), ?_⟩
    have c1 := T.cl_Web
    have c2 := T.na_Web_points
    have c3 := T.na_Web_ties
    walk_at "go"
    refine i_kMethC ep rfl ?_
    walk_at "go"
    refine ⟨p, l, d, w, _, rfl, hw, hx, ok.nm _ hx, ?_⟩
    walk_at "go"
    refine i_kMethC ep rfl ?_
    walk_at "go"
    refine ⟨p, l, d, w, _, rfl, hw, hy, hny, hl16, ?_⟩
    walk_at "go"
    refine i_kMethC ep rfl ?_
    walk_at "go"
    refine ⟨p, l, d, w, x, a, ns, rfl, hw, ha, hnd, hl, hn, fun H1 s1 => ?_⟩
    have hw1 := hw.same s1
    have ha1 := s1 _ _ ha
    obtain ⟨dx1, ep1⟩ := hw1.self
    walk_at "go"
    refine i_kTyL (SqL.of hw1.pts) ?_
    walk_at "go"
    refine i_append hw1.pts ?_ (by rw [List.length_map, sizeLine_eq]; omega)
    have b := hw1.setPts (Same.refl H1) (ps := w.ps ++ [y])
    rw [List.map_append] at b
    obtain ⟨b1, b2⟩ := b
    have ha2 : (upd H1 l (.lst (w.ps.map V.str ++ [.str y]))) a = some (.lst (ns.map V.int)) := (upd_ne hal).trans ha1
    have ndp : a ≠ p := by
      rintro rfl
      rw [ep1] at ha1; cases ha1
    have ndd : a ≠ d := by
      rintro rfl
      obtain ⟨_, e, _⟩ := hw1.ties
      rw [e] at ha1; cases ha1
    walk_at "go"
    have b1' : WebAt K (upd H1 l (.lst (w.ps.map V.str ++ [.str y]))) p l d { ps := w.ps ++ [y], ts := w.ts.map fun nt => if nt.1 ∈ ns.take 0 then (nt.1, turn x y nt.2) else nt, g := w.g } := by
      have e : (w.ts.map fun nt => if nt.1 ∈ ns.take 0 then (nt.1, turn x y nt.2) else nt) = w.ts := by simp
      rw [e]; exact b1
    refine i_kListI (SqL.of ha2) ?_
    refine for_it walk_list (fun i σ H' => WebAt K H' p l d { ps := w.ps ++ [y], ts := w.ts.map fun nt => if nt.1 ∈ ns.take i then (nt.1, turn x y nt.2) else nt, g := w.g } ∧ Keep (upd H1 l (.lst (w.ps.map V.str ++ [.str y]))) H' p l d ∧ ∃ v, σ = [some (.ref p), some (.str x), some (.str y), some (.ref a), v])
      ⟨b1', Keep.rfl, none, rfl⟩ (fun i σ H' _ h => SqL.of (h.2.1 _ _ ndp hal ndd ha2)) ?_ ?_
    · rintro i v σ H2 H3 hi ⟨b3, k3, v0, rfl⟩ ⟨rfl, hv⟩
      rw [List.length_map] at hi
      rw [List.getElem?_map, List.getElem?_eq_getElem hi] at hv
      cases hv
      obtain ⟨t, ht, he⟩ := hn ns[i] (List.getElem_mem hi)
      have hni : ¬ ns[i] ∈ ns.take i := by
        intro m
        obtain ⟨k, hk, ek⟩ := List.mem_take_iff_getElem.mp m
        have := (List.getElem_inj hnd (h₀ := by omega) (h₁ := hi)).mp ek
        omega
      obtain ⟨g1, g2⟩ := part_step (x := x) (y := y) ok.rise ht hni
      obtain ⟨dx3, ep3⟩ := b3.self
      obtain ⟨kvs, ed, hd⟩ := b3.ties
      obtain ⟨b, eb, tb⟩ := hd.get g1
      walk_at "go"
      refine i_kDGetI ed eb ?_
      walk_at "go"
      refine ⟨b, ns[i], t, x, y, rfl, tb, fun b5 H4 s4 t5 hb5 => ?_⟩
      have b4 := b3.same s4
      obtain ⟨dx4, ep4⟩ := b4.self
      obtain ⟨kvs4, ed4, hd4⟩ := b4.ties
      walk_at "go"
      have hl4 := hd4.len
      have hl5 := ok.tl
      refine i_kDPutI ed4 (by rw [hl4, sizeLine_eq]; show (w.ts.map _).length < _; rw [List.length_map]; omega) ?_
      have hp := hd4.put t5
      rw [show ({ ps := w.ps ++ [y], ts := w.ts.map fun nt => if nt.1 ∈ ns.take i then (nt.1, turn x y nt.2) else nt, g := w.g } : Wb).ts = w.ts.map fun nt => if nt.1 ∈ ns.take i then (nt.1, turn x y nt.2) else nt from rfl, g2] at hp
      obtain ⟨b6, b7⟩ := b4.setTies (Same.refl H4) hp
      have et : ns.take (i + 1) = ns.take i ++ [ns[i]] := by rw [List.take_add_one, List.getElem?_eq_getElem hi]; rfl
      refine ⟨?_, (k3.trans (Keep.of s4) (.inl rfl)).trans b7 (.inl rfl), _, rfl⟩
      rw [et]
      exact b6
    · rintro σ H2 ⟨b3, k3, v0, rfl⟩
      walk_at "go"
      rw [List.length_map, List.take_length] at b3
      exact q H2 b3 (((Keep.of s1).trans b2 (.inl rfl)).trans k3 (.inl rfl))
end
end K18

set_option Elab.async false
set_option linter.all false
set_option maxRecDepth 100000
set_option maxHeartbeats 2000000
/-! HXl: a text some times over, slices by steps, sets of texts. -/
namespace L2
open PySem PySem.Spec PyProof.Rows
section
variable {X : Cx}
/-! ### s * k -/
def repS (z : Str) (n : Nat) : Str := ⟨(List.replicate n z.cps).foldl (fun a b => a ++ b) #[]⟩
theorem repS_tl (z : Str) : ∀ n : Nat, (repS z n).cps.toList = (List.replicate n z.cps.toList).flatten := by
  have g : ∀ (n : Nat) (acc : Array Nat), ((List.replicate n z.cps).foldl (fun a b => a ++ b) acc).toList = acc.toList ++ (List.replicate n z.cps.toList).flatten := by
    intro n
    induction n with
    | zero => intro acc; simp
    | succ n ih =>
      intro acc
      rw [List.replicate_succ, List.foldl_cons, ih, List.replicate_succ, List.flatten_cons, Array.toList_append, List.append_assoc]
  intro n
  have := g n #[]
  simpa [repS] using this
theorem repS_len (z : Str) (n : Nat) : (repS z n).length = n * z.length := by
  have e := congrArg List.length (repS_tl z n)
  have h1 : (repS z n).cps.toList.length = (repS z n).length := by simp [Str.length]
  have h2 : z.cps.toList.length = z.length := by simp [Str.length]
  rw [← h1, e, List.length_flatten, List.map_replicate, List.sum_replicate_nat, h2]
def rRepS : R2 := fun x y H Q => ∃ (z : Str) (k : Int), x = .str z ∧ y = .int k ∧ 1 ≤ k ∧ k ≤ 1000 ∧ 1 ≤ z.length ∧ z.length ≤ 100 ∧ Q (.str (repS z k.toNat)) H
theorem op_repS : OpR X (binaryOp .Mult) rRepS := by
  intro pins s σ H x y v u Q I rx ry h
  obtain ⟨z, k, rfl, rfl, k1, k2, z1, z2, q⟩ := h
  obtain ⟨t, rfl⟩ := rx
  obtain ⟨t2, rfl⟩ := ry
  have small : z.length * k.toNat ≤ 100 * 1000 := Nat.mul_le_mul z2 (by omega)
  refine PySem.P.mul_str ?_ (fun _ _ => ?_) (fun _ _ => ?_) ?_
  · have a1 : ¬ k < -(2 ^ 63 : Int) := by omega
    have a2 : ¬ k ≥ 2 ^ 63 := by omega
    rw [decide_eq_false a1, decide_eq_false a2]; rfl
  · have d : (2 ^ 63 - 1 : Int) / 1000 ≤ (2 ^ 63 - 1) / k := by
      have e1 : (2 ^ 63 - 1 : Int) / 1000 * k ≤ (2 ^ 63 - 1 : Int) / 1000 * 1000 := Int.mul_le_mul_of_nonneg_left k2 (by decide)
      have e2 : (2 ^ 63 - 1 : Int) / 1000 * 1000 ≤ 2 ^ 63 - 1 := by decide
      exact (Int.le_ediv_iff_mul_le (by omega)).mpr (Int.le_trans e1 e2)
    have e3 : (100 : Int) ≤ (2 ^ 63 - 1 : Int) / 1000 := by decide
    omega
  · exact decide_eq_false (by rw [sizeLine_eq]; omega)
  · have k3 : ¬ k < 1 := by omega
    rw [if_neg k3]
    by_cases c : (k == 1 || z.length == 0) = true
    · rw [if_pos c]
      have ek : k = 1 := by
        rcases Bool.or_eq_true_iff.mp c with c | c
        · simpa using c
        · have : z.length = 0 := by simpa using c
          omega
      subst ek
      have ez : repS z (1 : Int).toNat = z := by
        show (⟨#[] ++ z.cps⟩ : Str) = z
        rw [Array.empty_append]
      rw [ez] at q
      exact ⟨.str z, H, I, ⟨_, rfl⟩, q⟩
    · rw [if_neg c]
      refine ⟨?_, .str (repS z k.toNat), H, I.tok _, ⟨_, rfl⟩, q⟩
      show (repS z k.toNat).length ≤ sizeLine
      rw [repS_len, sizeLine_eq, Nat.mul_comm]
      omega
theorem i_rRepS {H : Hp} {z : Str} {k : Int} {Q : VK} (k1 : 1 ≤ k) (k2 : k ≤ 1000) (z1 : 1 ≤ z.length) (z2 : z.length ≤ 100) (q : Q (.str (repS z k.toNat)) H) : rRepS (.str z) (.int k) H Q := ⟨z, k, rfl, rfl, k1, k2, z1, z2, q⟩
/-! ### xs[i::k] -/
def Picked {α : Type} (xs ys : List α) : Prop := ∃ js : List Nat, js.Pairwise (· < ·) ∧ ys = js.filterMap (xs[·]?)
theorem vals_pick {xs : List V} {its : List Value} (r : Vals xs its) : ∀ js : List Nat, Vals (js.filterMap (xs[·]?)) (js.filterMap (its[·]?))
  | [] => .nil
  | j :: js => by
    have hl := r.length
    rw [List.filterMap_cons, List.filterMap_cons]
    rcases Nat.lt_or_ge j xs.length with h | h
    · obtain ⟨u, e2, rv⟩ := r.get (List.getElem?_eq_getElem h)
      rw [List.getElem?_eq_getElem h, e2]
      exact .cons rv (vals_pick r js)
    · rw [List.getElem?_eq_none_iff.mpr h, List.getElem?_eq_none_iff.mpr (by omega)]
      exact vals_pick r js
theorem pick_len {α : Type} (xs : List α) : ∀ (js : List Nat) (m : Nat), js.Pairwise (· < ·) → (∀ j ∈ js, m ≤ j) → (js.filterMap (xs[·]?)).length ≤ xs.length - m
  | [], m, _, _ => Nat.zero_le _
  | j :: js, m, h, hm => by
    obtain ⟨h1, h2⟩ := List.pairwise_cons.mp h
    have hj := hm j (List.mem_cons_self ..)
    have ih := pick_len xs js (j + 1) h2 (fun i hi => h1 i hi)
    rw [List.filterMap_cons]
    rcases Nat.lt_or_ge j xs.length with c | c
    · rw [List.getElem?_eq_getElem c]
      simp only [List.length_cons]
      omega
    · rw [List.getElem?_eq_none_iff.mpr c]
      simp only
      omega
theorem range_rise {a b k : Int} (h0 : 0 ≤ a) (hk : 0 < k) : (sliceRange a b k).Pairwise (· < ·) := by
  unfold sliceRange
  refine List.pairwise_map.mpr (List.Pairwise.imp ?_ List.pairwise_lt_range)
  intro i j hij
  have : k * (i : Int) < k * (j : Int) := Int.mul_lt_mul_of_pos_left (by omega) hk
  have : 0 ≤ k * (i : Int) := Int.mul_nonneg (by omega) (by omega)
  omega
theorem pick_rise (items : Array Value) {i k : Int} (hk : 0 < k) : ∃ js : List Nat, js.Pairwise (· < ·) ∧ slicePick items (some i) none (some k) = (js.filterMap (items[·]?)).toArray := by
  refine ⟨sliceRange (sliceBounds (some i) none (some k) items.size).1 (sliceBounds (some i) none (some k) items.size).2.1 k, range_rise ?_ hk, ?_⟩
  · show (0 : Int) ≤ (if k > 0 then max 0 (min (if i < 0 then i + (items.size : Int) else i) (items.size : Int)) else max (-1) (min (if i < 0 then i + (items.size : Int) else i) ((items.size : Int) - 1)))
    rw [if_pos hk]
    exact Int.le_max_left ..
  · rfl
def kStepLo (K : PySem.W.Frag) (x : V) (Q : VK) (ol : Option Int) : Option Int → Hp → Prop := fun o H2 => ∃ a xs i k, x = .ref a ∧ ol = some i ∧ o = some k ∧ SqL K H2 a xs ∧ 0 < k ∧ ∀ p ys, Picked xs ys → H2 p = none → Q (.ref p) (upd H2 p (.lst ys))
def tStepLo (K : PySem.W.Frag) (te : TE) (tl tk : TO) : TE := fun σ H Q => te σ H fun x H1 => tl σ H1 fun ol H2 => tk σ H2 (kStepLo K x Q ol)
theorem i_stepLo {K : PySem.W.Frag} {te : TE} {tl tk : TO} {σ : L2.St} {H : Hp} {Q : VK} (q : te σ H fun x H1 => tl σ H1 fun ol H2 => tk σ H2 (kStepLo K x Q ol)) : tStepLo K te tl tk σ H Q := q
theorem i_kStepLo {K : PySem.W.Frag} {H : Hp} {Q : VK} {a : Addr} {xs : List V} {i k : Int} (h : SqL K H a xs) (hk : 0 < k) (q : ∀ p ys, Picked xs ys → H p = none → Q (.ref p) (upd H p (.lst ys))) : kStepLo K (.ref a) Q (some i) (some k) H :=
  ⟨a, xs, i, k, rfl, rfl, rfl, h, hk, q⟩
theorem pe_stepLo {e el ek : Expr} {te tl tk : TE} {p3 pos : Pos} (he : PE X e te) (hl : PE X el tl) (hk : PE X ek tk) : PE X (.Subscript e (.Slice (some el) none (some ek) p3) pos) (tStepLo X.K te (tPart tl) (tPart tk)) := by
  refine ⟨fun pins s σ H Q I h => Subscript_ (thn (he.run pins s σ H _ I h) fun v s1 ⟨x, H1, I1, r1, q1⟩ => ?_)⟩
  refine wpAny_Slice (thn ((po_some hl : PO X (some el) (tPart tl)).run pins s1 σ H1 _ I1 q1) fun vl s2 ⟨ol, H2, I2, pl, q2⟩ => ?_)
  refine thn (po_none.run pins s2 σ H2 (fun o H3 => o = none ∧ H3 = H2) I2 ⟨rfl, rfl⟩) fun vu s3 ⟨u, H3, I3, pu, eu, e3⟩ => ?_
  subst eu e3
  refine thn ((po_some hk : PO X (some ek) (tPart tk)).run pins s3 σ H3 _ I3 q2) fun vs s4 ⟨o, H4, I4, ps, a, xs, i, k, ex, el', eo, hx, k0, q⟩ => ?_
  subst eo ex el'
  obtain rfl : v = Value.ref a := r1
  have I5 : Inv X pins σ H4 { s4 with heap := s4.heap.push { cls := .type "slice", data := .fields #[vl, vu, vs] } } := I4.kept (t' := s4.toks) fun b ob q => Heap.get?_push_of_some _ q
  obtain ⟨its, r, ht, hz⟩ := I5.list hx
  have hlen := r.length
  show wpAny (model X.prog X.w) X.A (subscriptTail e (.Slice (some el) none (some ek) p3) (.ref a) (.ref s4.heap.objs.size)) (EP X pins σ Q) X.xe { s4 with heap := s4.heap.push { cls := .type "slice", data := .fields #[vl, vu, vs] } }
  refine tail_any (ops := [.ref a, .ref s4.heap.objs.size]) ht.isList.typeIs (PySem.slot_list_getitem.lookup) ?_ (by with_unfolding_all rfl)
  refine wpAny_getItem_list_slice ht.isList (Heap.IsSliceOf.new _ vl vu vs) pl pu ps (fun c => by cases c; exact absurd k0 (by decide)) ?_ (by rw [List.size_toArray]; omega)
  obtain ⟨js, hj, ej⟩ := pick_rise its.toArray (i := i) k0
  have ej2 : js.filterMap (its.toArray[·]?) = js.filterMap (its[·]?) := by congr 1; funext j; simp
  rw [ej, ej2]
  have rp := vals_pick r js
  refine ⟨.ref _, _, I5.laid (t' := s4.toks) (o := .lst (js.filterMap (xs[·]?))) (fun b ob q => Heap.get?_push_of_some _ q) (Nat.le_refl _) ?_, rfl, q _ _ ⟨js, hj, rfl⟩ (I5.hok.fresh (Nat.le_refl _))⟩
  exact ⟨Nat.le_trans (by simpa using pick_len xs js 0 hj (fun _ _ => Nat.zero_le _)) hz, _, 0, rp, Heap.get?_push_size _ rfl⟩
end
end L2

set_option Elab.async false
set_option linter.all false
set_option maxRecDepth 100000
set_option maxHeartbeats 3200000
/-! HXs: how many unlike texts a list has, where all are unlike. -/
namespace L2
open PySem PySem.Spec PyProof.Rows
section
variable {prog : Program} {w : World} {A : Around} {E : Value → Shared → Prop} {s : Shared}
/-- the first i texts -/
abbrev upTo (xs : List Str) (i : Nat) : Str → Bool := fun z => decide (z ∈ xs.take i)
theorem upTo_next {xs : List Str} {i : Nat} (h : i < xs.length) (z : Str) : (upTo xs i z || decide (z = xs.getD i Str.empty)) = upTo xs (i + 1) z := by
  have e : xs.getD i Str.empty = xs[i] := by rw [List.getD_eq_getElem?_getD, List.getElem?_eq_getElem h]; rfl
  unfold upTo
  rw [e, ← Bool.decide_or, List.take_add_one, List.getElem?_eq_getElem h]
  exact decide_eq_decide.mpr (by rw [List.mem_append]; simp only [Option.toList_some, List.mem_singleton])
theorem upTo_new {xs : List Str} (nd : xs.Nodup) {i : Nat} (h : i < xs.length) : upTo xs i (xs.getD i Str.empty) = false := by
  have e : xs.getD i Str.empty = xs[i] := by rw [List.getD_eq_getElem?_getD, List.getElem?_eq_getElem h]; rfl
  refine decide_eq_false fun m => ?_
  rw [e] at m
  obtain ⟨k, hk, ek⟩ := List.mem_take_iff_getElem.mp m
  have := (List.getElem_inj nd (h₀ := by omega) (h₁ := h)).mp ek
  omega
theorem texts_in {R : Result → Shared → Prop} {I T : Addr} {fp wr : List Addr} {G : Array GenState → Array GenState → Prop} {P : Nat → Value → Prop} {St : Nat → Shared → Prop} {xs : List Str}
    (W : WalksS prog w A.in1 I fp wr G xs.length P St) (apart : T ∉ fp) (nd : xs.Nodup) (few : xs.length ≤ 4000) (txt : ∀ i v, P i v → ∃ t, v = .str (xs.getD i Str.empty) t)
    (fin : ∀ s', Moved (T :: wr) G s s' → s'.heap.SetOf (PySem.strKind prog w) T (upTo xs xs.length) xs.length → R (.ok (.ret .none)) s') (h0 : St 0 s) (hT : s.heap.SetOf (PySem.strKind prog w) T (upTo xs 0) 0) :
    codeAny (model prog w) A (.builtin "set.update.loop" ⟨[.ref T, .ref I], []⟩) R s := by
  have off : T ∉ wr := fun m => apart (W.sub _ m)
  have wide : ∀ b ∈ wr, b ∈ T :: wr := fun _ m => List.mem_cons_of_mem _ m
  have all : ∀ (left i : Nat) (s : Shared), i + left = xs.length → St i s → s.heap.SetOf (PySem.strKind prog w) T (upTo xs i) i →
      (∀ s', Moved (T :: wr) G s s' → s'.heap.SetOf (PySem.strKind prog w) T (upTo xs xs.length) xs.length → R (.ok (.ret .none)) s') → codeAny (model prog w) A (.builtin "set.update.loop" ⟨[.ref T, .ref I], []⟩) R s := by
    intro left
    induction left with
    | zero =>
      intro i s e hi hS q
      obtain rfl : i = xs.length := by omega
      refine codeAny_builtin PyProof.Rows.F.entry_set_update_loop (?_ : _)
      rw [Around.under_plainId PyProof.Rows.F.plain_set_update_loop _]
      show wpAny (model prog w) A.in1 (pyNext (.ref I) >>= _) _ _ s
      refine wpAny_bind (W.done s _ _ hi fun t mv => (wpAny_pure (q t (mv.mono wide) ?_) : wpAny (model prog w) A.in1 (ret Value.none) _ _ t))
      obtain ⟨o, es, ep, tb, ho, more⟩ := hS
      exact ⟨o, es, ep, tb, mv.heap T _ off ho, more⟩
    | succ left ih =>
      intro i s e hi hS q
      have lt : i < xs.length := by omega
      refine codeAny_builtin PyProof.Rows.F.entry_set_update_loop (?_ : _)
      rw [Around.under_plainId PyProof.Rows.F.plain_set_update_loop _]
      show wpAny (model prog w) A.in1 (pyNext (.ref I) >>= _) _ _ s
      refine wpAny_bind (W.item i s _ _ lt hi fun v t hv ht mv => ?_)
      obtain ⟨tk, rfl⟩ := txt i v hv
      have hS2 : t.heap.SetOf (PySem.strKind prog w) T (upTo xs i) i := by
        obtain ⟨o, es, ep, tb, ho, more⟩ := hS
        exact ⟨o, es, ep, tb, mv.heap T _ off ho, more⟩
      generalize ez : xs.getD i Str.empty = z
      show wpAny (model prog w) A.in1 (holding [Value.str z tk] (setAdd T (.str z tk)) >>= _) _ _ t
      refine wpAny_bind (wpAny_holding (?_ : _))
      unfold setAdd
      refine wpAny_holding (wpAny_bind ((PySem.strKind prog w).pyHash (k := z) (strKind_is _ _ _ _) ?_))
      refine wpAny_setAddHashed_of (knd := PySem.strKind prog w) (s := { t with toks := t.toks + 1 }) (strKind_is _ _ _ _) rfl hS2 (by unfold scanBound; omega) fun h2 but hS3 => ?_
      have new : upTo xs i z = false := by rw [← ez]; exact upTo_new nd lt
      have hS4 : h2.SetOf (PySem.strKind prog w) T (upTo xs (i + 1)) (i + 1) := SetOf_congr hS3 (fun y => by rw [← upTo_next lt, ez]) (by rw [new]; rfl)
      refine wpAny_pure ⟨plainId_quiet PyProof.Rows.F.plain_set_update_loop _, ih (i + 1) _ (by omega) (W.frame _ t _ _ ht (Nat.le_succ _) fun b hb o eb => (but.2 b (fun c => apart (c ▸ hb))).trans eb) hS4 fun t2 mv2 hS5 => ?_⟩
      exact q t2 (Moved.trans W.gtrans ((mv.mono wide).then_heap (Nat.le_succ _) fun b o hb eb => (but.2 b (fun c => hb (c ▸ List.mem_cons_self))).trans eb) mv2) hS5
  exact all xs.length 0 s (Nat.zero_add _) h0 hT fin
/-- an empty set, as it is made -/
abbrev emptyS (led : Bool) : Obj := { cls := .type "set", dict := none, data := .set #[] 0 (.fresh 0 0 led) }
/-- the set of a list of unlike texts -/
theorem set_of_texts {l : Addr} {its : Array Value} {xs : List Str} {Q : Value → Shared → Prop} (calm : A.handled = none) (hl : s.heap.IsList l its) (ht : StrsAre its.toList xs) (nd : xs.Nodup) (few : xs.length ≤ 4000)
    (q : ∀ (h' : Heap) (tk : Nat), h'.SetOf (PySem.strKind prog w) s.heap.objs.size (upTo xs xs.length) xs.length → (∀ b o, b < s.heap.objs.size → s.heap.get? b = some o → h'.get? b = some o) → Q (.ref s.heap.objs.size) { s with heap := h', toks := tk }) :
    wpAny (model prog w) A (call (.type "set") [.ref l]) Q E s := by
  have size : its.size = xs.length := by rw [← StrsAre.len_eq ht, Array.length_toList]
  obtain ⟨c, tl, m1⟩ := PySem.F.called_set.mro
  have m2 := PySem.F.called_set.made
  have m3 := PySem.F.called_set.sub
  refine wpAny_call (codeAny_of_tree (?_ : wpAny _ _ (callAny (.type "set") _) _ _ _))
  refine wpAny_pure ⟨Code.quiet_builtin _ (by decide +kernel), codeAny_builtin PySem.F.entry_type_call (?_ : _)⟩
  rw [Around.under_plain (weight_type_call_type "set" [.ref l] []) rfl]
  have m4 := PySem.F.called_set.notType
  have m5 := PySem.F.called_set.canCreate
  have m6 := PySem.F.typeCall_set_1 (.ref l)
  repeat (any_goals (first | assumption | wp_step))
  refine codeAny_mono (code_set_new_1 (.ref l) (E := E) (Q₁ := fun made t => ∃ led : Bool, made = .ref s.heap.objs.size ∧ t = { s with heap := s.heap.push (emptyS led) }) fun led => ⟨led, rfl, rfl⟩) fun r t hr => ?_
  rcases r with e | fl
  · exact hr
  rcases fl with made | _ | _ | _
  rotate_left
  all_goals first | exact hr.elim | skip
  obtain ⟨led, rfl, rfl⟩ := hr
  have at' : (s.heap.push (emptyS led)).get? s.heap.objs.size = some (emptyS led) := Heap.get?_push_size _ rfl
  have ty : Shared.TypeIs { s with heap := s.heap.push (emptyS led) } (.ref s.heap.objs.size) "set" := ⟨_, at', rfl⟩
  have m7 := PySem.F.called_set.init.lookup
  have m8 := PySem.F.called_set.init.bind (.ref s.heap.objs.size)
  repeat (any_goals (first | assumption | wp_step))
  refine codeAny_mono (codeAny_call_builtin (R := wants (fun r t => r = .none ∧ ∃ h' tk, t = { s with heap := h', toks := tk } ∧ h'.SetOf (PySem.strKind prog w) s.heap.objs.size (upTo xs xs.length) xs.length ∧
      (∀ b o, b < s.heap.objs.size → s.heap.get? b = some o → h'.get? b = some o)) E) PySem.F.called_set.init.plain PySem.F.entry_set_init (check_set_init_1 ty (?_ : _))) fun r t hr => ?_
  · obtain ⟨⟨oc, od, oda, os⟩, ho, hc, n, hd⟩ := hl
    dsimp only at hc hd
    subst hc hd
    have ho2 : (s.heap.push (emptyS led)).get? l = some { cls := .type "list", dict := od, data := .seq its n, slots := os } := Heap.get?_push_of_some _ ho
    have n1 := PySem.F.sub_list_set
    have n2 := PySem.F.sub_list_frozenset
    have n3 : (Value.type "list" == Value.type "dict") = false := by decide
    have hl1 : (s.heap.push (emptyS led)).IsList l its := ⟨_, ho2, rfl, n, rfl⟩
    unfold Builtin.«set.__init__» noKeywords Builtin.Frozenset.updateFrom
    generalize ep : pyIter = pit
    wp_walk
    subst ep
    have lt : l < s.heap.objs.size := Heap.lt_size ho
    have lS : (s.heap.push (emptyS led)).objs.size = s.heap.objs.size + 1 := Heap.size_push ..
    refine wpAny_pyIter_list hl1 (wpAny_bind (wpAny_runValue ?_))
    have key : ∀ (i : Nat) (v : Value), its[i]? = some v → ∃ t, v = .str (xs.getD i Str.empty) t := fun i v hv => SS.strs_at ht i v (by rw [Array.getElem?_toList]; exact hv)
    have walk := (Walks.list (prog := prog) (w := w) (A := A.in1.in1.in1) (by simp [calm]) (s.heap.push (emptyS led)).objs.size l (by rw [lS]; exact Nat.ne_of_lt (Nat.lt_succ_of_lt lt)) its).toS
    rw [size] at walk
    refine texts_in walk (by rw [lS]; simp only [List.mem_cons, List.not_mem_nil, or_false, not_or]; exact ⟨Nat.ne_of_lt (Nat.lt_succ_self _), Nat.ne_of_gt lt⟩) nd few key (fun t mv hS => ?_) ⟨⟨_, Heap.get?_push_size _ rfl, rfl, rfl⟩, hl1.push _⟩ ?_
    · obtain ⟨h', g', d', tk', os'⟩ := t
      obtain rfl : g' = s.gens := mv.gens
      obtain rfl : d' = s.drawn := mv.drawn
      obtain rfl : os' = s.os := mv.os
      show wpAny (model prog w) _ _ _ _ _
      refine wpAny_pure ?_
      show wpAny (model prog w) _ (ret Value.none) _ _ _
      refine wpAny_pure ⟨rfl, h', tk', rfl, hS, fun b o hb eb => mv.heap b o (by rw [lS]; simp only [List.mem_cons, List.not_mem_nil, or_false, not_or]; exact ⟨Nat.ne_of_lt hb, Nat.ne_of_lt (Nat.lt_succ_of_lt hb)⟩) (Heap.get?_push_of_some _ (Heap.get?_push_of_some _ eb))⟩
    · exact SetOf_congr ((PyProof.Rows.setObjOf_fresh (knd := PySem.strKind prog w) led).setOf (Heap.get?_push_of_some _ at') (by unfold scanBound; omega)) (fun z => by simp [upTo]) rfl
  · rcases r with e | fl
    · exact hr
    rcases fl with made | _ | _ | _
    rotate_left
    all_goals first | exact hr.elim | skip
    obtain ⟨rfl, h', tk, rfl, hS, keep⟩ := hr
    repeat (any_goals (first | assumption | wp_step))
    exact q _ _ hS keep
end
/-! ### len(set(xs)) -/
section
variable {X : Cx}
def tLenSetT (K : PySem.W.Frag) (ta : TE) : TE := fun σ H Q => ta σ H fun x H1 => ∃ (l : Addr) (xs : List Str), x = .ref l ∧ SqL K H1 l (xs.map V.str) ∧ xs.Nodup ∧ xs.length ≤ 4000 ∧ Q (.int (xs.length : Nat)) H1
theorem i_lenSetT {K : PySem.W.Frag} {ta : TE} {σ : L2.St} {H : Hp} {Q : VK} (q : ta σ H fun x H1 => ∃ (l : Addr) (xs : List Str), x = .ref l ∧ SqL K H1 l (xs.map V.str) ∧ xs.Nodup ∧ xs.length ≤ 4000 ∧ Q (.int (xs.length : Nat)) H1) : tLenSetT K ta σ H Q := q
theorem pe_lenSetT {a : Expr} {ta : TE} {p p2 q pos : Pos} (hg : Gl X "len") (hm : X.mg "len" = none) (hg2 : Gl X "set") (hm2 : X.mg "set" = none) (ha : PE X a ta) (hc : X.calm = true := by rfl)
    (na : starEach [a] X.env = (false, eval a X.env) :: starEach [] X.env := by rfl) : PE X (.Call (.Name "len" p) [.Call (.Name "set" p2) [a] [] q] [] pos) (tLenSetT X.K ta) :=
  ⟨fun pins s σ H Q I h => Call_ (ld_blt I hg hm boot_len (PyProof.Rows.callWith_builtin1 (PyProof.Rows.args_cons (Call_ (ld_blt I hg2 hm2 boot_set (PyProof.Rows.callWith_type1 (PyProof.Rows.args_cons
    (thn (ha.run pins s σ H _ I h) fun v s1 ⟨x, H1, I1, r1, q1⟩ => PyProof.Rows.args_nil (by
      obtain ⟨l, xs, rfl, hq, nd, few, q1⟩ := q1
      obtain rfl : v = Value.ref l := r1
      obtain ⟨its, r, pl, hz⟩ := I1.list hq
      refine set_of_texts (its := its.toArray) (I1.ok.hd hc) pl.isList (by simpa using strsAre_of r) nd few fun h' tk hS hk => PyProof.Rows.args_nil ?_
      obtain ⟨o, es, ep, t, ho, hex, hd, _, _, _, hf, hn⟩ := hS
      have I2 : Inv X pins σ H1 { s1 with heap := h', toks := tk } := I1.kept fun b o e => hk b o (Heap.lt_size e) e
      exact call_len_set ho hex hd hf (by rw [hn]; omega) ⟨.int (xs.length : Nat), H1, I2.tok _, ⟨_, by rw [hn]⟩, q1⟩)) na) na rfl))) rfl) rfl rfl))⟩
end
end L2

set_option Elab.async false
set_option linter.all false
set_option maxRecDepth 100000
set_option maxHeartbeats 2000000
/-! HXf: readings of texts put together. -/
namespace HX
open PySem PySem.Spec PyProof.Rows L2
section
variable {X : Cx} {σ : L2.St} {H : Hp} {Q : VK}
def tJoin (ts : List TE) : TE := fun σ H Q => tJs ts Str.empty σ H (fun out H1 => Q (.str out) H1)
theorem pe_join {v1 v2 : Expr} {rest : List Expr} {ts : List TE} {pos : Pos} (h : PJ X (v1 :: v2 :: rest) ts) : PE X (.JoinedStr (v1 :: v2 :: rest) pos) (tJoin ts) := pe_joined h
def kJ (ts : List TE) (acc : Str) (σ : L2.St) (R : Str → Hp → Prop) : VK := fun x H1 => ∃ y : Str, x = .str y ∧ (acc ++ y).length ≤ sizeLine ∧ tJs ts (acc ++ y) σ H1 R
def kF (Q : VK) : VK := fun x H1 => (∃ y : Str, x = .str y ∧ y.length ≤ sizeLine ∧ Q (.str y) H1) ∨ ∃ i : Int, x = .int i ∧ i.natAbs.log2 < 1920 ∧ Q (.str (toString i)) H1
theorem i_tJoin {ts : List TE} (q : tJs ts Str.empty σ H (fun out H1 => Q (.str out) H1)) : tJoin ts σ H Q := q
theorem i_tJsC {t : TE} {ts : List TE} {acc : Str} {R : Str → Hp → Prop} (q : t σ H (kJ ts acc σ R)) : tJs (t :: ts) acc σ H R := q
theorem i_tJsN {acc : Str} {R : Str → Hp → Prop} (q : R acc H) : tJs [] acc σ H R := q
theorem i_kJ {ts : List TE} {acc y : Str} {R : Str → Hp → Prop} (c : (acc ++ y).length ≤ sizeLine) (q : tJs ts (acc ++ y) σ H R) : kJ ts acc σ R (.str y) H := ⟨y, rfl, c, q⟩
theorem i_tFmt {te : TE} (q : te σ H (kF Q)) : tFmt te σ H Q := q
theorem i_kFS {y : Str} (c : y.length ≤ sizeLine) (q : Q (.str y) H) : kF Q (.str y) H := .inl ⟨y, rfl, c, q⟩
theorem len_e : Str.empty.length = 0 := rfl
theorem len_b : (" " : Str).length = 1 := by decide +kernel
theorem len_p : ("point " : Str).length = 6 := by decide +kernel
theorem len_g : ("given " : Str).length = 6 := by decide +kernel
theorem i_lenSetC {K : PySem.W.Frag} {ta : TE} (q : ta σ H fun x H1 => ∃ (l : Addr) (xs : List Str), x = .ref l ∧ SqL K H1 l (xs.map V.str) ∧ xs.Nodup ∧ xs.length ≤ 4000 ∧ Q (.int (xs.length : Nat)) H1) : tLenSetT K ta σ H Q := q
end
end HX

set_option Elab.async false
set_option linter.all false
set_option maxRecDepth 100000
set_option maxHeartbeats 2000000
namespace K18
open PySem PySem.Spec PyProof.Rows L2 HX WB
local macro_rules | `(tactic| walk_at "side") => `(tactic| first
  | assumption
  | rfl
  | (show (0 : Int) < _; omega)
  | (unfold CDiv; omega)
  | (unfold CMul; omega)
  | (unfold CPow; omega)
  | (rw [sizeLine_eq]; omega)
  | omega)
local macro_rules | `(tactic| walk_at "e") => `(tactic| first
  | ((with_reducible apply i_var); exact rfl)
  | (with_reducible apply i_c)
  | (with_reducible apply i_op)
  | (with_reducible apply i_un)
  | (with_reducible apply i_rI0)
  | ((with_reducible apply i_rI); (case c => walk_at "side"))
  | (with_reducible apply i_rGe)
  | (with_reducible apply i_rGt)
  | (with_reducible apply i_rU)
  | (with_reducible apply i_rEqI)
  | (with_reducible apply i_rNeI)
  | (with_reducible apply i_rEqS)
  | (with_reducible apply i_rNeS)
  | (with_reducible apply i_rEqB)
  | (with_reducible apply i_rNeB)
  | (with_reducible apply i_rIsN)
  | (with_reducible apply i_rNotN)
  | (with_reducible apply i_rInS)
  | (with_reducible apply i_rNotInS)
  | ((with_reducible apply i_catS); (case c => walk_at "side"))
  | (with_reducible apply i_tcb)
  | (with_reducible apply i_nil)
  | (with_reducible apply i_cons)
  | ((with_reducible apply i_lenS); (case c => walk_at "side"))
  | ((with_reducible apply i_lenL); assumption)
  | (with_reducible apply i_abs)
  | (with_reducible apply i_max2)
  | (with_reducible apply i_min2)
  | ((with_reducible apply i_strI); (case c => walk_at "side"))
  | (with_reducible apply i_intB)
  | (with_reducible apply i_test)
  | (with_reducible apply i_tB)
  | (with_reducible apply i_kB)
  | (with_reducible apply i_and)
  | (with_reducible apply i_or)
  | (with_reducible apply i_not)
  | (with_reducible apply i_if)
  | (with_reducible apply i_andV)
  | (with_reducible apply i_orV)
  | (with_reducible apply i_notV)
  | (with_reducible apply i_kAndV)
  | (with_reducible apply i_kOrV)
  | (with_reducible apply i_kNotV)
  | (with_reducible apply i_chain)
  | (with_reducible apply i_kChain)
  | (with_reducible apply i_drop)
  | (with_reducible apply i_ret)
  | (with_reducible apply i_retN)
  | (with_reducible apply i_ifS)
  | (with_reducible apply i_asg)
  | (with_reducible apply i_gName)
  | (with_reducible apply i_for)
  | (with_reducible apply i_lc)
  | (with_reducible apply i_iList)
  | (with_reducible apply i_iTup)
  | (with_reducible apply i_iStr)
  | (with_reducible apply i_kStrI)
  | (with_reducible apply i_lst)
  | (with_reducible apply i_tup)
  | (with_reducible apply i_call)
  | (with_reducible apply i_m1)
  | (with_reducible apply i_kStr)
  | (with_reducible apply i_bm)
  | (with_reducible apply i_bm0)
  | (with_reducible apply i_part)
  | (with_reducible apply i_kInt)
  | (with_reducible apply i_noPart)
  | (with_reducible apply i_sl)
  | (with_reducible apply i_range1)
  | (with_reducible apply i_range2)
  | ((with_reducible apply i_kRng1); (case c => walk_at "side"))
  | ((with_reducible apply i_kRng2); (case c => walk_at "side"))
  | (with_reducible apply i_gCons)
  | (with_reducible apply i_gNil)
  | (with_reducible apply i_gSub)
  | (with_reducible apply i_iZip)
  | (with_reducible apply i_yes)
  | (with_reducible apply i_ift)
  | (with_reducible apply i_iff)
  | (with_reducible apply i_nb))
local macro_rules | `(tactic| walk_at "go") => `(tactic| repeat (first | (with_reducible apply i_seq) | (with_reducible apply i_next) | walk_at "e"))
local macro_rules | `(tactic| walk_at "ge") => `(tactic| repeat walk_at "e")
local macro_rules | `(tactic| walk_at "sz") => `(tactic| first | decide | (rw [sizeLine_eq]; simp; done) | (rw [sizeLine_eq]; omega))
local macro_rules | `(tactic| walk_at "side") => `(tactic| (with_reducible exact WB.most_pos))
local macro_rules | `(tactic| walk_at "e") => `(tactic| first
  | ((with_reducible apply i_isT (b := true)); exact rfl)
  | ((with_reducible apply i_isT (b := false)); exact rfl)
  | (with_reducible apply i_fld)
  | ((with_reducible apply i_kFld); (case h => assumption); (case c1 => assumption); (case c2 => assumption); (case e => first | exact lk_number | exact lk_tail | exact lk_head | exact lk_load | exact lk_oneway | exact lk_points | exact lk_ties | exact lk_given))
  | (with_reducible apply i_sfld)
  | ((with_reducible apply i_kSFld); (case h => first | assumption | exact upd_same); (case c1 => assumption); (case c2 => assumption); (case e => exact Nat.le_of_ble_eq_true rfl))
  | (with_reducible apply i_methC)
  | (with_reducible apply i_make)
  | (with_reducible apply i_fldaug)
  | (with_reducible apply i_vals)
  | (with_reducible apply i_items)
  | (with_reducible apply i_dget)
  | (with_reducible apply i_dput)
  | (with_reducible apply i_din)
  | (with_reducible apply i_dnotin)
  | (with_reducible apply i_ddel)
  | (with_reducible apply i_dc)
  | (with_reducible apply i_enum))
local macro_rules | `(tactic| walk_at "jz") => `(tactic| (rw [sizeLine_eq]; (try simp only [TX.len_app, len_e, len_b, len_p, len_g]); omega))
local macro_rules | `(tactic| walk_at "e") => `(tactic| first
  | (with_reducible apply i_tJoin)
  | (with_reducible apply i_tJsC)
  | (with_reducible apply i_tFmt)
  | ((with_reducible apply i_kJ); (case c => walk_at "jz"))
  | ((with_reducible apply i_kFS); (case c => walk_at "jz"))
  | (with_reducible apply i_tJsN))
section
variable {P : Program} {w : World} {K : PySem.W.Frag} {mg : Str → Option Value} {base : Heap}
def sp_number_text : Sp := fun vs H Q _ => ∃ n : Int, vs = [.int n] ∧ 0 ≤ n ∧ n < 10 ^ 61 ∧ Q (.str (nS n)) H
theorem ok_number_text (T : Tx K mg) : FnOk P w K mg base CX0 1 (He.ga K "number_text") T.fd_number_text ["number"] sp_number_text := by
  refine T.F_number_text.ok sc_number_text (fun vs H Q E h => ?_) (fun cdv A outer s H vs Q E hr h => ?_)
  · obtain ⟨n, rfl, _⟩ := h
    rfl
  · obtain ⟨n, rfl, h0, h1, q⟩ := h
    refine ⟨_, PSs.nox (pss_one (ps_ret (pe_callTy x_strI (by rfl) T.b_str (by decide +kernel) (pa_cons (pv 0) pa_nil)))), ?_⟩
    have hl := nS_log h0 h1
    walk_at "go"
    exact q
def sp_tie_line (K : PySem.W.Frag) : Sp := fun vs H Q _ => ∃ a n t, vs = [.ref a] ∧ TieAt K H n t a ∧ 0 ≤ n ∧ n < 10 ^ 61 ∧ 0 ≤ t.c ∧ t.c < 10 ^ 61 ∧ t.t.length ≤ 12 ∧ t.h.length ≤ 12 ∧ Q (.str (Ln.tie n t).text) H
theorem kind_len (o : Bool) : (kindS o).length = 3 := by cases o <;> decide +kernel
theorem tie_text (n : Int) (t : Ti) (k : Str) (hk : k = kindS t.o) : Str.empty ++ k ++ " " ++ nS n ++ " " ++ t.t ++ " " ++ t.h ++ " " ++ nS t.c = (Ln.tie n t).text := by
  subst hk
  refine TL.ext_tl ?_
  unfold Ln.text Ln.words
  rw [TL.join_eq, TL.tl_join]
  simp only [TL.tl_append, List.map_cons, List.map_nil, TL.joinL, List.append_assoc]
  rfl
theorem pt_text (x : Str) : Str.empty ++ "point " ++ x = (Ln.pt x).text := by
  refine TL.ext_tl ?_
  unfold Ln.text Ln.words
  rw [TL.join_eq, TL.tl_join]
  simp only [TL.tl_append, List.map_cons, List.map_nil, TL.joinL]
  have e : TL.tl ("point " : Str) = TL.tl "point" ++ TL.tl " " := by decide +kernel
  rw [e, List.append_assoc, List.append_assoc]
  rfl
theorem gv_text (g : Int) : Str.empty ++ "given " ++ nS g = (Ln.gv g).text := by
  refine TL.ext_tl ?_
  unfold Ln.text Ln.words
  rw [TL.join_eq, TL.tl_join]
  simp only [TL.tl_append, List.map_cons, List.map_nil, TL.joinL]
  have e : TL.tl ("given " : Str) = TL.tl "given" ++ TL.tl " " := by decide +kernel
  rw [e, List.append_assoc, List.append_assoc]
  rfl
theorem ok_tie_line (T : Tx K mg) : FnOk P w K mg base CX0 2 (He.ga K "_tie_line") T.fd_tie_line ["tie"] (sp_tie_line K) := by
  refine T.F_tie_line.ok sc_tie_line (fun vs H Q E h => ?_) (fun cdv A outer s H vs Q E hr h => ?_)
  · obtain ⟨_, _, _, rfl, _⟩ := h
    rfl
  · obtain ⟨a, n, t, rfl, ⟨dx, ha⟩, n0, n1, c0, c1, l1, l2, q⟩ := h
    refine ⟨_, PSs.nox (pss_cons (ps_set (i := 1) sc_tie_line.nd rfl (Or.inl rfl) (pe_ifExp (pt_val (pe_fld (pv 0) rfl)) pe_str pe_str))
      (pss_cons (ps_set (i := 2) sc_tie_line.nd rfl (Or.inl rfl) (pe_call (ok_number_text T) (hr.mono (by decide)) (by rfl) T.g_number_text T.F_number_text.kp T.k_number_text .nil pass0 (pa_cons (pe_fld (pv 0) rfl) pa_nil)))
      (pss_one (ps_ret (pe_join (PJ.cons (pe_fmt (pv 1)) (PJ.cons pe_str (PJ.cons (pe_fmt (pv 2)) (PJ.cons pe_str (PJ.cons (pe_fmt (pe_fld (pv 0) rfl)) (PJ.cons pe_str (PJ.cons (pe_fmt (pe_fld (pv 0) rfl)) (PJ.cons pe_str (PJ.cons (pe_fmt (pe_call (ok_number_text T) (hr.mono (by decide)) (by rfl) T.g_number_text T.F_number_text.kp T.k_number_text .nil pass0 (pa_cons (pe_fld (pv 0) rfl) pa_nil))) PJ.nil)))))))))))))), ?_⟩
    have d1 := T.cl_Tie
    have d2 := T.na_Tie_number
    have d3 := T.na_Tie_tail
    have d4 := T.na_Tie_head
    have d5 := T.na_Tie_load
    have d6 := T.na_Tie_is_oneway
    have z1 := nS_len n0 n1
    have z2 := nS_len c0 c1
    have tw : (kindS true).length = 3 := kind_len true
    have fw : (kindS false).length = 3 := kind_len false
    have et : ("way" : Str) = kindS true := rfl
    have ef : ("tie" : Str) = kindS false := rfl
    rw [← tie_text n t _ rfl] at q
    walk_at "go"
    refine i_b (fun e => ?_) (fun e => ?_)
    · walk_at "go"
      refine ⟨n, rfl, n0, n1, ?_⟩
      rw [et]
      walk_at "go"
      refine ⟨t.c, rfl, c0, c1, ?_⟩
      walk_at "go"
      rw [e] at q
      exact q
    · walk_at "go"
      refine ⟨n, rfl, n0, n1, ?_⟩
      rw [ef]
      walk_at "go"
      refine ⟨t.c, rfl, c0, c1, ?_⟩
      walk_at "go"
      rw [e] at q
      exact q
end
end K18

set_option Elab.async false
set_option linter.all false
set_option maxRecDepth 100000
set_option maxHeartbeats 2000000
namespace K18
open PySem PySem.Spec PyProof.Rows L2 HX WB
local macro_rules | `(tactic| walk_at "side") => `(tactic| first
  | assumption
  | rfl
  | (show (0 : Int) < _; omega)
  | (unfold CDiv; omega)
  | (unfold CMul; omega)
  | (unfold CPow; omega)
  | (rw [sizeLine_eq]; omega)
  | omega)
local macro_rules | `(tactic| walk_at "e") => `(tactic| first
  | ((with_reducible apply i_var); exact rfl)
  | (with_reducible apply i_c)
  | (with_reducible apply i_op)
  | (with_reducible apply i_un)
  | (with_reducible apply i_rI0)
  | ((with_reducible apply i_rI); (case c => walk_at "side"))
  | (with_reducible apply i_rGe)
  | (with_reducible apply i_rGt)
  | (with_reducible apply i_rU)
  | (with_reducible apply i_rEqI)
  | (with_reducible apply i_rNeI)
  | (with_reducible apply i_rEqS)
  | (with_reducible apply i_rNeS)
  | (with_reducible apply i_rEqB)
  | (with_reducible apply i_rNeB)
  | (with_reducible apply i_rIsN)
  | (with_reducible apply i_rNotN)
  | (with_reducible apply i_rInS)
  | (with_reducible apply i_rNotInS)
  | ((with_reducible apply i_catS); (case c => walk_at "side"))
  | (with_reducible apply i_tcb)
  | (with_reducible apply i_nil)
  | (with_reducible apply i_cons)
  | ((with_reducible apply i_lenS); (case c => walk_at "side"))
  | ((with_reducible apply i_lenL); assumption)
  | (with_reducible apply i_abs)
  | (with_reducible apply i_max2)
  | (with_reducible apply i_min2)
  | ((with_reducible apply i_strI); (case c => walk_at "side"))
  | (with_reducible apply i_intB)
  | (with_reducible apply i_test)
  | (with_reducible apply i_tB)
  | (with_reducible apply i_kB)
  | (with_reducible apply i_and)
  | (with_reducible apply i_or)
  | (with_reducible apply i_not)
  | (with_reducible apply i_if)
  | (with_reducible apply i_andV)
  | (with_reducible apply i_orV)
  | (with_reducible apply i_notV)
  | (with_reducible apply i_kAndV)
  | (with_reducible apply i_kOrV)
  | (with_reducible apply i_kNotV)
  | (with_reducible apply i_chain)
  | (with_reducible apply i_kChain)
  | (with_reducible apply i_drop)
  | (with_reducible apply i_ret)
  | (with_reducible apply i_retN)
  | (with_reducible apply i_ifS)
  | (with_reducible apply i_asg)
  | (with_reducible apply i_gName)
  | (with_reducible apply i_for)
  | (with_reducible apply i_lc)
  | (with_reducible apply i_iList)
  | (with_reducible apply i_iTup)
  | (with_reducible apply i_iStr)
  | (with_reducible apply i_kStrI)
  | (with_reducible apply i_lst)
  | (with_reducible apply i_tup)
  | (with_reducible apply i_call)
  | (with_reducible apply i_m1)
  | (with_reducible apply i_kStr)
  | (with_reducible apply i_bm)
  | (with_reducible apply i_bm0)
  | (with_reducible apply i_part)
  | (with_reducible apply i_kInt)
  | (with_reducible apply i_noPart)
  | (with_reducible apply i_sl)
  | (with_reducible apply i_range1)
  | (with_reducible apply i_range2)
  | ((with_reducible apply i_kRng1); (case c => walk_at "side"))
  | ((with_reducible apply i_kRng2); (case c => walk_at "side"))
  | (with_reducible apply i_gCons)
  | (with_reducible apply i_gNil)
  | (with_reducible apply i_gSub)
  | (with_reducible apply i_iZip)
  | (with_reducible apply i_yes)
  | (with_reducible apply i_ift)
  | (with_reducible apply i_iff)
  | (with_reducible apply i_nb))
local macro_rules | `(tactic| walk_at "go") => `(tactic| repeat (first | (with_reducible apply i_seq) | (with_reducible apply i_next) | walk_at "e"))
local macro_rules | `(tactic| walk_at "ge") => `(tactic| repeat walk_at "e")
local macro_rules | `(tactic| walk_at "sz") => `(tactic| first | decide | (rw [sizeLine_eq]; simp; done) | (rw [sizeLine_eq]; omega))
local macro_rules | `(tactic| walk_at "side") => `(tactic| (with_reducible exact WB.most_pos))
local macro_rules | `(tactic| walk_at "e") => `(tactic| first
  | ((with_reducible apply i_isT (b := true)); exact rfl)
  | ((with_reducible apply i_isT (b := false)); exact rfl)
  | (with_reducible apply i_fld)
  | ((with_reducible apply i_kFld); (case h => assumption); (case c1 => assumption); (case c2 => assumption); (case e => first | exact lk_number | exact lk_tail | exact lk_head | exact lk_load | exact lk_oneway | exact lk_points | exact lk_ties | exact lk_given))
  | (with_reducible apply i_sfld)
  | ((with_reducible apply i_kSFld); (case h => first | assumption | exact upd_same); (case c1 => assumption); (case c2 => assumption); (case e => exact Nat.le_of_ble_eq_true rfl))
  | (with_reducible apply i_methC)
  | (with_reducible apply i_make)
  | (with_reducible apply i_fldaug)
  | (with_reducible apply i_vals)
  | (with_reducible apply i_items)
  | (with_reducible apply i_dget)
  | (with_reducible apply i_dput)
  | (with_reducible apply i_din)
  | (with_reducible apply i_dnotin)
  | (with_reducible apply i_ddel)
  | (with_reducible apply i_dc)
  | (with_reducible apply i_enum))
local macro_rules | `(tactic| walk_at "jz") => `(tactic| (rw [sizeLine_eq]; (try simp only [TX.len_app, len_e, len_b, len_p, len_g]); omega))
local macro_rules | `(tactic| walk_at "e") => `(tactic| first
  | (with_reducible apply i_tJoin)
  | (with_reducible apply i_tJsC)
  | (with_reducible apply i_tFmt)
  | ((with_reducible apply i_kJ); (case c => walk_at "jz"))
  | ((with_reducible apply i_kFS); (case c => walk_at "jz"))
  | (with_reducible apply i_tJsN))
section
variable {P : Program} {w : World} {K : PySem.W.Frag} {mg : Str → Option Value} {base : Heap}
def sp_web_lines (K : PySem.W.Frag) : Sp := fun vs H Q _ => ∃ p l d w, vs = [.ref p] ∧ WebAt K H p l d w ∧ Wok w ∧ w.g ≤ most ∧ ∀ a H', Same H H' → H a = none → H' a = some (.lst ((textsOf w).map V.str)) → Q (.ref a) H'
def ptsT (ps : List Str) : List Str := ps.map fun x => (Ln.pt x).text
def tsT (ts : Ts) : List Str := ts.map fun nt => (Ln.tie nt.1 nt.2).text
theorem textsOf_eq (w : Wb) : textsOf w = ptsT w.ps ++ tsT w.ts ++ [(Ln.gv w.g).text] := by
  unfold textsOf WB.linesOf ptsT tsT
  simp only [List.map_append, List.map_map, List.map_cons, List.map_nil, List.append_assoc]
  rfl
theorem ok_web_lines (T : Tx K mg) : FnOk P w K mg base CX0 5 (He.ga K "web_lines") T.fd_web_lines ["web"] (sp_web_lines K) := by
  refine T.F_web_lines.ok sc_web_lines (fun vs H Q E h => ?_) (fun cdv A outer s H vs Q E hr h => ?_)
  · obtain ⟨_, _, _, _, rfl, _⟩ := h
    rfl
  · obtain ⟨p, l, d, w, rfl, hw, ok, hg, q⟩ := h
    obtain ⟨dx, ep⟩ := hw.self
    refine ⟨_, PSs.nox (pss_cons (ps_setLc (i := 1) (own := [("name", 2)]) (by rfl) sc_web_lines.nd rfl rfl (sw_true rfl rfl rfl (by decide +kernel)) (pi_list (pe_meth0 (pv 0) T.cl_Web T.m_Web_points (ok_Web_points T) (hr.mono (by decide)) T.k_Web_points .nil pass0)) (blkOk_by (own := [("name", 2)]) (N := N_web_lines) (sc := defScope s_web_lines) (by decide +kernel)) (fun _ _ _ _ _ => (pg_name (i := 2) sc_web_lines.nd rfl (Or.inl rfl))) (fun _ _ _ _ _ => pts_nil) (fun _ _ _ _ _ => (pe_join (PJ.cons pe_str (PJ.cons (pe_fmt (pv 2)) PJ.nil)))))
      (pss_cons (ps_expr (pe_bm PySem.F.plainAttrs_list PySem.F.slot_list_extend PySem.F.type_list_extend mt_extend (pv 1) (pa_cons (pe_lc (own := [("tie", 3)]) (by rfl) sc_web_lines.nd (pi_list (pe_meth0 (pv 0) T.cl_Web T.m_Web_ties (ok_Web_ties T) (hr.mono (by decide)) T.k_Web_ties .nil pass0)) (blkOk_by (own := [("tie", 3)]) (N := N_web_lines) (sc := defScope s_web_lines) (by decide +kernel)) (fun _ _ _ _ _ => (pg_name (i := 3) sc_web_lines.nd rfl (Or.inl rfl))) (fun _ _ _ _ _ => pts_nil) (fun _ _ _ _ _ => (pe_call (ok_tie_line T) (hr.mono (by decide)) (by rfl) T.g_tie_line T.F_tie_line.kp T.k_tie_line .nil pass0 (pa_cons (pv 3) pa_nil)))) pa_nil)))
      (pss_cons (ps_expr (pe_bm PySem.F.plainAttrs_list PySem.F.slot_list_append PySem.F.type_list_append mt_append (pv 1) (pa_cons (pe_join (PJ.cons pe_str (PJ.cons (pe_fmt (pe_call (ok_number_text T) (hr.mono (by decide)) (by rfl) T.g_number_text T.F_number_text.kp T.k_number_text .nil pass0 (pa_cons (pe_meth0 (pv 0) T.cl_Web T.m_Web_given (ok_Web_given T) (hr.mono (by decide)) T.k_Web_given .nil pass0) pa_nil))) PJ.nil))) pa_nil)))
      (pss_one (ps_ret (pv 1)))))), ?_⟩
    have hl16 := ok.le
    have hl48 := ok.tl
    have hg0 := ok.g0
    have hm := most_lt
    walk_at "go"
    refine i_kMethC ep rfl ?_
    walk_at "go"
    refine ⟨p, l, d, w, rfl, hw, fun a ha => ?_⟩
    walk_at "go"
    refine i_kListI (SqL.of upd_same) ?_
    intro D hD
    have nDa : D ≠ a := fun e => by rw [e, upd_same] at hD; cases hD
    have hD0 : H D = none := by rwa [upd_ne nDa] at hD
    have s1 : Same H (upd H a (.lst (w.ps.map V.str))) := Same.new ha
    refine lc_it walk_list (fun m H' => Same (upd H a (.lst (w.ps.map V.str))) H' ∧ H' D = some (.lst ((ptsT (w.ps.take m)).map V.str)))
      ⟨Same.new hD, by rw [upd_same]; rfl⟩ (fun i H' _ h => SqL.of (h.1 _ _ upd_same)) ?_ ?_
    · rintro i v H2 H3 hi ⟨s2, eD⟩ ⟨rfl, hv⟩
      rw [List.length_map] at hi
      rw [List.getElem?_map, List.getElem?_eq_getElem hi] at hv
      cases hv
      have lx := nm_len (ok.nm _ (List.getElem_mem hi))
      walk_at "go"
      refine ⟨rfl, ?_⟩
      walk_at "go"
      refine ⟨_, eD, ?_, Same.mut s2 hD, ?_⟩
      · unfold ptsT
        rw [List.length_map, List.length_map, List.length_take, sizeLine_eq]; omega
      · rw [upd_same, List.take_add_one, List.getElem?_eq_getElem hi]
        unfold ptsT
        rw [List.map_append, List.map_append, pt_text]
        rfl
    · rintro H2 ⟨s2, eD⟩
      rw [List.length_map, List.take_length] at eD
      have hw2 := (hw.same s1).same s2
      obtain ⟨dx2, ep2⟩ := hw2.self
      walk_at "go"
      refine i_kTyL (SqL.of eD) ?_
      walk_at "go"
      refine i_kMethC ep2 rfl ?_
      walk_at "go"
      refine ⟨p, l, d, w, rfl, hw2, hl48, fun b as H4 s4 hb eb tl => ?_⟩
      walk_at "go"
      refine i_kListI (SqL.of eb) ?_
      intro G hG
      have nGb : G ≠ b := fun e => by rw [e, eb] at hG; cases hG
      have hlen := Two.len tl
      have eD4 := s4 _ _ eD
      refine lc_it walk_list (fun m H' => Same H4 H' ∧ H' G = some (.lst ((tsT (w.ts.take m)).map V.str)))
        ⟨Same.new hG, by rw [upd_same]; rfl⟩ (fun i H' _ h => SqL.of (h.1 _ _ eb)) ?_ ?_
      · rintro i v H5 H6 hi ⟨s5, eG⟩ ⟨rfl, hv⟩
        rw [List.length_map] at hi
        rw [List.getElem?_map, List.getElem?_eq_getElem hi] at hv
        cases hv
        obtain ⟨⟨n, t⟩, et, ta⟩ := Two.get tl (List.getElem?_eq_getElem hi)
        have o := ok.ok n t (List.mem_of_getElem? et)
        have o1 := o.lo
        have o2 := o.hi
        have o3 := o.c0
        have o4 := o.c1
        have ta5 := ta.same s5
        walk_at "go"
        refine ⟨rfl, ?_⟩
        walk_at "go"
        refine ⟨_, n, t, rfl, ta5, by omega, by omega, o3, by omega, nm_len (ok.nm _ o.t), nm_len (ok.nm _ o.h), ?_⟩
        refine ⟨_, eG, ?_, Same.mut s5 hG, ?_⟩
        · unfold tsT
          rw [List.length_map, List.length_map, List.length_take, sizeLine_eq]; omega
        · rw [upd_same, List.take_add_one, et]
          unfold tsT
          rw [List.map_append, List.map_append]
          rfl
      · rintro H5 ⟨s5, eG⟩
        have hm2 : (List.map V.ref as).length = w.ts.length := by rw [List.length_map, hlen]
        rw [hm2, List.take_length] at eG
        have eD5 := s5 _ _ eD4
        have hp1 : (ptsT w.ps).length = w.ps.length := List.length_map _
        have hp2 : (tsT w.ts).length = w.ts.length := List.length_map _
        walk_at "go"
        refine ⟨D, G, _, _, rfl, rfl, eD5, eG, (by rw [List.length_map, List.length_map, hp1, hp2, sizeLine_eq]; omega), ?_⟩
        rw [← List.map_append]
        have hw5 := (hw2.same s4).same s5
        have nDd : ∀ o, WebAt K (upd H5 D o) p l d w := fun o => by
          have n1 : p ≠ D := fun e => by subst e; rw [ep] at hD0; cases hD0
          have n2 : l ≠ D := fun e => by subst e; rw [hw.pts] at hD0; cases hD0
          have n3 : d ≠ D := fun e => by subst e; obtain ⟨_, e2, _⟩ := hw.ties; rw [e2] at hD0; cases hD0
          obtain ⟨dx5, e5⟩ := hw5.self
          obtain ⟨kvs, ed, hd⟩ := hw5.ties
          exact ⟨⟨dx5, (upd_ne n1).trans e5⟩, (upd_ne n2).trans hw5.pts, ⟨kvs, (upd_ne n3).trans ed, hd.mono fun _ _ _ r => r.other (r.ne eD5 (fun _ _ _ _ => by simp))⟩⟩
        have hw6 := nDd (.lst ((ptsT w.ps ++ tsT w.ts).map V.str))
        obtain ⟨dx6, ep6⟩ := hw6.self
        have s6 : Same H (upd H5 D (.lst ((ptsT w.ps ++ tsT w.ts).map V.str))) := Same.mut (((s1.trans s2).trans s4).trans s5) hD0
        have eD6 : (upd H5 D (.lst ((ptsT w.ps ++ tsT w.ts).map V.str))) D = some (.lst ((ptsT w.ps ++ tsT w.ts).map V.str)) := upd_same
        generalize upd H5 D (.lst ((ptsT w.ps ++ tsT w.ts).map V.str)) = H6 at hw6 ep6 s6 eD6 ⊢
        walk_at "go"
        refine i_kTyL (SqL.of eD6) ?_
        have z1 := nS_len hg0 (by omega)
        walk_at "go"
        refine i_kMethC ep6 rfl ?_
        walk_at "go"
        refine ⟨p, l, d, w, rfl, hw6, ?_⟩
        walk_at "go"
        refine ⟨w.g, rfl, hg0, by omega, ?_⟩
        walk_at "go"
        refine i_append eD6 ?_ (by rw [List.length_map, List.length_append, hp1, hp2, sizeLine_eq]; omega)
        walk_at "go"
        refine q D _ (Same.mut s6 hD0) hD0 ?_
        rw [upd_same, gv_text, textsOf_eq]
        simp only [List.map_append, List.map_cons, List.map_nil]
end
end K18

set_option Elab.async false
set_option linter.all false
set_option maxRecDepth 100000
set_option maxHeartbeats 2000000
/-! KS: steps and what is come to, in the heap. -/
namespace WB
open PySem PySem.Spec PyProof.Rows L2 HX
/-! ### steps -/
def StT (H : Hp) (a : Addr) (s : Int × Str) : Prop := H a = some (.tup [.int s.1, .str s.2])
structure StL (H : Hp) (l : Addr) (ss : List (Int × Str)) : Prop where
  ex : ∃ as : List Addr, H l = some (.lst (as.map V.ref)) ∧ Two (StT H) as ss
structure StD (H : Hp) (e : Addr) (ps : List Str) (L : Str → Addr) (S : Steps) : Prop where
  dict : H e = some (.dK (ps.map fun x => ((Sum.inr x : Key), V.ref (L x))))
  inj : ∀ x ∈ ps, ∀ y ∈ ps, L x = L y → x = y
  at' : ∀ x ∈ ps, StL H (L x) (S x)
section
variable {H H' : Hp} {e l a b : Addr} {ps : List Str} {L : Str → Addr} {S : Steps} {x y : Str} {n : Int} {o : HO} {ss : List (Int × Str)} {s : Int × Str}
theorem StT.same (h : StT H a s) (m : Same H H') : StT H' a s := m _ _ h
theorem StT.other (h : StT H a s) (c : H b ≠ some (.tup [.int s.1, .str s.2])) : StT (upd H b o) a s := by
  unfold StT
  rw [upd_ne (fun e => c (by rw [← e]; exact h))]
  exact h
theorem StT.off (h : StT H a s) {xs : List V} (c : H b = some (.lst xs)) : StT (upd H b o) a s := h.other (by rw [c]; simp)
theorem StL.same (h : StL H l ss) (m : Same H H') : StL H' l ss := by
  obtain ⟨as, e, t⟩ := h.ex
  exact ⟨as, m _ _ e, t.mono fun _ _ r => r.same m⟩
theorem StD.same (h : StD H e ps L S) (m : Same H H') : StD H' e ps L S := ⟨m _ _ h.dict, h.inj, fun x hx => (h.at' x hx).same m⟩
theorem StD.congr {S' : Steps} (h : StD H e ps L S) (c : ∀ x ∈ ps, S x = S' x) : StD H e ps L S' := ⟨h.dict, h.inj, fun x hx => by rw [← c x hx]; exact h.at' x hx⟩
theorem val_dict (hx : x ∈ ps) : valV (ps.map fun x => ((Sum.inr x : Key), V.ref (L x))) (Sum.inr x) = some (.ref (L x)) := by
  unfold valV
  induction ps with
  | nil => simp at hx
  | cons p r ih =>
    rw [List.map_cons, List.find?_cons]
    by_cases c : p = x
    · subst c; simp
    · have c2 : ¬ (Sum.inr p : Key) = Sum.inr x := fun q => c (Sum.inr.inj q)
      rw [decide_eq_false c2]
      exact ih ((List.mem_cons.mp hx).resolve_left fun q => c q.symm)
theorem StD.get (h : StD H e ps L S) (hx : x ∈ ps) : valV (ps.map fun x => ((Sum.inr x : Key), V.ref (L x))) (Sum.inr x) = some (.ref (L x)) := val_dict hx
/-- one step more -/
theorem StD.add (h : StD H e ps L S) (hx : x ∈ ps) (ha : StT H a (n, y)) : ∃ as : List Addr, H (L x) = some (.lst (as.map V.ref)) ∧ as.length = (S x).length ∧
    StD (upd H (L x) (.lst (as.map V.ref ++ [.ref a]))) e ps L (fun z => if z = x then S z ++ [(n, y)] else S z) := by
  obtain ⟨as, el, t⟩ := (h.at' x hx).ex
  have ne : e ≠ L x := fun q => by
    have := h.dict
    rw [q, el] at this
    cases this
  refine ⟨as, el, t.len, (upd_ne ne).trans h.dict, h.inj, fun z hz => ?_⟩
  by_cases c : z = x
  · subst c
    simp only [if_true]
    refine ⟨as ++ [a], by rw [upd_same, List.map_append]; rfl, Two.app (t.mono fun _ _ r => r.off el) (.cons (ha.off el) .nil)⟩
  · rw [if_neg c]
    obtain ⟨bs, eb, tb⟩ := (h.at' z hz).ex
    have nz : L z ≠ L x := fun q => c (h.inj z hz x hx q)
    exact ⟨bs, (upd_ne nz).trans eb, tb.mono fun _ _ r => r.off el⟩
end
/-! ### what is come to -/
def CmV (H : Hp) (v : V) : Option (Int × Str) → Prop
  | none => v = .non
  | some (n, a) => ∃ t, v = .ref t ∧ H t = some (.tup [.int n, .str a])
def CmE (H : Hp) (kv : Key × V) (p : Str × Option (Int × Str)) : Prop := kv.1 = Sum.inr p.1 ∧ CmV H kv.2 p.2
structure CmAt (H : Hp) (c : Addr) (cm : Came) : Prop where
  ex : ∃ kvs, H c = some (.dK kvs) ∧ Two (CmE H) kvs cm
section
variable {H H' : Hp} {c t l : Addr} {cm : Came} {x a : Str} {n : Int} {o : HO} {v : V} {p : Option (Int × Str)} {kvs : List (Key × V)} {kv : Key × V} {q : Str × Option (Int × Str)}
theorem CmV.same (h : CmV H v p) (m : Same H H') : CmV H' v p := by
  cases p with
  | none => exact h
  | some p =>
    obtain ⟨n, a⟩ := p
    obtain ⟨t, e, ht⟩ := h
    exact ⟨t, e, m _ _ ht⟩
theorem CmV.off (h : CmV H v p) (hc : ∀ xs, H c ≠ some (.tup xs)) : CmV (upd H c o) v p := by
  cases p with
  | none => exact h
  | some p =>
    obtain ⟨n, a⟩ := p
    obtain ⟨t, e, ht⟩ := h
    exact ⟨t, e, (upd_ne (fun q => hc _ (by rw [← q]; exact ht))).trans ht⟩
theorem CmAt.same (h : CmAt H c cm) (m : Same H H') : CmAt H' c cm := by
  obtain ⟨kvs, e, t⟩ := h.ex
  exact ⟨kvs, m _ _ e, t.mono fun _ _ r => ⟨r.1, r.2.same m⟩⟩
theorem cme_key (h : CmE H kv q) (x : Str) : decide (kv.1 = Sum.inr x) = decide (q.1 = x) := by
  rw [h.1]
  exact decide_eq_decide.mpr ⟨fun e => Sum.inr.inj e, fun e => by rw [e]⟩
theorem cm_none (t : Two (CmE H) kvs cm) (hx : x ∉ keysC cm) : valV kvs (Sum.inr x) = none := by
  rcases Two.find (p := fun kv => decide (kv.1 = (Sum.inr x : Key))) (q := fun p => decide (p.1 = x)) t (fun _ _ r => cme_key r x) with ⟨e1, _⟩ | ⟨kv, q, e1, e2, r⟩
  · unfold valV; rw [e1]; rfl
  · exact absurd (List.mem_map.mpr ⟨q, List.mem_of_find?_eq_some e2, by simpa using List.find?_some e2⟩) hx
theorem cm_some (t : Two (CmE H) kvs cm) (e : look cm x = some p) : ∃ v, valV kvs (Sum.inr x) = some v ∧ CmV H v p := by
  rcases Two.find (p := fun kv => decide (kv.1 = (Sum.inr x : Key))) (q := fun p => decide (p.1 = x)) t (fun _ _ r => cme_key r x) with ⟨_, e2⟩ | ⟨kv, q, e1, e2, r⟩
  · unfold look at e; rw [e2] at e; cases e
  · unfold look at e
    rw [e2] at e
    cases e
    exact ⟨kv.2, by unfold valV; rw [e1]; rfl, r.2⟩
theorem look_mem (h : x ∈ keysC cm) : ∃ p, look cm x = some p := by
  unfold look
  cases e : cm.find? fun p => decide (p.1 = x) with
  | none =>
    obtain ⟨q, hq, e2⟩ := List.mem_map.mp h
    have := List.find?_eq_none.mp e q hq
    simp only [decide_eq_true_eq] at this
    exact absurd e2 this
  | some q => exact ⟨_, rfl⟩
theorem cm_isSome (t : Two (CmE H) kvs cm) : (valV kvs (Sum.inr x)).isSome = decide (x ∈ keysC cm) := by
  by_cases h : x ∈ keysC cm
  · obtain ⟨p, e⟩ := look_mem h
    obtain ⟨v, e2, _⟩ := cm_some t e
    rw [e2, decide_eq_true h]; rfl
  · rw [cm_none t h, decide_eq_false h]; rfl
/-- one more that is come to -/
theorem CmAt.add (h : CmAt H c cm) (hx : x ∉ keysC cm) (ht : H t = some (.tup [.int n, .str a])) : ∃ kvs, H c = some (.dK kvs) ∧ kvs.length = cm.length ∧
    CmAt (upd H c (.dK (putK kvs (Sum.inr x) (.ref t)))) c (cm ++ [(x, some (n, a))]) := by
  obtain ⟨kvs, e, tw⟩ := h.ex
  have hc : ∀ xs, H c ≠ some (.tup xs) := fun xs => by rw [e]; simp
  refine ⟨kvs, e, tw.len, ⟨_, upd_same, ?_⟩⟩
  have en : putK kvs (Sum.inr x) (.ref t) = kvs ++ [(Sum.inr x, .ref t)] := by
    unfold putK
    rw [if_neg]
    intro q
    obtain ⟨kv, hk, e2⟩ := List.any_eq_true.mp q
    obtain ⟨q, hq, r⟩ := Two.mem tw hk
    have := cme_key r x
    rw [e2] at this
    exact hx (List.mem_map.mpr ⟨q, hq, by simpa using this.symm⟩)
  rw [en]
  refine Two.app (tw.mono fun _ _ r => ⟨r.1, r.2.off hc⟩) (.cons ⟨rfl, t, rfl, ?_⟩ .nil)
  exact (upd_ne (fun q => hc _ (by rw [← q]; exact ht))).trans ht
end
theorem i_kDInS {H : Hp} {Q : VK} {a : Addr} {kvs : List (Key × V)} {j : Str} (h : H a = some (.dK kvs)) (q : Q (.bl (valV kvs (Sum.inr j)).isSome) H) : kDIn (.str j) Q (.ref a) H := ⟨a, _, rfl, .inl ⟨kvs, Sum.inr j, .inl h, rfl, rfl⟩, q⟩
theorem i_kDNotInS {H : Hp} {Q : VK} {a : Addr} {kvs : List (Key × V)} {j : Str} (h : H a = some (.dK kvs)) (q : Q (.bl !(valV kvs (Sum.inr j)).isSome) H) : kDNotIn (.str j) Q (.ref a) H := ⟨a, _, rfl, .inl ⟨kvs, Sum.inr j, .inl h, rfl, rfl⟩, q⟩
/-- bounds -/
theorem free_len (ts : Ts) (x : Str) : (freeS ts x).length ≤ 2 * ts.length := by
  unfold freeS
  induction ts with
  | nil => simp
  | cons t r ih =>
    rw [List.flatMap_cons, List.length_append]
    have : (freeOne x t).length ≤ 2 := by
      unfold freeOne
      rw [List.length_append]
      split <;> split <;> simp
    simp only [List.length_cons]
    omega
theorem free_snoc (ts : Ts) (nt : Int × Ti) (x : Str) : freeS (ts ++ [nt]) x = freeS ts x ++ freeOne x nt := by
  unfold freeS
  rw [List.flatMap_append, List.flatMap_cons, List.flatMap_nil, List.append_nil]
end WB

set_option Elab.async false
set_option linter.all false
set_option maxRecDepth 100000
set_option maxHeartbeats 2000000
/-! HXd: a dict's comprehension that a name of the def gets. -/
namespace L2
open PySem PySem.Spec PyProof.Rows
section
variable {X : Cx}
theorem swD_true {kx vx : Expr} {gs : List Comprehension} {scope : Scope} {pos py : Pos} {y : Str} {l : Nat} {env : Env} (hk : env.scope.kind = .function) (hy : env.scope.names.lookup y = some .local) (hl : (py.line == pos.line) = true)
    (ha : (scope.names.any fun (n, k) => n == y && (k == .local || k == .cell)) = false) : swapsWith (.DictComp kx vx gs scope pos) (some (.Name y py)) l env = pure true := by
  have k1 : env.kindOf y = some .local := hy
  have k2 : env.blockKind = .function := (by unfold Env.blockKind; rw [hk]; rfl)
  unfold swapsWith; simp only [k1, k2, ha, Expr.pos, hl]; rfl
theorem ps_setDc {i : Nat} {y : Str} {py : Pos} {kx vx tg iter : Expr} {ifs : List Expr} {scope : Scope} {own : List (Str × Nat)} {pos spos : Pos} {wi : TI} {g : TG} {tt : TT} {tk tv : TE} (hc : X.calm = true) (hN : X.N.Nodup) (hy : X.N[i]? = some y)
    (hyl : X.env.scope.names.lookup y = some .local) (hsw : swapsWith (.DictComp kx vx [⟨tg, iter, ifs, 0⟩] scope pos) (some (.Name y py)) spos.line X.env = pure true) (hi : PI X tg iter wi) (ok : BlkOk X.N X.env.scope scope own)
    (hg : ∀ (s : Shared) (H : Hp) (C : Addr) (cl : List (Str × Addr)) (fp : List Addr), PG (X.blk s H scope (compEnvC scope cl C X.env) fp) tg g)
    (ht : ∀ (s : Shared) (H : Hp) (C : Addr) (cl : List (Str × Addr)) (fp : List Addr), PTs (X.blk s H scope (compEnvC scope cl C X.env) fp) ifs tt)
    (hk : ∀ (s : Shared) (H : Hp) (C : Addr) (cl : List (Str × Addr)) (fp : List Addr), PE (X.blk s H scope (compEnvC scope cl C X.env) fp) kx tk)
    (he : ∀ (s : Shared) (H : Hp) (C : Addr) (cl : List (Str × Addr)) (fp : List Addr), PE (X.blk s H scope (compEnvC scope cl C X.env) fp) vx tv) (hs : ∀ x, foldedSetIterable iter X.env x = pure x := by intro _; rfl) :
    PS X (.Assign [.Name y py] (.DictComp kx vx [⟨tg, iter, ifs, 0⟩] scope pos) spos) (tAsg (tDc wi g tt tk tv (own.map (·.2))) (gName i)) := by
  refine ⟨fun pins s σ H D I h => ?_⟩
  have h : tDc wi g tt tk tv (own.map (·.2)) σ H (fun x H1 => gName i x σ H1 D.nx) := h
  rw [exec_Assign_Name_used _ _ _ _ hsw]
  refine wpAny_bind (wpAny_standAt (wpAny_bind (?_ : wpAny _ X.A (do
    let _ ← comprehension (.DictComp kx vx [⟨tg, iter, ifs, 0⟩] scope pos) scope X.env (firstIterPos [⟨tg, iter, ifs, 0⟩] pos) newDict false (eval iter X.env) (some (assign (.Name y py) X.env))) _ _ s)))
  refine wpAny_bind (thn (dc_core (Qf := fun _ t => SP X pins D .next t) hc hN I hi ok hg ht hk he hs h fun L C t m H2 I2 q hn f => ?_) fun _ t hq => wpAny_pure (wpAny_pure hq))
  obtain ⟨f0, f1, f2, f3, f4, f5⟩ := f
  refine (wpAny_assign_Name (store_ok2 (v := V.ref L) I2 hN hy (.inl hyl) rfl (fun s2 I3 ⟨b, sb, hb⟩ => ?_) (.inr hyl)) : wpAny _ _ (assign (.Name y py) X.env (.ref L)) _ _ _)
  have nb : C ≠ b := hb.elim (fun z => z ▸ f1) (fun z e => f4 y b z e.symm)
  exact ⟨m, hn.sameBut sb nb, fun h3 sb3 => ⟨_, H2, I3.turned (t' := s2.toks) (fun c o hc e => (sb3.2 c hc).trans e) f0 f1 f3 f4 f5, q⟩⟩
end
end L2

set_option Elab.async false
set_option linter.all false
set_option maxRecDepth 100000
set_option maxHeartbeats 2000000
namespace K18
open PySem PySem.Spec PyProof.Rows L2 HX WB
local macro_rules | `(tactic| walk_at "side") => `(tactic| first
  | assumption
  | rfl
  | (show (0 : Int) < _; omega)
  | (unfold CDiv; omega)
  | (unfold CMul; omega)
  | (unfold CPow; omega)
  | (rw [sizeLine_eq]; omega)
  | omega)
local macro_rules | `(tactic| walk_at "e") => `(tactic| first
  | ((with_reducible apply i_var); exact rfl)
  | (with_reducible apply i_c)
  | (with_reducible apply i_op)
  | (with_reducible apply i_un)
  | (with_reducible apply i_rI0)
  | ((with_reducible apply i_rI); (case c => walk_at "side"))
  | (with_reducible apply i_rGe)
  | (with_reducible apply i_rGt)
  | (with_reducible apply i_rU)
  | (with_reducible apply i_rEqI)
  | (with_reducible apply i_rNeI)
  | (with_reducible apply i_rEqS)
  | (with_reducible apply i_rNeS)
  | (with_reducible apply i_rEqB)
  | (with_reducible apply i_rNeB)
  | (with_reducible apply i_rIsN)
  | (with_reducible apply i_rNotN)
  | (with_reducible apply i_rInS)
  | (with_reducible apply i_rNotInS)
  | ((with_reducible apply i_catS); (case c => walk_at "side"))
  | (with_reducible apply i_tcb)
  | (with_reducible apply i_nil)
  | (with_reducible apply i_cons)
  | ((with_reducible apply i_lenS); (case c => walk_at "side"))
  | ((with_reducible apply i_lenL); assumption)
  | (with_reducible apply i_abs)
  | (with_reducible apply i_max2)
  | (with_reducible apply i_min2)
  | ((with_reducible apply i_strI); (case c => walk_at "side"))
  | (with_reducible apply i_intB)
  | (with_reducible apply i_test)
  | (with_reducible apply i_tB)
  | (with_reducible apply i_kB)
  | (with_reducible apply i_and)
  | (with_reducible apply i_or)
  | (with_reducible apply i_not)
  | (with_reducible apply i_if)
  | (with_reducible apply i_andV)
  | (with_reducible apply i_orV)
  | (with_reducible apply i_notV)
  | (with_reducible apply i_kAndV)
  | (with_reducible apply i_kOrV)
  | (with_reducible apply i_kNotV)
  | (with_reducible apply i_chain)
  | (with_reducible apply i_kChain)
  | (with_reducible apply i_drop)
  | (with_reducible apply i_ret)
  | (with_reducible apply i_retN)
  | (with_reducible apply i_ifS)
  | (with_reducible apply i_asg)
  | (with_reducible apply i_gName)
  | (with_reducible apply i_for)
  | (with_reducible apply i_lc)
  | (with_reducible apply i_iList)
  | (with_reducible apply i_iTup)
  | (with_reducible apply i_iStr)
  | (with_reducible apply i_kStrI)
  | (with_reducible apply i_lst)
  | (with_reducible apply i_tup)
  | (with_reducible apply i_call)
  | (with_reducible apply i_m1)
  | (with_reducible apply i_kStr)
  | (with_reducible apply i_bm)
  | (with_reducible apply i_bm0)
  | (with_reducible apply i_part)
  | (with_reducible apply i_kInt)
  | (with_reducible apply i_noPart)
  | (with_reducible apply i_sl)
  | (with_reducible apply i_range1)
  | (with_reducible apply i_range2)
  | ((with_reducible apply i_kRng1); (case c => walk_at "side"))
  | ((with_reducible apply i_kRng2); (case c => walk_at "side"))
  | (with_reducible apply i_gCons)
  | (with_reducible apply i_gNil)
  | (with_reducible apply i_gSub)
  | (with_reducible apply i_iZip)
  | (with_reducible apply i_yes)
  | (with_reducible apply i_ift)
  | (with_reducible apply i_iff)
  | (with_reducible apply i_nb))
local macro_rules | `(tactic| walk_at "go") => `(tactic| repeat (first | (with_reducible apply i_seq) | (with_reducible apply i_next) | walk_at "e"))
local macro_rules | `(tactic| walk_at "ge") => `(tactic| repeat walk_at "e")
local macro_rules | `(tactic| walk_at "sz") => `(tactic| first | decide | (rw [sizeLine_eq]; simp; done) | (rw [sizeLine_eq]; omega))
local macro_rules | `(tactic| walk_at "side") => `(tactic| (with_reducible exact WB.most_pos))
local macro_rules | `(tactic| walk_at "e") => `(tactic| first
  | ((with_reducible apply i_isT (b := true)); exact rfl)
  | ((with_reducible apply i_isT (b := false)); exact rfl)
  | (with_reducible apply i_fld)
  | ((with_reducible apply i_kFld); (case h => assumption); (case c1 => assumption); (case c2 => assumption); (case e => first | exact lk_number | exact lk_tail | exact lk_head | exact lk_load | exact lk_oneway | exact lk_points | exact lk_ties | exact lk_given))
  | (with_reducible apply i_sfld)
  | ((with_reducible apply i_kSFld); (case h => first | assumption | exact upd_same); (case c1 => assumption); (case c2 => assumption); (case e => exact Nat.le_of_ble_eq_true rfl))
  | (with_reducible apply i_methC)
  | (with_reducible apply i_make)
  | (with_reducible apply i_fldaug)
  | (with_reducible apply i_vals)
  | (with_reducible apply i_items)
  | (with_reducible apply i_dget)
  | (with_reducible apply i_dput)
  | (with_reducible apply i_din)
  | (with_reducible apply i_dnotin)
  | (with_reducible apply i_ddel)
  | (with_reducible apply i_dc)
  | (with_reducible apply i_enum))
section
variable {P : Program} {w : World} {K : PySem.W.Frag} {mg : Str → Option Value} {base : Heap}
theorem wb_free {H : Hp} {p l d q : Addr} {w : Wb} (h : WebAt K H p l d w) (e : H q = none) : q ≠ p ∧ q ≠ l ∧ q ≠ d := by
  refine ⟨?_, ?_, ?_⟩
  · rintro rfl
    obtain ⟨_, e2⟩ := h.self
    rw [e2] at e; cases e
  · rintro rfl
    have e2 := h.pts
    rw [e2] at e; cases e
  · rintro rfl
    obtain ⟨_, e2, _⟩ := h.ties
    rw [e2] at e; cases e
def sp_need_all (K : PySem.W.Frag) : Sp := fun vs H Q _ => ∃ p l d w a ys, vs = [.ref p, .ref a] ∧ WebAt K H p l d w ∧ Wok w ∧ H a = some (.lst ((ys : List Str).map V.str)) ∧ (∀ y ∈ ys, y ∈ w.ps) ∧ ∀ H', Same H H' → Q .non H'
theorem ok_need_all (T : Tx K mg) : FnOk P w K mg base CX0 3 (He.ga K "need_all") T.fd_need_all ["web", "names"] (sp_need_all K) := by
  refine T.F_need_all.ok sc_need_all (fun vs H Q E h => ?_) (fun cdv A outer s H vs Q E hr h => ?_)
  · obtain ⟨_, _, _, _, _, _, rfl, _⟩ := h
    rfl
  · obtain ⟨p, l, d, w, a, ys, rfl, hw, ok, ha, hy, q⟩ := h
    obtain ⟨dx, ep⟩ := hw.self
    refine ⟨_, PSs.nox (pss_cons (ps_set (i := 2) sc_need_all.nd rfl (Or.inl rfl) (pe_meth0 (pv 0) T.cl_Web T.m_Web_points (ok_Web_points T) (hr.mono (by decide)) T.k_Web_points .nil pass0))
      (pss_one (ps_for PassesOwn.never rfl (pi_list (pv 1)) (pg_name (i := 3) sc_need_all.nd rfl (Or.inl rfl))
      (pss_one (ps_if (PW.pt (pw_or (pt_not (pt_val (pe_call (ok_is_name T) (hr.mono (by decide)) (by rfl) T.g_is_name T.F_is_name.kp T.k_is_name .nil pass0 (pa_cons (pv 3) pa_nil)))) (pw_or1 (pt_cmpR op_notIn_seq (pv 3) (pv 2) (by rfl))))) (pss_one ps_never) pss_nil))))), ?_⟩
    walk_at "go"
    refine i_kMethC ep rfl ?_
    walk_at "go"
    refine ⟨p, l, d, w, rfl, hw, fun b hb => ?_⟩
    have s1 : Same H (upd H b (.lst (w.ps.map V.str))) := Same.new hb
    have eb : (upd H b (.lst (w.ps.map V.str))) b = some (.lst (w.ps.map V.str)) := upd_same
    generalize upd H b (.lst (w.ps.map V.str)) = H1 at s1 eb ⊢
    have ha1 := s1 _ _ ha
    walk_at "go"
    refine i_kListI (SqL.of ha1) ?_
    refine for_it walk_list (fun i σ H' => H' = H1 ∧ ∃ v, σ = [some (.ref p), some (.ref a), some (.ref b), v]) ⟨rfl, none, rfl⟩ (fun i σ H' _ h => by rw [h.1]; exact SqL.of ha1) ?_ ?_
    · rintro i v σ H2 H3 hi ⟨rfl, v0, rfl⟩ ⟨rfl, hv⟩
      rw [List.length_map] at hi
      rw [List.getElem?_map, List.getElem?_eq_getElem hi] at hv
      cases hv
      have hm := hy _ (List.getElem_mem hi)
      generalize ys[i] = y at hm ⊢
      have hn := ok.nm _ hm
      walk_at "go"
      refine ⟨y, rfl, by have := nm_len hn; omega, ?_⟩
      rw [hn]
      walk_at "go"
      refine i_inS (SqL.of eb) ?_
      rw [decide_eq_true hm]
      show kB _ (.bl false) _
      walk_at "go"
      exact ⟨rfl, _, rfl⟩
    · rintro σ H2 ⟨rfl, v0, rfl⟩
      walk_at "go"
      exact q _ s1
/-- the names that are come to -/
def namesIn (ps : List Str) (cm : Came) : List Str := ps.filter fun x => decide (x ∈ keysC cm)
def sp_names_in (K : PySem.W.Frag) : Sp := fun vs H Q _ => ∃ p l d w c cm, vs = [.ref p, .ref c] ∧ WebAt K H p l d w ∧ w.ps.length ≤ 16 ∧ CmAt H c cm ∧ ∀ a H', Same H H' → H a = none → H' a = some (.lst ((namesIn w.ps cm).map V.str)) → Q (.ref a) H'
theorem ok_names_in (T : Tx K mg) : FnOk P w K mg base CX0 2 (He.ga K "names_in") T.fd_names_in ["web", "came"] (sp_names_in K) := by
  refine T.F_names_in.ok sc_names_in (fun vs H Q E h => ?_) (fun cdv A outer s H vs Q E hr h => ?_)
  · obtain ⟨_, _, _, _, _, _, rfl, _⟩ := h
    rfl
  · obtain ⟨p, l, d, w, c, cm, rfl, hw, hl, hc, q⟩ := h
    obtain ⟨dx, ep⟩ := hw.self
    have hu := hu_of hr
    refine ⟨_, PSs.nox (pss_one (ps_ret (pe_lc (own := [("name", 2)]) (by rfl) sc_names_in.nd (pi_list (pe_meth0 (pv 0) T.cl_Web T.m_Web_points (ok_Web_points T) (hr.mono (by decide)) T.k_Web_points .nil pass0)) (blkOk_by (own := [("name", 2)]) (N := N_names_in) (sc := defScope s_names_in) (by decide +kernel)) (fun _ _ _ _ _ => (pg_name (i := 2) sc_names_in.nd rfl (Or.inl rfl))) (fun _ _ _ _ _ => (pts_one (pt_cmp (pc_din hu (pv 2) (pv 1))))) (fun _ _ _ _ _ => (pv 2))))), ?_⟩
    walk_at "go"
    refine i_kMethC ep rfl ?_
    walk_at "go"
    refine ⟨p, l, d, w, rfl, hw, fun b hb => ?_⟩
    have s1 : Same H (upd H b (.lst (w.ps.map V.str))) := Same.new hb
    have eb : (upd H b (.lst (w.ps.map V.str))) b = some (.lst (w.ps.map V.str)) := upd_same
    generalize upd H b (.lst (w.ps.map V.str)) = H1 at s1 eb ⊢
    walk_at "go"
    refine i_kListI (SqL.of eb) ?_
    intro D hD
    refine lc_it walk_list (fun m H' => Same H1 H' ∧ H' D = some (.lst ((namesIn (w.ps.take m) cm).map V.str)))
      ⟨Same.new hD, by rw [upd_same]; rfl⟩ (fun i H' _ h => SqL.of (h.1 _ _ eb)) ?_ ?_
    · rintro i v H2 H3 hi ⟨s2, eD⟩ ⟨rfl, hv⟩
      rw [List.length_map] at hi
      rw [List.getElem?_map, List.getElem?_eq_getElem hi] at hv
      cases hv
      have tk : w.ps.take (i + 1) = w.ps.take i ++ [w.ps[i]] := by rw [List.take_add_one, List.getElem?_eq_getElem hi]; rfl
      rw [tk]
      generalize w.ps[i] = y
      obtain ⟨kvs, ec, tw⟩ := (hc.same (s1.trans s2)).ex
      walk_at "go"
      refine ⟨rfl, ?_⟩
      walk_at "go"
      refine i_kDInS ec ?_
      rw [cm_isSome tw]
      walk_at "go"
      refine i_dec (fun e => ?_) (fun e => ?_)
      · walk_at "go"
        refine ⟨_, eD, ?_, Same.mut s2 hD, ?_⟩
        · have := List.length_filter_le (fun x => decide (x ∈ keysC cm)) (w.ps.take i)
          rw [List.length_take] at this
          unfold namesIn
          rw [List.length_map, sizeLine_eq]; omega
        · rw [upd_same]
          unfold namesIn
          rw [List.filter_append, List.map_append, List.filter_cons, if_pos (decide_eq_true e)]
          rfl
      · refine ⟨s2, ?_⟩
        rw [eD]
        unfold namesIn
        rw [List.filter_append, List.filter_cons, if_neg (by simpa using e), List.filter_nil, List.append_nil]
    · rintro H2 ⟨s2, eD⟩
      rw [List.length_map, List.take_length] at eD
      walk_at "go"
      exact q D _ (s1.trans s2) (s1.free hD) eD
def sp_free_steps (K : PySem.W.Frag) : Sp := fun vs H Q _ => ∃ nm tl as ps ts, vs = [.ref nm, .ref tl] ∧ H nm = some (.lst ((ps : List Str).map V.str)) ∧ H tl = some (.lst (as.map V.ref)) ∧ TiesL K H as ts ∧ ps.Nodup ∧ ps.length ≤ 16 ∧ ts.length ≤ 48 ∧
  (∀ n t, (n, t) ∈ ts → t.t ∈ ps ∧ t.h ∈ ps) ∧ ∀ e L H', Same H H' → H e = none → StD H' e ps L (freeS ts) → Q (.ref e) H'
theorem ok_free_steps (T : Tx K mg) : FnOk P w K mg base CX0 1 (He.ga K "free_steps") T.fd_free_steps ["names", "ties"] (sp_free_steps K) := by
  refine T.F_free_steps.ok sc_free_steps (fun vs H Q E h => ?_) (fun cdv A outer s H vs Q E hr h => ?_)
  · obtain ⟨_, _, _, _, _, rfl, _⟩ := h
    rfl
  · obtain ⟨nm, tl, as, ps, ts, rfl, hnm, htl, hts, nd, l16, l48, ends, q⟩ := h
    have hu := hu_of hr
    refine ⟨_, PSs.nox (pss_cons (ps_setDc (i := 2) (own := [("name", 4)]) (by rfl) sc_free_steps.nd rfl rfl (swD_true rfl rfl rfl (by decide +kernel)) (pi_list (pv 0)) (blkOk_by (own := [("name", 4)]) (N := N_free_steps) (sc := defScope s_free_steps) (by decide +kernel)) (fun _ _ _ _ _ => (pg_name (i := 4) sc_free_steps.nd rfl (Or.inl rfl))) (fun _ _ _ _ _ => pts_nil) (fun _ _ _ _ _ => (pv 4)) (fun _ _ _ _ _ => (pe_lst pa_nil)))
      (pss_cons (ps_for PassesOwn.never rfl (pi_list (pv 1)) (pg_name (i := 3) sc_free_steps.nd rfl (Or.inl rfl))
      (pss_cons (ps_expr (pe_bm PySem.F.plainAttrs_list PySem.F.slot_list_append PySem.F.type_list_append mt_append (pe_dget hu (pv 2) (pe_fld (pv 3) rfl) (fun _ _ => rfl)) (pa_cons (pe_tup (pa_cons (pe_fld (pv 3) rfl) (pa_cons (pe_fld (pv 3) rfl) pa_nil))) pa_nil)))
      (pss_one (ps_if (pt_not (pt_val (pe_fld (pv 3) rfl))) (pss_one (ps_expr (pe_bm PySem.F.plainAttrs_list PySem.F.slot_list_append PySem.F.type_list_append mt_append (pe_dget hu (pv 2) (pe_fld (pv 3) rfl) (fun _ _ => rfl)) (pa_cons (pe_tup (pa_cons (pe_fld (pv 3) rfl) (pa_cons (pe_fld (pv 3) rfl) pa_nil))) pa_nil)))) pss_nil))))
      (pss_one (ps_ret (pv 2))))), ?_⟩
    have c1 := T.cl_Tie
    have c2 := T.na_Tie_number
    have c5 := T.na_Tie_tail
    have c6 := T.na_Tie_head
    have c7 := T.na_Tie_is_oneway
    walk_at "go"
    refine i_kListI (SqL.of hnm) ?_
    intro e he
    refine dc_it walk_list (fun m H' => Same H H' ∧ ∃ L : Str → Addr, StD H' e (ps.take m) L (fun _ => []) ∧ ∀ x ∈ ps.take m, H (L x) = none)
      ⟨Same.new he, fun _ => e, ⟨by rw [upd_same]; rfl, by simp, by simp⟩, by simp⟩ (fun i H' _ h => SqL.of (h.1 _ _ hnm)) ?_ ?_
    · rintro i v H2 H3 hi ⟨s2, L, sd, fr⟩ ⟨rfl, hv⟩
      rw [List.length_map] at hi
      rw [List.getElem?_map, List.getElem?_eq_getElem hi] at hv
      cases hv
      have tk : ps.take (i + 1) = ps.take i ++ [ps[i]] := by rw [List.take_add_one, List.getElem?_eq_getElem hi]; rfl
      have hni : ¬ ps[i] ∈ ps.take i := by
        intro m
        obtain ⟨k, hk, ek⟩ := List.mem_take_iff_getElem.mp m
        have := (List.getElem_inj nd (h₀ := by omega) (h₁ := hi)).mp ek
        omega
      generalize ps[i] = y at tk hni ⊢
      walk_at "go"
      refine ⟨rfl, ?_⟩
      walk_at "go"
      refine ⟨by walk_at "sz", fun b hb => ?_⟩
      have s3 : Same H3 (upd H3 b (.lst [])) := Same.new hb
      have sd3 := sd.same s3
      have eb : (upd H3 b (.lst [])) b = some (.lst []) := upd_same
      have fb := s2.free hb
      have nbL : ∀ x ∈ ps.take i, L x ≠ b := fun x hx e => by
        obtain ⟨as, e2, _⟩ := (sd.at' x hx).ex
        rw [e, hb] at e2; cases e2
      generalize upd H3 b (.lst []) = H4 at s3 sd3 eb ⊢
      have ee := sd3.dict
      have neb : e ≠ b := fun q => by rw [q, eb] at ee; cases ee
      refine ⟨_, Sum.inr y, rfl, ee, by rw [List.length_map, List.length_take, sizeLine_eq]; omega, Same.mut (s2.trans s3) he, fun x => if x = y then b else L x, ⟨?_, ?_, ?_⟩, ?_⟩
      · rw [upd_same, tk, List.map_append, List.map_cons, List.map_nil, if_pos rfl]
        have e1 : ((ps.take i).map fun x => ((Sum.inr x : Key), V.ref (L x))) = (ps.take i).map fun x => ((Sum.inr x : Key), V.ref (if x = y then b else L x)) := by
          apply List.map_congr_left
          intro x hx
          rw [if_neg (fun e => hni (by rw [← e]; exact hx))]
        have e2 : putK ((ps.take i).map fun x => ((Sum.inr x : Key), V.ref (L x))) (Sum.inr y) (.ref b) = ((ps.take i).map fun x => ((Sum.inr x : Key), V.ref (L x))) ++ [(Sum.inr y, .ref b)] := by
          unfold putK
          rw [if_neg]
          intro q
          obtain ⟨kv, hk, e2⟩ := List.any_eq_true.mp q
          obtain ⟨x, hx, rfl⟩ := List.mem_map.mp hk
          have : (Sum.inr x : Key) = Sum.inr y := by simpa using e2
          exact hni (by rw [← Sum.inr.inj this]; exact hx)
        rw [e2, e1]
      · intro x hx z hz exz
        have exz : (if x = y then b else L x) = (if z = y then b else L z) := exz
        rw [tk] at hx hz
        rcases List.mem_append.mp hx with hx | hx <;> rcases List.mem_append.mp hz with hz | hz
        · rw [if_neg (fun e => hni (by rw [← e]; exact hx)), if_neg (fun e => hni (by rw [← e]; exact hz))] at exz
          exact sd.inj x hx z hz exz
        · rw [if_neg (fun e => hni (by rw [← e]; exact hx)), if_pos (List.mem_singleton.mp hz)] at exz
          exact absurd exz (nbL x hx)
        · rw [if_pos (List.mem_singleton.mp hx), if_neg (fun e => hni (by rw [← e]; exact hz))] at exz
          exact absurd exz.symm (nbL z hz)
        · rw [List.mem_singleton.mp hx, List.mem_singleton.mp hz]
      · intro x hx
        show StL _ (if x = y then b else L x) []
        rw [tk] at hx
        by_cases c : x = y
        · rw [if_pos c]
          exact ⟨[], (upd_ne neb.symm).trans eb, .nil⟩
        · rw [if_neg c]
          have hx : x ∈ ps.take i := by
            rcases List.mem_append.mp hx with h | h
            · exact h
            · exact absurd (List.mem_singleton.mp h) c
          obtain ⟨as, e2, t2⟩ := (sd3.at' x hx).ex
          have n2 : L x ≠ e := fun q => by rw [q, ee] at e2; cases e2
          have : as = [] := by cases t2; rfl
          subst this
          exact ⟨[], (upd_ne n2).trans e2, .nil⟩
      · intro x hx
        show H (if x = y then b else L x) = none
        rw [tk] at hx
        by_cases c : x = y
        · rw [if_pos c]; exact fb
        · rw [if_neg c]
          rcases List.mem_append.mp hx with h | h
          · exact fr x h
          · exact absurd (List.mem_singleton.mp h) c
    · rintro H2 ⟨s2, L, sd, fr⟩
      rw [List.length_map, List.take_length] at sd fr
      have htl2 := s2 _ _ htl
      have hts2 := hts.same s2
      have hlen := Two.len hts
      walk_at "go"
      refine i_kListI (SqL.of htl2) ?_
      refine for_it walk_list (fun i σ H' => Same H H' ∧ StD H' e ps L (freeS (ts.take i)) ∧ ∃ v, σ = [some (.ref nm), some (.ref tl), some (.ref e), v, none])
        ⟨s2, sd.congr (fun x _ => by simp [freeS]), none, rfl⟩ (fun i σ H' _ h => SqL.of (h.1 _ _ htl)) ?_ ?_
      · rintro i v σ H3 H4 hi ⟨s3, sd3, v0, rfl⟩ ⟨rfl, hv⟩
        rw [List.length_map] at hi
        rw [List.getElem?_map, List.getElem?_eq_getElem hi] at hv
        cases hv
        obtain ⟨⟨n, t⟩, et, ta⟩ := Two.get hts (List.getElem?_eq_getElem hi)
        obtain ⟨dy, ta3⟩ := ta.same s3
        obtain ⟨m1, m2⟩ := ends n t (List.mem_of_getElem? et)
        have tk : ts.take (i + 1) = ts.take i ++ [(n, t)] := by rw [List.take_add_one, et]; rfl
        have lb : ∀ x, (freeS (ts.take i) x).length ≤ 96 := fun x => by
          have := free_len (ts.take i) x
          rw [List.length_take] at this
          omega
        rw [tk]
        have sdg := sd3.dict
        walk_at "go"
        refine i_kDGetS sdg (sd3.get m1) ?_
        obtain ⟨bs, eb, _⟩ := (sd3.at' _ m1).ex
        refine i_kTyL (SqL.of eb) ?_
        walk_at "go"
        refine ⟨by walk_at "sz", fun p3 hp3 => ?_⟩
        have s4 := Same.new hp3 (o := .tup [.int n, .str t.h])
        obtain ⟨cs, ec, lc, sd5⟩ := (sd3.same s4).add m1 (a := p3) (y := t.h) (n := n) upd_same
        have lc1 := lb t.t
        walk_at "go"
        refine i_append ec ?_ (by rw [List.length_map, lc, sizeLine_eq]; omega)
        have s5 := Same.mut (s3.trans s4) (fr t.t m1) (o := .lst (cs.map V.ref ++ [.ref p3]))
        generalize upd (upd _ p3 (.tup [.int n, .str t.h])) (L t.t) (.lst (cs.map V.ref ++ [.ref p3])) = H5 at sd5 s5 ⊢
        obtain ⟨dz, ta5⟩ := ta.same s5
        have sdg5 := sd5.dict
        walk_at "go"
        refine i_b (fun eo => ?_) (fun eo => ?_)
        · walk_at "go"
          refine ⟨s5, sd5.congr (fun x _ => ?_), _, rfl⟩
          rw [free_snoc]
          unfold freeOne
          show (if x = t.t then _ else _) = freeS (ts.take i) x ++ ((if t.t = x then [(n, t.h)] else []) ++ if t.o = false ∧ t.h = x then [(n, t.t)] else [])
          rw [if_neg (fun e => (by have := e.1; rw [eo] at this; cases this) : ¬ (t.o = false ∧ t.h = x)), List.append_nil]
          by_cases c : x = t.t
          · rw [if_pos c, if_pos c.symm]
          · rw [if_neg c, if_neg (fun e => c e.symm), List.append_nil]
        · walk_at "go"
          refine i_kDGetS sdg5 (sd5.get m2) ?_
          obtain ⟨bs2, eb2, _⟩ := (sd5.at' _ m2).ex
          refine i_kTyL (SqL.of eb2) ?_
          walk_at "go"
          refine ⟨by walk_at "sz", fun p4 hp4 => ?_⟩
          have s6 := Same.new hp4 (o := .tup [.int n, .str t.t])
          obtain ⟨cs2, ec2, lc2, sd7⟩ := (sd5.same s6).add m2 (a := p4) (y := t.t) (n := n) upd_same
          have lc3 := lb t.h
          walk_at "go"
          refine i_append ec2 ?_ (by
            rw [List.length_map, lc2, sizeLine_eq]
            split
            · rw [List.length_append, List.length_singleton]; omega
            · omega)
          have s7 := Same.mut (s5.trans s6) (fr t.h m2) (o := .lst (cs2.map V.ref ++ [.ref p4]))
          generalize upd (upd _ p4 (.tup [.int n, .str t.t])) (L t.h) (.lst (cs2.map V.ref ++ [.ref p4])) = H7 at sd7 s7 ⊢
          walk_at "go"
          refine ⟨s7, sd7.congr (fun x _ => ?_), _, rfl⟩
          rw [free_snoc]
          unfold freeOne
          show (if x = t.h then (if x = t.t then _ else _) ++ _ else (if x = t.t then _ else _)) = freeS (ts.take i) x ++ ((if t.t = x then [(n, t.h)] else []) ++ if t.o = false ∧ t.h = x then [(n, t.t)] else [])
          by_cases c : x = t.t <;> by_cases c2 : x = t.h
          · rw [if_pos c2, if_pos c, if_pos c.symm, if_pos ⟨eo, c2.symm⟩, List.append_assoc]
          · rw [if_neg c2, if_pos c, if_pos c.symm, if_neg (fun e => c2 e.2.symm), List.append_nil]
          · rw [if_pos c2, if_neg c, if_neg (fun e => c e.symm), if_pos ⟨eo, c2.symm⟩, List.nil_append]
          · rw [if_neg c2, if_neg c, if_neg (fun e => c e.symm), if_neg (fun e => c2 e.2.symm), List.append_nil, List.append_nil]
      · rintro σ H3 ⟨s3, sd3, v0, rfl⟩
        rw [List.length_map, hlen, List.take_length] at sd3
        walk_at "go"
        exact q e L H3 s3 he sd3
end
end K18

set_option Elab.async false
set_option linter.all false
set_option maxRecDepth 100000
set_option maxHeartbeats 2000000
namespace K18
open PySem PySem.Spec PyProof.Rows L2 HX WB
local macro_rules | `(tactic| walk_at "side") => `(tactic| first
  | assumption
  | rfl
  | (show (0 : Int) < _; omega)
  | (unfold CDiv; omega)
  | (unfold CMul; omega)
  | (unfold CPow; omega)
  | (rw [sizeLine_eq]; omega)
  | omega)
local macro_rules | `(tactic| walk_at "e") => `(tactic| first
  | ((with_reducible apply i_var); exact rfl)
  | (with_reducible apply i_c)
  | (with_reducible apply i_op)
  | (with_reducible apply i_un)
  | (with_reducible apply i_rI0)
  | ((with_reducible apply i_rI); (case c => walk_at "side"))
  | (with_reducible apply i_rGe)
  | (with_reducible apply i_rGt)
  | (with_reducible apply i_rU)
  | (with_reducible apply i_rEqI)
  | (with_reducible apply i_rNeI)
  | (with_reducible apply i_rEqS)
  | (with_reducible apply i_rNeS)
  | (with_reducible apply i_rEqB)
  | (with_reducible apply i_rNeB)
  | (with_reducible apply i_rIsN)
  | (with_reducible apply i_rNotN)
  | (with_reducible apply i_rInS)
  | (with_reducible apply i_rNotInS)
  | ((with_reducible apply i_catS); (case c => walk_at "side"))
  | (with_reducible apply i_tcb)
  | (with_reducible apply i_nil)
  | (with_reducible apply i_cons)
  | ((with_reducible apply i_lenS); (case c => walk_at "side"))
  | ((with_reducible apply i_lenL); assumption)
  | (with_reducible apply i_abs)
  | (with_reducible apply i_max2)
  | (with_reducible apply i_min2)
  | ((with_reducible apply i_strI); (case c => walk_at "side"))
  | (with_reducible apply i_intB)
  | (with_reducible apply i_test)
  | (with_reducible apply i_tB)
  | (with_reducible apply i_kB)
  | (with_reducible apply i_and)
  | (with_reducible apply i_or)
  | (with_reducible apply i_not)
  | (with_reducible apply i_if)
  | (with_reducible apply i_andV)
  | (with_reducible apply i_orV)
  | (with_reducible apply i_notV)
  | (with_reducible apply i_kAndV)
  | (with_reducible apply i_kOrV)
  | (with_reducible apply i_kNotV)
  | (with_reducible apply i_chain)
  | (with_reducible apply i_kChain)
  | (with_reducible apply i_drop)
  | (with_reducible apply i_ret)
  | (with_reducible apply i_retN)
  | (with_reducible apply i_ifS)
  | (with_reducible apply i_asg)
  | (with_reducible apply i_gName)
  | (with_reducible apply i_for)
  | (with_reducible apply i_lc)
  | (with_reducible apply i_iList)
  | (with_reducible apply i_iTup)
  | (with_reducible apply i_iStr)
  | (with_reducible apply i_kStrI)
  | (with_reducible apply i_lst)
  | (with_reducible apply i_tup)
  | (with_reducible apply i_call)
  | (with_reducible apply i_m1)
  | (with_reducible apply i_kStr)
  | (with_reducible apply i_bm)
  | (with_reducible apply i_bm0)
  | (with_reducible apply i_part)
  | (with_reducible apply i_kInt)
  | (with_reducible apply i_noPart)
  | (with_reducible apply i_sl)
  | (with_reducible apply i_range1)
  | (with_reducible apply i_range2)
  | ((with_reducible apply i_kRng1); (case c => walk_at "side"))
  | ((with_reducible apply i_kRng2); (case c => walk_at "side"))
  | (with_reducible apply i_gCons)
  | (with_reducible apply i_gNil)
  | (with_reducible apply i_gSub)
  | (with_reducible apply i_iZip)
  | (with_reducible apply i_yes)
  | (with_reducible apply i_ift)
  | (with_reducible apply i_iff)
  | (with_reducible apply i_nb))
local macro_rules | `(tactic| walk_at "go") => `(tactic| repeat (first | (with_reducible apply i_seq) | (with_reducible apply i_next) | walk_at "e"))
local macro_rules | `(tactic| walk_at "ge") => `(tactic| repeat walk_at "e")
local macro_rules | `(tactic| walk_at "sz") => `(tactic| first | decide | (rw [sizeLine_eq]; simp; done) | (rw [sizeLine_eq]; omega))
local macro_rules | `(tactic| walk_at "side") => `(tactic| (with_reducible exact WB.most_pos))
local macro_rules | `(tactic| walk_at "e") => `(tactic| first
  | ((with_reducible apply i_isT (b := true)); exact rfl)
  | ((with_reducible apply i_isT (b := false)); exact rfl)
  | (with_reducible apply i_fld)
  | ((with_reducible apply i_kFld); (case h => assumption); (case c1 => assumption); (case c2 => assumption); (case e => first | exact lk_number | exact lk_tail | exact lk_head | exact lk_load | exact lk_oneway | exact lk_points | exact lk_ties | exact lk_given))
  | (with_reducible apply i_sfld)
  | ((with_reducible apply i_kSFld); (case h => first | assumption | exact upd_same); (case c1 => assumption); (case c2 => assumption); (case e => exact Nat.le_of_ble_eq_true rfl))
  | (with_reducible apply i_methC)
  | (with_reducible apply i_make)
  | (with_reducible apply i_fldaug)
  | (with_reducible apply i_vals)
  | (with_reducible apply i_items)
  | (with_reducible apply i_dget)
  | (with_reducible apply i_dput)
  | (with_reducible apply i_din)
  | (with_reducible apply i_dnotin)
  | (with_reducible apply i_ddel)
  | (with_reducible apply i_dc)
  | (with_reducible apply i_enum))
theorem i_pairs0 {σ : L2.St} {H : Hp} {Q : List (V × V) → Hp → Prop} (q : Q [] H) : tPairs [] σ H Q := q
theorem i_pairs {σ : L2.St} {H : Hp} {Q : List (V × V) → Hp → Prop} {tk tv : TE} {r : List (TE × TE)} (q : tk σ H fun x H1 => tv σ H1 fun y H2 => tPairs r σ H2 fun ps H3 => Q ((x, y) :: ps) H3) : tPairs ((tk, tv) :: r) σ H Q := q
section
variable {P : Program} {w : World} {K : PySem.W.Frag} {mg : Str → Option Value} {base : Heap}
def sp_came_from : Sp := fun vs H Q _ => ∃ e L ps S one, vs = [.ref e, .str one] ∧ StD H e ps L S ∧ one ∈ ps ∧ ps.length ≤ 16 ∧ (∀ a ∈ ps, ∀ s ∈ S a, s.2 ∈ ps) ∧ (∀ a ∈ ps, (S a).length ≤ 200) ∧
  ∀ c H', Same H H' → H c = none → CmAt H' c (came S one) → Q (.ref c) H'
theorem ok_came_from (T : Tx K mg) : FnOk P w K mg base CX0 1 (He.ga K "came_from") T.fd_came_from ["steps", "one"] sp_came_from := by
  refine T.F_came_from.ok sc_came_from (fun vs H Q E h => ?_) (fun cdv A outer s H vs Q E hr h => ?_)
  · obtain ⟨_, _, _, _, _, rfl, _⟩ := h
    rfl
  · obtain ⟨e, L, ps, S, one, rfl, sd, h1, l16, hS, hl, q⟩ := h
    have hu := hu_of hr
    refine ⟨_, PSs.nox (pss_cons (ps_set (i := 2) sc_came_from.nd rfl (Or.inl rfl) (pe_disp (pps_cons (pv 1) pe_non pps_nil) (by rfl) (by rfl) (fun z => by cases z) (by decide)))
      (pss_cons (ps_set (i := 3) sc_came_from.nd rfl (Or.inl rfl) (pe_lst (pa_cons (pv 1) pa_nil)))
      (pss_cons (ps_set (i := 4) sc_came_from.nd rfl (Or.inl rfl) pe_int)
      (pss_cons (ps_while PassesOwn.never (pt_cmpR op_lt (pv 4) (pe_callB x_lenL (by rfl) T.b_len (by decide +kernel) (pa_cons (pv 3) pa_nil)) (nomark _)) (pss_cons (ps_set (i := 5) sc_came_from.nd rfl (Or.inl rfl) (pe_ix ix_list (pv 3) (pv 4) (fun _ _ => rfl)))
      (pss_cons (ps_aug (i := 4) sc_came_from.nd rfl (Or.inl rfl) pe_int ip_add)
      (pss_one (ps_for PassesOwn.never rfl (pi_list (pe_dget hu (pv 0) (pv 5) (fun _ _ => rfl))) (pg_tup rfl (pgs_cons (pg_name (i := 6) sc_came_from.nd rfl (Or.inl rfl)) (pgs_cons (pg_name (i := 7) sc_came_from.nd rfl (Or.inl rfl)) pgs_nil)))
      (pss_one (ps_if (pt_cmp (pc_dnotin hu (pv 7) (pv 2))) (pss_cons (ps_dput hu (pv 2) (pv 7) (pe_tup (pa_cons (pv 6) (pa_cons (pv 5) pa_nil))) rfl)
      (pss_one (ps_expr (pe_bm PySem.F.plainAttrs_list PySem.F.slot_list_append PySem.F.type_list_append mt_append (pv 3) (pa_cons (pv 7) pa_nil))))) pss_nil)))))))
      (pss_one (ps_ret (pv 2))))))), ?_⟩
    walk_at "go"
    intro c hc
    have e0 : (upd H c (.dK [])) c = some (.dK []) := upd_same
    apply i_pairs
    walk_at "go"
    apply i_pairs0
    refine ⟨e0, [(Sum.inr one, .non)], rfl, (show 1 ≤ 15 by decide), ?_⟩
    rw [upd_upd]
    have s1 : Same H (upd H c (.dK (mergeK [] [((Sum.inr one : Key), V.non)]))) := Same.new hc
    have cm1 : CmAt (upd H c (.dK (mergeK [] [((Sum.inr one : Key), V.non)]))) c [(one, none)] := ⟨_, upd_same, .cons ⟨rfl, rfl⟩ .nil⟩
    generalize upd H c (.dK (mergeK [] [((Sum.inr one : Key), V.non)])) = H1 at s1 cm1 ⊢
    walk_at "go"
    refine ⟨by walk_at "sz", fun r hr0 => ?_⟩
    have s2 : Same H1 (upd H1 r (.lst [.str one])) := Same.new hr0
    have cm2 := cm1.same s2
    have er : (upd H1 r (.lst [.str one])) r = some (.lst [.str one]) := upd_same
    have fr := s1.free hr0
    generalize upd H1 r (.lst [.str one]) = H2 at s2 cm2 er ⊢
    have s12 := s1.trans s2
    walk_at "go"
    refine ⟨fun m σ H' => ∃ cm d, m + d = 17 ∧ d ≤ cm.length ∧ CmAt H' c cm ∧ H' r = some (.lst ((keysC cm).map V.str)) ∧ Same H H' ∧ CmOk S one cm ∧ bfs S m cm d = came S one ∧
      ∃ v5 v6 v7, σ = [some (.ref e), some (.str one), some (.ref c), some (.ref r), some (.int (d : Nat)), v5, v6, v7],
      ⟨17, [(one, none)], 0, rfl, by simp, cm2, er, s12, cmOk_one S one, rfl, none, none, none, rfl⟩, ?_⟩
    rintro m σ H3 ⟨cm, d, em, dl, ca, er3, s3, ok, eb, v5, v6, v7, rfl⟩
    have kin := ok.keys_in h1 hS
    have klen : cm.length ≤ 16 := by
      have := nodup_len ok.nd kin
      rw [keysC_len] at this
      omega
    walk_at "go"
    refine i_lenL (SqL.of er3) ?_
    walk_at "go"
    rw [List.length_map, keysC_len]
    refine i_dec (fun hlt => ?_) (fun hge => ?_)
    · have hlt : d < cm.length := by omega
      obtain ⟨m, rfl⟩ : ∃ k, m = k + 1 := ⟨m - 1, by omega⟩
      refine ⟨fun σ' H' => ∃ m', m' < m + 1 ∧ ∃ cm d, m' + d = 17 ∧ d ≤ cm.length ∧ CmAt H' c cm ∧ H' r = some (.lst ((keysC cm).map V.str)) ∧ Same H H' ∧ CmOk S one cm ∧ bfs S m' cm d = came S one ∧
        ∃ v5 v6 v7, σ' = [some (.ref e), some (.str one), some (.ref c), some (.ref r), some (.int (d : Nat)), v5, v6, v7], fun _ _ h => h, ?_⟩
      obtain ⟨⟨a, o⟩, ed⟩ : ∃ p, cm[d]? = some p := ⟨_, List.getElem?_eq_getElem hlt⟩
      have ek := keysC_get ed
      have ha := List.mem_of_getElem? ek
      have hap := kin a ha
      have sd3 := sd.same s3
      obtain ⟨as, el0, tw0⟩ := (sd.at' a hap).ex
      have el := s3 _ _ el0
      have hlen := tw0.len
      walk_at "go"
      refine i_ixL (SqL.of er3) (atI_nat (j := d) (by rw [List.getElem?_map, ek]; rfl)) ?_
      walk_at "go"
      refine ⟨_, rfl, ?_⟩
      walk_at "go"
      refine ⟨_, _, rfl, rfl, ?_⟩
      have sdg := sd3.dict
      walk_at "go"
      refine i_kDGetS sdg (sd3.get hap) ?_
      walk_at "go"
      refine i_kListI (SqL.of el) ?_
      have kin2 : ∀ j, CmOk S one (seeAll cm a ((S a).take j)) := fun j => ok.seeAll _ (fun _ hs => List.mem_of_mem_take hs) ha
      have kl2 : ∀ j, (seeAll cm a ((S a).take j)).length ≤ 16 := fun j => by
        have := nodup_len (kin2 j).nd ((kin2 j).keys_in h1 hS)
        rw [keysC_len] at this
        omega
      refine for_it walk_list (fun j σ H' => Same H H' ∧ CmAt H' c (seeAll cm a ((S a).take j)) ∧ H' r = some (.lst ((keysC (seeAll cm a ((S a).take j))).map V.str)) ∧
          ∃ v6 v7, σ = [some (.ref e), some (.str one), some (.ref c), some (.ref r), some (.int ((d : Nat) + 1 : Int)), some (.str a), v6, v7])
        ⟨s3, by simpa [seeAll] using ca, by simpa [seeAll] using er3, v6, v7, rfl⟩ (fun j σ H' _ h => SqL.of (h.1 _ _ el0)) ?_ ?_
      · rintro j v σ H4 H5 hj ⟨s4, ca4, er4, v6, v7, rfl⟩ ⟨rfl, hv⟩
        rw [List.length_map] at hj
        rw [List.getElem?_map, List.getElem?_eq_getElem hj] at hv
        cases hv
        obtain ⟨⟨n, y⟩, et, ta⟩ := Two.get tw0 (List.getElem?_eq_getElem hj)
        have ta4 : H5 as[j] = some (.tup [.int n, .str y]) := s4 _ _ ta
        have tk : seeAll cm a ((S a).take (j + 1)) = see (seeAll cm a ((S a).take j)) a (n, y) := by
          rw [List.take_add_one, et]
          unfold seeAll
          rw [List.foldl_append]
          rfl
        rw [tk]
        have kl := kl2 j
        generalize seeAll cm a ((S a).take j) = cmj at ca4 er4 kl ⊢
        walk_at "go"
        refine i_gTup (SqT.of ta4) rfl ?_
        obtain ⟨kvs, ec, tw⟩ := ca4.ex
        walk_at "go"
        refine i_kDNotInS ec ?_
        rw [cm_isSome tw]
        walk_at "go"
        refine i_dec (fun hy => ?_) (fun hy => ?_)
        · have es : see cmj a (n, y) = cmj := by unfold see; rw [if_pos hy]
          walk_at "go"
          refine ⟨s4, ?_, ?_, _, _, rfl⟩
          · rw [es]; exact ca4
          · rw [es]; exact er4
        · have es : see cmj a (n, y) = cmj ++ [(y, some (n, a))] := by unfold see; rw [if_neg hy]
          rw [es]
          walk_at "go"
          refine ⟨by walk_at "sz", fun p3 hp3 => ?_⟩
          have s5 : Same H5 (upd H5 p3 (.tup [.int n, .str a])) := Same.new hp3
          obtain ⟨kv2, ec2, kl3, ca6⟩ := (ca4.same s5).add (t := p3) (n := n) (a := a) hy upd_same
          have er5 := s5 _ _ er4
          have nrc : r ≠ c := fun q => by rw [q, ec2] at er5; cases er5
          walk_at "go"
          refine i_kDPutS ec2 (by rw [kl3, sizeLine_eq]; omega) ?_
          have s6 := Same.mut (s4.trans s5) hc (o := .dK (putK kv2 (Sum.inr y) (.ref p3)))
          have er6 := (upd_ne nrc (o := .dK (putK kv2 (Sum.inr y) (.ref p3)))).trans er5
          generalize upd (upd H5 p3 (.tup [.int n, .str a])) c (.dK (putK kv2 (Sum.inr y) (.ref p3))) = H6 at s6 ca6 er6 ⊢
          walk_at "go"
          refine i_kTyL (SqL.of er6) ?_
          walk_at "go"
          refine i_append er6 ?_ (by rw [List.length_map, keysC_len, sizeLine_eq]; omega)
          walk_at "go"
          refine ⟨Same.mut s6 fr, ?_, ?_, _, _, rfl⟩
          · obtain ⟨kv3, ec3, tw3⟩ := ca6.ex
            exact ⟨kv3, (upd_ne nrc.symm).trans ec3, tw3.mono fun _ _ r => ⟨r.1, r.2.off (fun xs => by rw [er6]; simp)⟩⟩
          · rw [upd_same, keysC_app, List.map_append]
            rfl
      · rintro σ H4 ⟨s4, ca4, er4, v6, v7, rfl⟩
        rw [List.length_map, hlen, List.take_length] at ca4 er4
        walk_at "go"
        obtain ⟨rr, er⟩ := seeAll_pre a (S a) cm
        refine ⟨m, Nat.lt_succ_self _, seeAll cm a (S a), d + 1, by omega, ?_, ca4, er4, s4, ok.seeAll _ (fun _ h => h) ha, ?_, _, _, _, rfl⟩
        · rw [er, List.length_append]; omega
        · rw [← bfs_step ed]; exact eb
    · walk_at "go"
      have : bfs S m cm d = cm := bfs_stop (by omega)
      rw [this] at eb
      rw [eb] at ca
      exact q c H3 s3 hc ca
def sp_numbers_to : Sp := fun vs H Q _ => ∃ c S one cm Y i, vs = [.ref c, .str Y] ∧ CmAt H c cm ∧ CmOk S one cm ∧ (keysC cm)[i]? = some Y ∧ i < 17 ∧ ∀ a H', Same H H' → H a = none → H' a = some (.lst ((back cm 17 Y).reverse.map V.int)) → Q (.ref a) H'
theorem ok_numbers_to (T : Tx K mg) : FnOk P w K mg base CX0 1 (He.ga K "numbers_to") T.fd_numbers_to ["came", "target"] sp_numbers_to := by
  refine T.F_numbers_to.ok sc_numbers_to (fun vs H Q E h => ?_) (fun cdv A outer s H vs Q E hr h => ?_)
  · obtain ⟨_, _, _, _, _, _, rfl, _⟩ := h
    rfl
  · obtain ⟨c, S, one, cm, Y, i, rfl, hc, ok, hy, i17, q⟩ := h
    have hu := hu_of hr
    refine ⟨_, PSs.nox (pss_cons (ps_set (i := 2) sc_numbers_to.nd rfl (Or.inl rfl) (pe_lst pa_nil))
      (pss_cons (ps_set (i := 3) sc_numbers_to.nd rfl (Or.inl rfl) (pe_dget hu (pv 0) (pv 1) (fun _ _ => rfl)))
      (pss_cons (ps_while PassesOwn.never (pt_cmpR op_notN1 (pv 3) pe_non (nomark _)) (pss_cons (ps_asg (pv 3) (pg_tup rfl (pgs_cons (pg_name (i := 4) sc_numbers_to.nd rfl (Or.inl rfl)) (pgs_cons (pg_name (i := 5) sc_numbers_to.nd rfl (Or.inl rfl)) pgs_nil))))
      (pss_cons (ps_expr (pe_bm PySem.F.plainAttrs_list PySem.F.slot_list_append PySem.F.type_list_append mt_append (pv 2) (pa_cons (pv 4) pa_nil)))
      (pss_one (ps_set (i := 3) sc_numbers_to.nd rfl (Or.inl rfl) (pe_dget hu (pv 0) (pv 5) (fun _ _ => rfl)))))))
      (pss_one (ps_ret (pe_stepL (pv 2) (pe_un un_neg pe_int))))))), ?_⟩
    walk_at "go"
    refine ⟨by walk_at "sz", fun r hr0 => ?_⟩
    have s1 : Same H (upd H r (.lst [])) := Same.new hr0
    have er : (upd H r (.lst [])) r = some (.lst []) := upd_same
    generalize upd H r (.lst []) = H1 at s1 er ⊢
    obtain ⟨kvs, ec, tw⟩ := (hc.same s1).ex
    obtain ⟨p, el⟩ := look_mem (List.mem_of_getElem? hy)
    obtain ⟨v, ev, hv⟩ := cm_some tw el
    walk_at "go"
    refine i_kDGetS ec ev ?_
    walk_at "go"
    refine ⟨fun m σ H' => ∃ ns y p v i, Same H H' ∧ H' r = some (.lst ((ns : List Int).map V.int)) ∧ (keysC cm)[i]? = some y ∧ i < m ∧ look cm y = some p ∧ CmV H' v p ∧ ns ++ back cm m y = back cm 17 Y ∧ ns.length + m ≤ 17 ∧
      ∃ v4 v5, σ = [some (.ref c), some (.str Y), some (.ref r), some v, v4, v5],
      ⟨17, [], Y, p, v, i, s1, er, hy, i17, el, hv, rfl, by simp, none, none, rfl⟩, ?_⟩
    rintro m σ H2 ⟨ns, y, p, v, i, s2, er2, hy, hi, el, hv, eb, nl, v4, v5, rfl⟩
    obtain ⟨m, rfl⟩ : ∃ k, m = k + 1 := ⟨m - 1, by omega⟩
    have fr := hr0
    cases p with
    | none =>
      have hv : v = .non := hv
      subst hv
      have e0 : back cm (m + 1) y = [] := by
        show (match look cm y with
          | some (some p) => p.1 :: back cm m p.2
          | _ => []) = _
        rw [el]
      rw [e0, List.append_nil] at eb
      subst eb
      walk_at "go"
      refine i_dec (fun _ => ?_) (fun e => absurd rfl e)
      walk_at "go"
      refine i_stepL ?_
      walk_at "go"
      refine i_kStepL (SqL.of er2) (.inr rfl) (fun a ha => ?_)
      walk_at "go"
      refine q a _ (Same.mut s2 (s2.free ha) |>.trans (Same.refl _)) (s2.free ha) ?_
      rw [upd_same, if_neg (by decide), List.map_reverse]
    | some na =>
      obtain ⟨n, a⟩ := na
      obtain ⟨t, rfl, ht⟩ := hv
      have hil := (List.getElem?_eq_some_iff.mp hy).1
      rw [keysC_len] at hil
      obtain ⟨⟨z, o⟩, e⟩ : ∃ p, cm[i]? = some p := ⟨_, List.getElem?_eq_getElem hil⟩
      have ez := keysC_get e
      rw [hy] at ez
      cases ez
      have eo := look_at ok.nd e
      rw [el] at eo
      cases eo
      have i0 : 0 < i := by
        rcases Nat.eq_zero_or_pos i with rfl | h0
        · rw [ok.hd] at e; cases e
        · exact h0
      obtain ⟨n2, a2, eo, _, j, hj, hk⟩ := ok.from' i y _ e i0
      cases eo
      obtain ⟨p2, el2⟩ := look_mem (List.mem_of_getElem? hk)
      have e0 : back cm (m + 1) y = n :: back cm m a := by
        show (match look cm y with
          | some (some p) => p.1 :: back cm m p.2
          | _ => []) = _
        rw [el]
      rw [e0] at eb
      walk_at "go"
      refine i_dec (fun e => (by cases e)) (fun _ => ?_)
      refine ⟨fun σ' H' => ∃ m', m' < m + 1 ∧ ∃ ns y p v i, Same H H' ∧ H' r = some (.lst ((ns : List Int).map V.int)) ∧ (keysC cm)[i]? = some y ∧ i < m' ∧ look cm y = some p ∧ CmV H' v p ∧ ns ++ back cm m' y = back cm 17 Y ∧ ns.length + m' ≤ 17 ∧
        ∃ v4 v5, σ' = [some (.ref c), some (.str Y), some (.ref r), some v, v4, v5], fun _ _ h => h, ?_⟩
      walk_at "go"
      refine i_gTup (SqT.of ht) rfl ?_
      walk_at "go"
      refine i_kTyL (SqL.of er2) ?_
      walk_at "go"
      refine i_append er2 ?_ (by rw [List.length_map, sizeLine_eq]; omega)
      have s3 : Same H (upd H2 r (.lst (ns.map V.int ++ [.int n]))) := Same.mut s2 hr0
      have er3 : (upd H2 r (.lst (ns.map V.int ++ [.int n]))) r = some (.lst (ns.map V.int ++ [.int n])) := upd_same
      generalize upd H2 r (.lst (ns.map V.int ++ [.int n])) = H3 at s3 er3 ⊢
      obtain ⟨kvs3, ec3, tw3⟩ := (hc.same s3).ex
      obtain ⟨v3, ev3, hv3⟩ := cm_some tw3 el2
      walk_at "go"
      refine i_kDGetS ec3 ev3 ?_
      walk_at "go"
      refine ⟨m, Nat.lt_succ_self _, ns ++ [n], a, p2, v3, j, s3, ?_, hk, by omega, el2, hv3, ?_, by rw [List.length_append, List.length_singleton]; omega, _, _, rfl⟩
      · rw [er3, List.map_append]; rfl
      · rw [List.append_assoc]; exact eb
end
end K18

set_option Elab.async false
set_option linter.all false
set_option maxRecDepth 100000
set_option maxHeartbeats 2000000
namespace K18
open PySem PySem.Spec PyProof.Rows L2 HX WB
local macro_rules | `(tactic| walk_at "side") => `(tactic| first
  | assumption
  | rfl
  | (show (0 : Int) < _; omega)
  | (unfold CDiv; omega)
  | (unfold CMul; omega)
  | (unfold CPow; omega)
  | (rw [sizeLine_eq]; omega)
  | omega)
local macro_rules | `(tactic| walk_at "e") => `(tactic| first
  | ((with_reducible apply i_var); exact rfl)
  | (with_reducible apply i_c)
  | (with_reducible apply i_op)
  | (with_reducible apply i_un)
  | (with_reducible apply i_rI0)
  | ((with_reducible apply i_rI); (case c => walk_at "side"))
  | (with_reducible apply i_rGe)
  | (with_reducible apply i_rGt)
  | (with_reducible apply i_rU)
  | (with_reducible apply i_rEqI)
  | (with_reducible apply i_rNeI)
  | (with_reducible apply i_rEqS)
  | (with_reducible apply i_rNeS)
  | (with_reducible apply i_rEqB)
  | (with_reducible apply i_rNeB)
  | (with_reducible apply i_rIsN)
  | (with_reducible apply i_rNotN)
  | (with_reducible apply i_rInS)
  | (with_reducible apply i_rNotInS)
  | ((with_reducible apply i_catS); (case c => walk_at "side"))
  | (with_reducible apply i_tcb)
  | (with_reducible apply i_nil)
  | (with_reducible apply i_cons)
  | ((with_reducible apply i_lenS); (case c => walk_at "side"))
  | ((with_reducible apply i_lenL); assumption)
  | (with_reducible apply i_abs)
  | (with_reducible apply i_max2)
  | (with_reducible apply i_min2)
  | ((with_reducible apply i_strI); (case c => walk_at "side"))
  | (with_reducible apply i_intB)
  | (with_reducible apply i_test)
  | (with_reducible apply i_tB)
  | (with_reducible apply i_kB)
  | (with_reducible apply i_and)
  | (with_reducible apply i_or)
  | (with_reducible apply i_not)
  | (with_reducible apply i_if)
  | (with_reducible apply i_andV)
  | (with_reducible apply i_orV)
  | (with_reducible apply i_notV)
  | (with_reducible apply i_kAndV)
  | (with_reducible apply i_kOrV)
  | (with_reducible apply i_kNotV)
  | (with_reducible apply i_chain)
  | (with_reducible apply i_kChain)
  | (with_reducible apply i_drop)
  | (with_reducible apply i_ret)
  | (with_reducible apply i_retN)
  | (with_reducible apply i_ifS)
  | (with_reducible apply i_asg)
  | (with_reducible apply i_gName)
  | (with_reducible apply i_for)
  | (with_reducible apply i_lc)
  | (with_reducible apply i_iList)
  | (with_reducible apply i_iTup)
  | (with_reducible apply i_iStr)
  | (with_reducible apply i_kStrI)
  | (with_reducible apply i_lst)
  | (with_reducible apply i_tup)
  | (with_reducible apply i_call)
  | (with_reducible apply i_m1)
  | (with_reducible apply i_kStr)
  | (with_reducible apply i_bm)
  | (with_reducible apply i_bm0)
  | (with_reducible apply i_part)
  | (with_reducible apply i_kInt)
  | (with_reducible apply i_noPart)
  | (with_reducible apply i_sl)
  | (with_reducible apply i_range1)
  | (with_reducible apply i_range2)
  | ((with_reducible apply i_kRng1); (case c => walk_at "side"))
  | ((with_reducible apply i_kRng2); (case c => walk_at "side"))
  | (with_reducible apply i_gCons)
  | (with_reducible apply i_gNil)
  | (with_reducible apply i_gSub)
  | (with_reducible apply i_iZip)
  | (with_reducible apply i_yes)
  | (with_reducible apply i_ift)
  | (with_reducible apply i_iff)
  | (with_reducible apply i_nb))
local macro_rules | `(tactic| walk_at "go") => `(tactic| repeat (first | (with_reducible apply i_seq) | (with_reducible apply i_next) | walk_at "e"))
local macro_rules | `(tactic| walk_at "ge") => `(tactic| repeat walk_at "e")
local macro_rules | `(tactic| walk_at "sz") => `(tactic| first | decide | (rw [sizeLine_eq]; simp; done) | (rw [sizeLine_eq]; omega))
local macro_rules | `(tactic| walk_at "side") => `(tactic| (with_reducible exact WB.most_pos))
local macro_rules | `(tactic| walk_at "e") => `(tactic| first
  | ((with_reducible apply i_isT (b := true)); exact rfl)
  | ((with_reducible apply i_isT (b := false)); exact rfl)
  | (with_reducible apply i_fld)
  | ((with_reducible apply i_kFld); (case h => assumption); (case c1 => assumption); (case c2 => assumption); (case e => first | exact lk_number | exact lk_tail | exact lk_head | exact lk_load | exact lk_oneway | exact lk_points | exact lk_ties | exact lk_given))
  | (with_reducible apply i_sfld)
  | ((with_reducible apply i_kSFld); (case h => first | assumption | exact upd_same); (case c1 => assumption); (case c2 => assumption); (case e => exact Nat.le_of_ble_eq_true rfl))
  | (with_reducible apply i_methC)
  | (with_reducible apply i_make)
  | (with_reducible apply i_fldaug)
  | (with_reducible apply i_vals)
  | (with_reducible apply i_items)
  | (with_reducible apply i_dget)
  | (with_reducible apply i_dput)
  | (with_reducible apply i_din)
  | (with_reducible apply i_dnotin)
  | (with_reducible apply i_ddel)
  | (with_reducible apply i_dc)
  | (with_reducible apply i_enum))
section
variable {P : Program} {w : World} {K : PySem.W.Frag} {mg : Str → Option Value} {base : Heap}
structure WayAt (K : PySem.W.Frag) (H : Hp) (r nl : Addr) (ns : List Int) : Prop where
  self : ∃ dx, H r = some (.ins (He.ga K "Way") dx [("numbers", .ref nl)])
  lst : H nl = some (.lst (ns.map V.int))
structure BorAt (K : PySem.W.Frag) (H : Hp) (r nl : Addr) (xs : List Str) : Prop where
  self : ∃ dx, H r = some (.ins (He.ga K "Border") dx [("names", .ref nl)])
  lst : H nl = some (.lst (xs.map V.str))
theorem WayAt.same {H H' : Hp} {r nl : Addr} {ns : List Int} (h : WayAt K H r nl ns) (m : Same H H') : WayAt K H' r nl ns := ⟨by obtain ⟨dx, e⟩ := h.self; exact ⟨dx, m _ _ e⟩, m _ _ h.lst⟩
theorem BorAt.same {H H' : Hp} {r nl : Addr} {ns : List Str} (h : BorAt K H r nl ns) (m : Same H H') : BorAt K H' r nl ns := ⟨by obtain ⟨dx, e⟩ := h.self; exact ⟨dx, m _ _ e⟩, m _ _ h.lst⟩
def sp_Way (K : PySem.W.Frag) : Sp := fun vs H Q _ => ∃ (x dx a : Addr) (ns : List Int), vs = [.ref x, .ref a] ∧ H x = some (.ins (He.ga K "Way") dx []) ∧ H a = some (.lst (ns.map V.int)) ∧
  ∀ nl, H nl = none → Q .non (upd (upd H nl (.lst (ns.map V.int))) x (.ins (He.ga K "Way") dx [("numbers", .ref nl)]))
theorem ok_Way_init (T : Tx K mg) : FnOk P w K mg base CX0 1 (He.ma K (He.ga K "Way") "__init__") T.fd_Way_init ["self", "numbers"] (sp_Way K) := by
  refine T.F_Way_init.ok sc_Way_init (fun vs H Q E h => ?_) (fun cdv A outer s H vs Q E hr h => ?_)
  · obtain ⟨_, _, _, _, rfl, _⟩ := h
    rfl
  · obtain ⟨x, dx, a, ns, rfl, hx, ha, q⟩ := h
    refine ⟨_, PSs.nox (pss_one (ps_fld (pv 0) (pe_callTy x_list (by rfl) T.b_list (by decide +kernel) (pa_cons (pv 1) pa_nil)) rfl)), ?_⟩
    have c1 := T.cl_Way
    have c2 := T.na_Way_numbers
    walk_at "go"
    refine ⟨a, _, rfl, .inl (SqL.of ha), fun nl hnl => ?_⟩
    have hx1 := (upd_ne (ne_of_none hx hnl) (o := .lst (ns.map V.int))).trans hx
    walk_at "go"
    exact q nl hnl
def sp_Border (K : PySem.W.Frag) : Sp := fun vs H Q _ => ∃ (x dx a : Addr) (xs : List Str), vs = [.ref x, .ref a] ∧ H x = some (.ins (He.ga K "Border") dx []) ∧ H a = some (.lst (xs.map V.str)) ∧
  ∀ nl, H nl = none → Q .non (upd (upd H nl (.lst (xs.map V.str))) x (.ins (He.ga K "Border") dx [("names", .ref nl)]))
theorem ok_Border_init (T : Tx K mg) : FnOk P w K mg base CX0 1 (He.ma K (He.ga K "Border") "__init__") T.fd_Border_init ["self", "names"] (sp_Border K) := by
  refine T.F_Border_init.ok sc_Border_init (fun vs H Q E h => ?_) (fun cdv A outer s H vs Q E hr h => ?_)
  · obtain ⟨_, _, _, _, rfl, _⟩ := h
    rfl
  · obtain ⟨x, dx, a, xs, rfl, hx, ha, q⟩ := h
    refine ⟨_, PSs.nox (pss_one (ps_fld (pv 0) (pe_callTy x_list (by rfl) T.b_list (by decide +kernel) (pa_cons (pv 1) pa_nil)) rfl)), ?_⟩
    have c1 := T.cl_Border
    have c2 := T.na_Border_names
    walk_at "go"
    refine ⟨a, _, rfl, .inl (SqL.of ha), fun nl hnl => ?_⟩
    have hx1 := (upd_ne (ne_of_none hx hnl) (o := .lst (xs.map V.str))).trans hx
    walk_at "go"
    exact q nl hnl
/-- what is told: a way, or the border -/
def toldBy (K : PySem.W.Frag) (H : Hp) (Q : VK) (ps : List Str) (cm : Came) (y : Str) : Prop :=
  (y ∈ keysC cm → ∀ r nl H', Same H H' → H r = none → H nl = none → WayAt K H' r nl (back cm 17 y).reverse → Q (.ref r) H') ∧
  (y ∉ keysC cm → ∀ r nl H', Same H H' → H r = none → H nl = none → BorAt K H' r nl (namesIn ps cm) → Q (.ref r) H')
def sp_way_or_border (K : PySem.W.Frag) : Sp := fun vs H Q _ => ∃ p l d w c S one cm y, vs = [.ref p, .ref c, .str y] ∧ WebAt K H p l d w ∧ w.ps.length ≤ 16 ∧ CmAt H c cm ∧ CmOk S one cm ∧ cm.length ≤ 16 ∧ toldBy K H Q w.ps cm y
theorem ok_way_or_border (T : Tx K mg) : FnOk P w K mg base CX0 3 (He.ga K "way_or_border") T.fd_way_or_border ["web", "came", "other"] (sp_way_or_border K) := by
  refine T.F_way_or_border.ok sc_way_or_border (fun vs H Q E h => ?_) (fun cdv A outer s H vs Q E hr h => ?_)
  · obtain ⟨_, _, _, _, _, _, _, _, _, rfl, _⟩ := h
    rfl
  · obtain ⟨p, l, d, w, c, S, one, cm, y, rfl, hw, l16, hc, ok, cl, q1, q2⟩ := h
    have hu := hu_of hr
    refine ⟨_, PSs.nox (pss_cons (ps_if (pt_cmp (pc_din hu (pv 2) (pv 1))) (pss_one (ps_ret (pe_make T.mk_Way (ok_Way_init T) (hr.mono (by decide)) (by rfl) T.g_Way T.k_Way_init .nil pass0 (pa_cons (pe_call (ok_numbers_to T) (hr.mono (by decide)) (by rfl) T.g_numbers_to T.F_numbers_to.kp T.k_numbers_to .nil pass0 (pa_cons (pv 1) (pa_cons (pv 2) pa_nil))) pa_nil)))) pss_nil)
      (pss_one (ps_ret (pe_make T.mk_Border (ok_Border_init T) (hr.mono (by decide)) (by rfl) T.g_Border T.k_Border_init .nil pass0 (pa_cons (pe_call (ok_names_in T) (hr.mono (by decide)) (by rfl) T.g_names_in T.F_names_in.kp T.k_names_in .nil pass0 (pa_cons (pv 0) (pa_cons (pv 1) pa_nil))) pa_nil))))), ?_⟩
    obtain ⟨kvs, ec, tw⟩ := hc.ex
    walk_at "go"
    refine i_kDInS ec ?_
    rw [cm_isSome tw]
    walk_at "go"
    refine i_dec (fun hy => ?_) (fun hy => ?_)
    · obtain ⟨i, hi⟩ := List.mem_iff_getElem?.mp hy
      have hil := (List.getElem?_eq_some_iff.mp hi).1
      rw [keysC_len] at hil
      walk_at "go"
      refine ⟨c, S, one, cm, y, i, rfl, hc, ok, hi, by omega, fun a H1 s1 ha ea => ?_⟩
      walk_at "go"
      intro x dx hx hdx hne
      refine ⟨x, dx, a, _, rfl, upd_same, (upd_ne (ne_of_none ea hx)).trans ((upd_ne (ne_of_none ea hdx)).trans ea), fun nl hnl => ?_⟩
      have s2 : Same H1 (upd (upd H1 dx (.own x)) x (.ins (He.ga K "Way") dx [])) := Same.mut (Same.new hdx) hx
      have fnl := s2.free hnl
      refine ⟨rfl, q1 hy x nl _ ?_ (s1.free hx) (s1.free fnl) ⟨⟨dx, upd_same⟩, ?_⟩⟩
      · exact s1.trans (Same.mut (Same.mut s2 fnl) hx)
      · have nx : nl ≠ x := fun e => by rw [e, upd_same] at hnl; cases hnl
        exact (upd_ne nx).trans upd_same
    · walk_at "go"
      refine ⟨p, l, d, w, c, cm, rfl, hw, l16, hc, fun a H1 s1 ha ea => ?_⟩
      walk_at "go"
      intro x dx hx hdx hne
      refine ⟨x, dx, a, _, rfl, upd_same, (upd_ne (ne_of_none ea hx)).trans ((upd_ne (ne_of_none ea hdx)).trans ea), fun nl hnl => ?_⟩
      have s2 : Same H1 (upd (upd H1 dx (.own x)) x (.ins (He.ga K "Border") dx [])) := Same.mut (Same.new hdx) hx
      have fnl := s2.free hnl
      refine ⟨rfl, q2 hy x nl _ ?_ (s1.free hx) (s1.free fnl) ⟨⟨dx, upd_same⟩, ?_⟩⟩
      · exact s1.trans (Same.mut (Same.mut s2 fnl) hx)
      · have nx : nl ≠ x := fun e => by rw [e, upd_same] at hnl; cases hnl
        exact (upd_ne nx).trans upd_same
def sp_comes (K : PySem.W.Frag) : Sp := fun vs H Q _ => ∃ p l d w x y, vs = [.ref p, .str x, .str y] ∧ WebAt K H p l d w ∧ Wok w ∧ x ∈ w.ps ∧ y ∈ w.ps ∧ toldBy K H Q w.ps (came (freeS w.ts) x) y
theorem ok_comes (T : Tx K mg) : FnOk P w K mg base CX0 5 (He.ga K "comes") T.fd_comes ["web", "one", "other"] (sp_comes K) := by
  refine T.F_comes.ok sc_comes (fun vs H Q E h => ?_) (fun cdv A outer s H vs Q E hr h => ?_)
  · obtain ⟨_, _, _, _, _, _, rfl, _⟩ := h
    rfl
  · obtain ⟨p, l, d, w, x, y, rfl, hw, ok, hx, hy, q1, q2⟩ := h
    refine ⟨_, PSs.nox (pss_cons (ps_expr (pe_call (ok_need_all T) (hr.mono (by decide)) (by rfl) T.g_need_all T.F_need_all.kp T.k_need_all .nil pass0 (pa_cons (pv 0) (pa_cons (pe_lst (pa_cons (pv 1) (pa_cons (pv 2) pa_nil))) pa_nil))))
      (pss_cons (ps_set (i := 3) sc_comes.nd rfl (Or.inl rfl) (pe_call (ok_came_from T) (hr.mono (by decide)) (by rfl) T.g_came_from T.F_came_from.kp T.k_came_from .nil pass0 (pa_cons (pe_call (ok_free_steps T) (hr.mono (by decide)) (by rfl) T.g_free_steps T.F_free_steps.kp T.k_free_steps .nil pass0 (pa_cons (pe_meth0 (pv 0) T.cl_Web T.m_Web_points (ok_Web_points T) (hr.mono (by decide)) T.k_Web_points .nil pass0) (pa_cons (pe_meth0 (pv 0) T.cl_Web T.m_Web_ties (ok_Web_ties T) (hr.mono (by decide)) T.k_Web_ties .nil pass0) pa_nil))) (pa_cons (pv 1) pa_nil))))
      (pss_one (ps_ret (pe_call (ok_way_or_border T) (hr.mono (by decide)) (by rfl) T.g_way_or_border T.F_way_or_border.kp T.k_way_or_border .nil pass0 (pa_cons (pv 0) (pa_cons (pv 3) (pa_cons (pv 2) pa_nil)))))))), ?_⟩
    have l16 := ok.le
    have l48 := ok.tl
    have ce := came_end l16 hx (free_in ok)
    have ckl : (came (freeS w.ts) x).length ≤ 16 := by
      have := nodup_len ce.nd (ce.toCmOk.keys_in hx (free_in ok))
      rw [keysC_len] at this
      omega
    walk_at "go"
    refine ⟨by walk_at "sz", fun a ha => ?_⟩
    have s1 : Same H (upd H a (.lst [.str x, .str y])) := Same.new ha
    have ea : (upd H a (.lst [.str x, .str y])) a = some (.lst (([x, y] : List Str).map V.str)) := upd_same
    generalize upd H a (.lst [.str x, .str y]) = H1 at s1 ea ⊢
    walk_at "go"
    refine ⟨p, l, d, w, a, [x, y], rfl, hw.same s1, ok, ea, fun z hz => ?_, fun H2 s2 => ?_⟩
    · rcases List.mem_cons.mp hz with rfl | hz
      · exact hx
      · rw [List.mem_singleton.mp hz]; exact hy
    have s12 := s1.trans s2
    have hw2 := hw.same s12
    obtain ⟨dx2, ep2⟩ := hw2.self
    walk_at "go"
    refine i_kMethC ep2 rfl ?_
    walk_at "go"
    refine ⟨p, l, d, w, rfl, hw2, fun b hb => ?_⟩
    have s3 : Same H2 (upd H2 b (.lst (w.ps.map V.str))) := Same.new hb
    have eb : (upd H2 b (.lst (w.ps.map V.str))) b = some (.lst (w.ps.map V.str)) := upd_same
    generalize upd H2 b (.lst (w.ps.map V.str)) = H3 at s3 eb ⊢
    have s13 := s12.trans s3
    have hw3 := hw.same s13
    obtain ⟨dx3, ep3⟩ := hw3.self
    walk_at "go"
    refine i_kMethC ep3 rfl ?_
    walk_at "go"
    refine ⟨p, l, d, w, rfl, hw3, l48, fun t as H4 s4 ht et tl => ?_⟩
    walk_at "go"
    refine ⟨b, t, as, w.ps, w.ts, rfl, s4 _ _ eb, et, tl, ok.nd, l16, l48, fun n u hu => ⟨(ok.ok n u hu).t, (ok.ok n u hu).h⟩, fun e L H5 s5 he sd => ?_⟩
    walk_at "go"
    refine ⟨e, L, w.ps, freeS w.ts, x, rfl, sd, hx, l16, free_in ok, fun z _ => by have := free_len w.ts z; omega, fun c H6 s6 hc cm => ?_⟩
    have s16 := ((s13.trans s4).trans s5).trans s6
    walk_at "go"
    refine ⟨p, l, d, w, c, freeS w.ts, x, _, y, rfl, hw.same s16, l16, cm, ce.toCmOk, ckl, fun h r nl H' m f1 f2 wa => ?_, fun h r nl H' m f1 f2 wa => ?_⟩
    · exact q1 h r nl H' (s16.trans m) (s16.free f1) (s16.free f2) wa
    · exact q2 h r nl H' (s16.trans m) (s16.free f1) (s16.free f2) wa
end
end K18

set_option Elab.async false
set_option linter.all false
set_option maxRecDepth 100000
set_option maxHeartbeats 2000000
/-! KD: lists that are held against each other, deep. -/
namespace WB
open PySem PySem.Spec PyProof.Rows L2 HX
section
variable {K : PySem.W.Frag} {H : Hp} {Q : VK}
abbrev okS (z : Str) : Bool := PyData.strOk z
theorem dp_strs : ∀ ys : List Str, DpAll K H (ys.map V.str) (ys.map PyData.str)
  | [] => .nil
  | y :: r => .cons (.str y) (dp_strs r)
theorem depth_strs : ∀ ys : List Str, PyData.depthAll (ys.map PyData.str) = 0
  | [] => by simp [PyData.depthAll]
  | y :: r => by simp [PyData.depthAll, PyData.depth, depth_strs r]
theorem lay_strs : ∀ {ys : List Str}, (∀ y ∈ ys, okS y = true) → PyData.canLayAll0 (ys.map PyData.str) = true
  | [], _ => by simp [PyData.canLayAll0]
  | y :: r, h => by
    have h1 := h y (by simp)
    have h2 := lay_strs (ys := r) fun z hz => h z (by simp [hz])
    simp only [List.map_cons, PyData.canLayAll0, PyData.canLay0, h2, Bool.and_true]
    exact h1
theorem shaped_strs {ys : List Str} (h : ∀ y ∈ ys, okS y = true) : SeqAt.shaped (.list (ys.map PyData.str)) = true := by
  unfold SeqAt.shaped
  rw [PyData.canLay0, lay_strs h, PyData.depth, depth_strs]
  rfl
theorem dp_ints : ∀ ys : List Int, DpAll K H (ys.map V.int) (ys.map PyData.int)
  | [] => .nil
  | y :: r => .cons (.int y) (dp_ints r)
theorem depth_ints : ∀ ys : List Int, PyData.depthAll (ys.map PyData.int) = 0
  | [] => by simp [PyData.depthAll]
  | y :: r => by simp [PyData.depthAll, PyData.depth, depth_ints r]
theorem lay_ints : ∀ ys : List Int, PyData.canLayAll0 (ys.map PyData.int) = true
  | [] => by simp [PyData.canLayAll0]
  | y :: r => by
    have h2 := lay_ints r
    simp only [List.map_cons, PyData.canLayAll0, PyData.canLay0, h2, Bool.and_true]
theorem shaped_ints (ys : List Int) : SeqAt.shaped (.list (ys.map PyData.int)) = true := by
  unfold SeqAt.shaped
  rw [PyData.canLay0, lay_ints, PyData.depth, depth_ints]
  rfl
theorem eqvAll_nil (f : α → PyData) : ∀ ys : List α, PyData.eqv (.list (ys.map f)) (.list []) = ys.isEmpty
  | [] => by simp [PyData.eqv, PyData.eqvAll]
  | y :: r => by simp [PyData.eqv, PyData.eqvAll]
theorem i_eqNilI {D p : Addr} {ys : List Int} (h : SqL K H D (ys.map V.int)) (h2 : SqL K H p []) (q : Q (.bl ys.isEmpty) H) : rEqD K (.ref D) (.ref p) H Q :=
  ⟨_, _, .lst h (dp_ints ys), .lst h2 .nil, shaped_ints ys, by decide +kernel, by rw [eqvAll_nil]; exact q⟩
theorem i_eqSameI {D p : Addr} {ys : List Int} (h : SqL K H D (ys.map V.int)) (h2 : SqL K H p (ys.map V.int)) (q : Q (.bl true) H) : rEqD K (.ref D) (.ref p) H Q :=
  ⟨_, _, .lst h (dp_ints ys), .lst h2 (dp_ints ys), shaped_ints ys, shaped_ints ys, by rw [SeqAt.eqv_refl _ (by rw [PyData.canLay0]; exact lay_ints ys)]; exact q⟩
theorem i_eqNil {D p : Addr} {ys : List Str} (h : SqL K H D (ys.map V.str)) (h2 : SqL K H p []) (o : ∀ y ∈ ys, okS y = true) (q : Q (.bl ys.isEmpty) H) : rEqD K (.ref D) (.ref p) H Q :=
  ⟨_, _, .lst h (dp_strs ys), .lst h2 .nil, shaped_strs o, by decide +kernel, by rw [eqvAll_nil]; exact q⟩
theorem i_eq00 {D p : Addr} (h : SqL K H D []) (h2 : SqL K H p []) (q : Q (.bl true) H) : rEqD K (.ref D) (.ref p) H Q :=
  i_eqNilI (ys := []) h h2 q
theorem i_ne00 {D p : Addr} (h : SqL K H D []) (h2 : SqL K H p []) (q : Q (.bl false) H) : rNeD K (.ref D) (.ref p) H Q :=
  ⟨_, _, .lst (xs := [].map V.int) h (dp_ints []), .lst h2 .nil, shaped_ints [], by decide +kernel, by rw [eqvAll_nil]; exact q⟩
theorem i_neSame {D p : Addr} {ys : List Str} (h : SqL K H D (ys.map V.str)) (h2 : SqL K H p (ys.map V.str)) (o : ∀ y ∈ ys, okS y = true) (q : Q (.bl false) H) : rNeD K (.ref D) (.ref p) H Q :=
  ⟨_, _, .lst h (dp_strs ys), .lst h2 (dp_strs ys), shaped_strs o, shaped_strs o, by rw [SeqAt.eqv_refl _ (by rw [PyData.canLay0]; exact lay_strs o)]; exact q⟩
theorem nm_ok {z : Str} (h : isNm z = true) : okS z = true := by
  unfold isNm at h
  simp only [Bool.and_eq_true, decide_eq_true_eq, List.all_eq_true] at h
  show PyData.strOk z = true
  unfold PyData.strOk
  rw [Array.all_eq_true']
  intro c hc
  have := h.2 c (by simpa using hc)
  exact decide_eq_true (by omega)
/-! ### rows -/
def rowD (n : Int) (t : Ti) : PyData := .tuple [.int n, .str t.t, .str t.h, .int t.c, .bool t.o]
def RowAt (H : Hp) (n : Int) (t : Ti) (a : Addr) : Prop := H a = some (.tup [.int n, .str t.t, .str t.h, .int t.c, .bl t.o])
theorem RowAt.dp {n : Int} {t : Ti} {a : Addr} (h : RowAt H n t a) : Dp K H (.ref a) (rowD n t) := .tup (SqT.of h) (.cons (.int _) (.cons (.str _) (.cons (.str _) (.cons (.int _) (.cons (.bl _) .nil)))))
def RowsL (H : Hp) (as : List Addr) (ts : Ts) : Prop := Two (fun b nt => RowAt H nt.1 nt.2 b) as ts
theorem RowsL.dp {as : List Addr} {ts : Ts} (h : RowsL H as ts) : DpAll K H (as.map V.ref) (ts.map fun nt => rowD nt.1 nt.2) := by
  induction h with
  | nil => exact .nil
  | cons h _ ih => exact .cons (RowAt.dp h) ih
def rowOk (t : Ti) : Prop := okS t.t = true ∧ okS t.h = true
theorem row_lay {n : Int} {t : Ti} (o : rowOk t) : PyData.canLay0 (rowD n t) = true := by
  unfold rowD
  simp only [PyData.canLay0, PyData.canLayAll0, Bool.and_true, Bool.true_and]
  rw [show PyData.strOk t.t = true from o.1, show PyData.strOk t.h = true from o.2]
  rfl
theorem row_depth {n : Int} {t : Ti} : PyData.depth (rowD n t) = 1 := by
  unfold rowD
  simp [PyData.depth, PyData.depthAll]
theorem row_shaped {n : Int} {t : Ti} (o : rowOk t) : SeqAt.shaped (rowD n t) = true := by
  unfold SeqAt.shaped
  rw [row_lay o, row_depth]
  rfl
theorem rows_lay : ∀ {ts : Ts}, (∀ n t, (n, t) ∈ ts → rowOk t) → PyData.canLayAll0 (ts.map fun nt => rowD nt.1 nt.2) = true
  | [], _ => by simp [PyData.canLayAll0]
  | (n, t) :: r, o => by
    have h2 := rows_lay (ts := r) fun m u hu => o m u (List.mem_cons_of_mem _ hu)
    have h1 := row_lay (n := n) (o n t List.mem_cons_self)
    simp only [List.map_cons, PyData.canLayAll0, h1, h2, Bool.and_true]
theorem rows_depth : ∀ ts : Ts, PyData.depthAll (ts.map fun nt => rowD nt.1 nt.2) ≤ 1
  | [] => by simp [PyData.depthAll]
  | (n, t) :: r => by
    have h2 := rows_depth r
    simp only [List.map_cons, PyData.depthAll, row_depth]
    omega
theorem rows_shaped {ts : Ts} (o : ∀ n t, (n, t) ∈ ts → rowOk t) : SeqAt.shaped (.list (ts.map fun nt => rowD nt.1 nt.2)) = true := by
  have h := rows_depth ts
  unfold SeqAt.shaped
  rw [PyData.canLay0, rows_lay o, PyData.depth]
  simp
  omega
theorem i_neRows {D p : Addr} {as bs : List Addr} {ts : Ts} (h : SqL K H D (as.map V.ref)) (h2 : SqL K H p (bs.map V.ref)) (r1 : RowsL H as ts) (r2 : RowsL H bs ts) (o : ∀ n t, (n, t) ∈ ts → rowOk t) (q : Q (.bl false) H) : rNeD K (.ref D) (.ref p) H Q :=
  ⟨_, _, .lst h r1.dp, .lst h2 r2.dp, rows_shaped o, rows_shaped o, by rw [SeqAt.eqv_refl _ (by rw [PyData.canLay0]; exact rows_lay o)]; exact q⟩
theorem i_neRow {a b : Addr} {n : Int} {t : Ti} (r1 : RowAt H n t a) (r2 : RowAt H n t b) (o : rowOk t) (q : Q (.bl false) H) : rNeD K (.ref a) (.ref b) H Q :=
  ⟨_, _, r1.dp, r2.dp, row_shaped o, row_shaped o, by rw [SeqAt.eqv_refl _ (row_lay o)]; exact q⟩
theorem i_neRows0 {D p : Addr} {as : List Addr} {ts : Ts} (h : SqL K H D (as.map V.ref)) (h2 : SqL K H p []) (r1 : RowsL H as ts) (o : ∀ n t, (n, t) ∈ ts → rowOk t) (q : Q (.bl (!ts.isEmpty)) H) : rNeD K (.ref D) (.ref p) H Q :=
  ⟨_, _, .lst h r1.dp, .lst h2 .nil, rows_shaped o, by decide +kernel, by rw [eqvAll_nil]; exact q⟩
end
end WB

set_option Elab.async false
set_option linter.all false
set_option maxRecDepth 100000
set_option maxHeartbeats 2000000
/-! KP: steps along ties taken as plain ones; the law's own rows; what is come to without a tie, past a point. -/
namespace WB
open PySem PySem.Spec PyProof.Rows L2 HX
theorem plain_len (ts : Ts) (x : Str) : (plainS ts x).length ≤ 2 * ts.length := by
  unfold plainS
  induction ts with
  | nil => simp
  | cons t r ih =>
    rw [List.flatMap_cons, List.length_append]
    have : (plainOne x t).length ≤ 2 := by
      unfold plainOne
      rw [List.length_append]
      split <;> split <;> simp
    simp only [List.length_cons]
    omega
theorem plain_snoc (ts : Ts) (nt : Int × Ti) (x : Str) : plainS (ts ++ [nt]) x = plainS ts x ++ plainOne x nt := by
  unfold plainS
  rw [List.flatMap_append, List.flatMap_cons, List.flatMap_nil, List.append_nil]
theorem plain_mem {ts : Ts} {x y : Str} {n : Int} : (n, y) ∈ plainS ts x ↔ ∃ u, (n, u) ∈ ts ∧ ((u.t = x ∧ u.h = y) ∨ (u.h = x ∧ u.t = y)) := by
  unfold plainS plainOne
  rw [List.mem_flatMap]
  constructor
  · rintro ⟨⟨m, u⟩, hm, h⟩
    rcases List.mem_append.mp h with h | h
    · split at h
      · rename_i c
        simp at h
        obtain ⟨rfl, rfl⟩ := h
        exact ⟨u, hm, .inl ⟨c, rfl⟩⟩
      · simp at h
    · split at h
      · rename_i c
        simp at h
        obtain ⟨rfl, rfl⟩ := h
        exact ⟨u, hm, .inr ⟨c, rfl⟩⟩
      · simp at h
  · rintro ⟨u, hu, h⟩
    refine ⟨(n, u), hu, List.mem_append.mpr ?_⟩
    rcases h with ⟨h1, h2⟩ | ⟨h1, h2⟩
    · left; simp [h1, h2]
    · right; simp [h1, h2]
/-- the ends of some ties are points -/
def EndsIn (ts : Ts) (ps : List Str) : Prop := ∀ n t, (n, t) ∈ ts → t.t ∈ ps ∧ t.h ∈ ps
theorem Wok.ends {w : Wb} (h : Wok w) : EndsIn w.ts w.ps := fun n t ht => ⟨(h.ok n t ht).t, (h.ok n t ht).h⟩
theorem EndsIn.filter {ts : Ts} {ps : List Str} (h : EndsIn ts ps) (p : Int × Ti → Bool) : EndsIn (ts.filter p) ps := fun n t ht => h n t (List.mem_filter.mp ht).1
theorem plain_in {ts : Ts} {ps : List Str} (h : EndsIn ts ps) : ∀ a, ∀ s ∈ plainS ts a, s.2 ∈ ps := by
  rintro a ⟨n, y⟩ hs
  obtain ⟨u, hu, c⟩ := plain_mem.mp hs
  rcases c with ⟨_, rfl⟩ | ⟨_, rfl⟩
  · exact (h n u hu).2
  · exact (h n u hu).1
theorem free_in' {ts : Ts} {ps : List Str} (h : EndsIn ts ps) : ∀ a, ∀ s ∈ freeS ts a, s.2 ∈ ps := by
  rintro a ⟨n, y⟩ hs
  obtain ⟨u, hu, c⟩ := free_mem.mp hs
  rcases c with ⟨_, rfl⟩ | ⟨_, _, rfl⟩
  · exact (h n u hu).2
  · exact (h n u hu).1
/-! ### rows, as the law takes them: one-way ties ahead alone, or as plain ones -/
def turnsOf (b : Bool) (t : Ti) : List (Str × Str) := if b && t.o then [(t.t, t.h)] else [(t.t, t.h), (t.h, t.t)]
/-- the law's steps: without the tie of a number, past a point -/
def rowS (b : Bool) (g : Int) (sh : Option Str) (ts : Ts) : Steps := fun x => ts.flatMap fun nt => if nt.1 = g then [] else ((turnsOf b nt.2).filter fun p => decide (p.1 = x) && !decide (some p.2 = sh)).map fun p => (nt.1, p.2)
theorem turns_mem {b : Bool} {t : Ti} {x y : Str} : (x, y) ∈ turnsOf b t ↔ (t.t = x ∧ t.h = y) ∨ ((b && t.o) = false ∧ t.h = x ∧ t.t = y) := by
  unfold turnsOf
  by_cases c : (b && t.o) = true
  · rw [if_pos c]
    simp only [List.mem_cons, List.not_mem_nil, or_false, Prod.mk.injEq, c]
    constructor
    · rintro ⟨rfl, rfl⟩; exact .inl ⟨rfl, rfl⟩
    · rintro (⟨rfl, rfl⟩ | ⟨h, _⟩)
      · exact ⟨rfl, rfl⟩
      · cases h
  · rw [if_neg c]
    have c2 : (b && t.o) = false := by simpa using c
    simp only [List.mem_cons, List.not_mem_nil, or_false, Prod.mk.injEq, c2, true_and]
    constructor
    · rintro (⟨rfl, rfl⟩ | ⟨rfl, rfl⟩)
      · exact .inl ⟨rfl, rfl⟩
      · exact .inr ⟨rfl, rfl⟩
    · rintro (⟨rfl, rfl⟩ | ⟨rfl, rfl⟩)
      · exact .inl ⟨rfl, rfl⟩
      · exact .inr ⟨rfl, rfl⟩
theorem row_mem {b : Bool} {g n : Int} {sh : Option Str} {ts : Ts} {x y : Str} : (n, y) ∈ rowS b g sh ts x ↔ ∃ u, (n, u) ∈ ts ∧ n ≠ g ∧ (x, y) ∈ turnsOf b u ∧ some y ≠ sh := by
  unfold rowS
  rw [List.mem_flatMap]
  constructor
  · rintro ⟨⟨m, u⟩, hm, h⟩
    split at h
    · cases h
    · rename_i c
      obtain ⟨⟨a, z⟩, hp, e⟩ := List.mem_map.mp h
      obtain ⟨h1, h2⟩ := List.mem_filter.mp hp
      simp only [Bool.and_eq_true, decide_eq_true_eq, Bool.not_eq_true', decide_eq_false_iff_not] at h2
      cases e
      obtain ⟨rfl, h3⟩ := h2
      exact ⟨u, hm, c, h1, h3⟩
  · rintro ⟨u, hu, c, h1, h2⟩
    refine ⟨(n, u), hu, ?_⟩
    rw [if_neg c]
    refine List.mem_map.mpr ⟨(x, y), List.mem_filter.mpr ⟨h1, ?_⟩, rfl⟩
    simp [h2]
/-- what is come to by steps that are alike -/
theorem Rch.imp {S S' : Steps} {one y : Str} (h : ∀ a n z, (n, z) ∈ S a → ∃ m, (m, z) ∈ S' a) (r : Rch S one y) : Rch S' one y := by
  induction r with
  | here => exact .here
  | step _ s ih =>
    obtain ⟨m, hm⟩ := h _ _ _ s
    exact .step ih hm
theorem Rch.congr {S S' : Steps} {one y : Str} (h : ∀ a n z, (n, z) ∈ S a ↔ (n, z) ∈ S' a) : Rch S one y ↔ Rch S' one y :=
  ⟨Rch.imp fun a n z e => ⟨n, (h a n z).mp e⟩, Rch.imp fun a n z e => ⟨n, (h a n z).mpr e⟩⟩
theorem Leads.congr {S S' : Steps} (h : ∀ a n z, (n, z) ∈ S a → (n, z) ∈ S' a) {x y : Str} {ns : List Int} {ps : List Str} (l : Leads S x ns ps y) : Leads S' x ns ps y := by
  induction l with
  | here => exact .here _
  | snoc _ s ih => exact .snoc ih (h _ _ _ s)
/-- the ties without one -/
def less (ts : Ts) (n : Int) : Ts := ts.filter fun nt => !decide (nt.1 = n)
theorem less_mem {ts : Ts} {n m : Int} {u : Ti} : (m, u) ∈ less ts n ↔ (m, u) ∈ ts ∧ m ≠ n := by
  unfold less
  rw [List.mem_filter]
  simp
theorem plain_row {ts : Ts} {g : Int} (a : Str) (n : Int) (z : Str) : (n, z) ∈ plainS (less ts g) a ↔ (n, z) ∈ rowS false g none ts a := by
  rw [plain_mem, row_mem]
  constructor
  · rintro ⟨u, hu, c⟩
    obtain ⟨h1, h2⟩ := less_mem.mp hu
    exact ⟨u, h1, h2, turns_mem.mpr (c.imp id fun c => ⟨rfl, c⟩), by simp⟩
  · rintro ⟨u, hu, hn, ht, _⟩
    exact ⟨u, less_mem.mpr ⟨hu, hn⟩, (turns_mem.mp ht).imp id fun c => c.2⟩
theorem row_in {b : Bool} {g : Int} {sh : Option Str} {ts : Ts} {ps : List Str} (h : EndsIn ts ps) : ∀ a, ∀ s ∈ rowS b g sh ts a, s.2 ∈ ps := by
  rintro a ⟨n, y⟩ hs
  obtain ⟨u, hu, _, ht, _⟩ := row_mem.mp hs
  rcases turns_mem.mp ht with ⟨_, rfl⟩ | ⟨_, _, rfl⟩
  · exact (h n u hu).2
  · exact (h n u hu).1
theorem rch_in {S : Steps} {ps : List Str} {one : Str} (h1 : one ∈ ps) (hS : ∀ a, ∀ s ∈ S a, s.2 ∈ ps) {y : Str} (r : Rch S one y) : y ∈ ps := by
  induction r with
  | here => exact h1
  | step _ s _ => exact hS _ _ s
end WB

set_option linter.all false
set_option maxRecDepth 100000
set_option maxHeartbeats 2000000
/-! KK: knots (points that can come to each other), put in order one by one. -/
namespace WB
open PySem
/-- what can be come to -/
abbrev rc (ts : Ts) (x : Str) : List Str := keysC (came (freeS ts) x)
/-- the points of x's knot -/
def knotOf (w : Wb) (x : Str) : List Str := w.ps.filter fun y => decide (y ∈ rc w.ts x) && decide (x ∈ rc w.ts y)
def knotsBy (w : Wb) : List (List Str) := (w.ps.filter fun x => decide ((knotOf w x).head? = some x)).map (knotOf w)
/-- a tie leads into the knot from without -/
def ledOne (ks ns : List Str) (h t : Str) : Bool := decide (h ∈ ks) && (decide (t ∈ ns) && !decide (t ∈ ks))
def ledInto (ts : Ts) (ks ns : List Str) : Bool := ts.any fun nt => ledOne ks ns nt.2.h nt.2.t
def freeK (ts : Ts) (left : List (List Str)) : List (List Str) := left.filter fun k => !ledInto ts k left.flatten
def orderK (ts : Ts) : Nat → List (List Str) → List (List Str)
  | 0, _ => []
  | n + 1, left => match freeK ts left with
    | [] => []
    | k :: _ => k :: orderK ts n (left.erase k)
section
variable {w : Wb}
theorem rc_iff (ok : Wok w) {x y : Str} (hx : x ∈ w.ps) : y ∈ rc w.ts x ↔ Rch (freeS w.ts) x y := (came_end ok.le hx (free_in ok)).keys_iff
theorem rch_trans {S : Steps} {x y z : Str} (a : Rch S x y) (b : Rch S y z) : Rch S x z := by
  induction b with
  | here => exact a
  | step _ s ih => exact .step ih s
theorem rch_inF (ok : Wok w) {x y : Str} (hx : x ∈ w.ps) (h : Rch (freeS w.ts) x y) : y ∈ w.ps := by
  induction h with
  | here => exact hx
  | step _ s ih => exact free_in ok _ ih _ s
theorem knot_iff (ok : Wok w) {x y : Str} (hx : x ∈ w.ps) : y ∈ knotOf w x ↔ Rch (freeS w.ts) x y ∧ Rch (freeS w.ts) y x := by
  unfold knotOf
  rw [List.mem_filter, Bool.and_eq_true, decide_eq_true_eq, decide_eq_true_eq]
  constructor
  · rintro ⟨hy, h1, h2⟩
    exact ⟨(rc_iff ok hx).mp h1, (rc_iff ok hy).mp h2⟩
  · rintro ⟨h1, h2⟩
    have hy := rch_inF ok hx h1
    exact ⟨hy, (rc_iff ok hx).mpr h1, (rc_iff ok hy).mpr h2⟩
theorem knot_eq (ok : Wok w) {x y : Str} (hx : x ∈ w.ps) (h : y ∈ knotOf w x) : knotOf w y = knotOf w x := by
  obtain ⟨h1, h2⟩ := (knot_iff ok hx).mp h
  have hy := rch_inF ok hx h1
  unfold knotOf
  apply List.filter_congr
  intro z hz
  have e1 : (z ∈ rc w.ts y) ↔ (z ∈ rc w.ts x) := by
    rw [rc_iff ok hy, rc_iff ok hx]
    exact ⟨rch_trans h1, rch_trans h2⟩
  have e2 : (y ∈ rc w.ts z) ↔ (x ∈ rc w.ts z) := by
    rw [rc_iff ok hz, rc_iff ok hz]
    exact ⟨fun q => rch_trans q h2, fun q => rch_trans q h1⟩
  rw [decide_eq_decide.mpr e1, decide_eq_decide.mpr e2]
theorem knots_mem (ok : Wok w) {k : List Str} (h : k ∈ knotsBy w) : ∃ x, x ∈ w.ps ∧ k = knotOf w x ∧ k.head? = some x := by
  obtain ⟨x, hx, rfl⟩ := List.mem_map.mp h
  obtain ⟨h1, h2⟩ := List.mem_filter.mp hx
  exact ⟨x, h1, rfl, of_decide_eq_true h2⟩
/-- a point's knot is one of them -/
theorem knot_there (ok : Wok w) {x : Str} (hx : x ∈ w.ps) : knotOf w x ∈ knotsBy w := by
  have hs : x ∈ knotOf w x := (knot_iff ok hx).mpr ⟨.here, .here⟩
  cases e : knotOf w x with
  | nil => rw [e] at hs; cases hs
  | cons z r =>
    have hz : z ∈ knotOf w x := by rw [e]; exact List.mem_cons_self ..
    have hzp : z ∈ w.ps := (List.mem_filter.mp hz).1
    have ez := knot_eq ok hx hz
    refine List.mem_map.mpr ⟨z, List.mem_filter.mpr ⟨hzp, decide_eq_true ?_⟩, by rw [ez, e]⟩
    rw [ez, e]
    rfl
theorem knots_nodup (ok : Wok w) : (knotsBy w).Nodup := by
  refine List.pairwise_map.mpr (List.Pairwise.imp_of_mem (R := fun a b => a ≠ b) ?_ (List.Pairwise.filter _ ok.nd))
  intro a b ha hb ne e
  have h1 := of_decide_eq_true (List.mem_filter.mp ha).2
  have h2 := of_decide_eq_true (List.mem_filter.mp hb).2
  rw [e, h2] at h1
  exact ne (Option.some.inj h1).symm
/-- the knots left: each a whole one, none twice, nothing of what is left leads out to what is gone -/
structure LeftK (w : Wb) (left : List (List Str)) : Prop where
  sub : ∀ k ∈ left, k ∈ knotsBy w
  nd : left.Nodup
  cl : ∀ x ∈ left.flatten, ∀ y, Rch (freeS w.ts) x y → y ∈ left.flatten
theorem LeftK.start (ok : Wok w) : LeftK w (knotsBy w) := by
  refine ⟨fun _ h => h, knots_nodup ok, fun x hx y r => ?_⟩
  obtain ⟨k, hk, hxk⟩ := List.mem_flatten.mp hx
  obtain ⟨z, hz, rfl, _⟩ := knots_mem ok hk
  have hxp : x ∈ w.ps := (List.mem_filter.mp hxk).1
  have hy := rch_inF ok hxp r
  exact List.mem_flatten.mpr ⟨_, knot_there ok hy, (knot_iff ok hy).mpr ⟨.here, .here⟩⟩
/-- where the way into a knot enters it -/
theorem enters {S : Steps} {k : List Str} {x y : Str} (r : Rch S x y) (hx : x ∉ k) (hy : y ∈ k) : ∃ a b n, Rch S x a ∧ a ∉ k ∧ b ∈ k ∧ (n, b) ∈ S a := by
  induction r with
  | here => exact absurd hy hx
  | @step a b n h s ih =>
    by_cases c : a ∈ k
    · exact ih c
    · exact ⟨a, b, n, h, c, hy, s⟩
theorem knot_same (ok : Wok w) {k : List Str} (hk : k ∈ knotsBy w) {a b : Str} (hb : b ∈ k) (h1 : Rch (freeS w.ts) a b) (h2 : Rch (freeS w.ts) b a) : a ∈ k := by
  obtain ⟨z, hz, rfl, _⟩ := knots_mem ok hk
  obtain ⟨g1, g2⟩ := (knot_iff ok hz).mp hb
  exact (knot_iff ok hz).mpr ⟨rch_trans g1 h2, rch_trans h1 g2⟩
/-- being led into, told by what can be come to -/
theorem led_iff (ok : Wok w) {left : List (List Str)} (L : LeftK w left) {k : List Str} (hk : k ∈ left) : ledInto w.ts k left.flatten = true ↔ ∃ x ∈ left.flatten, x ∉ k ∧ ∃ y ∈ k, Rch (freeS w.ts) x y := by
  unfold ledInto ledOne
  rw [List.any_eq_true]
  constructor
  · rintro ⟨⟨n, t⟩, hm, h⟩
    simp only [Bool.and_eq_true, decide_eq_true_eq, Bool.not_eq_true', decide_eq_false_iff_not] at h
    exact ⟨t.t, h.2.1, h.2.2, t.h, h.1, .step .here (free_mem.mpr ⟨t, hm, .inl ⟨rfl, rfl⟩⟩)⟩
  · rintro ⟨x, hx, hxk, y, hy, r⟩
    obtain ⟨a, b, n, ra, ha, hb, hs⟩ := enters r hxk hy
    obtain ⟨t, hm, hs⟩ := free_mem.mp hs
    have hal := L.cl x hx a ra
    rcases hs with ⟨h1, h2⟩ | ⟨ho, h1, h2⟩
    · refine ⟨(n, t), hm, ?_⟩
      simp only [Bool.and_eq_true, decide_eq_true_eq, Bool.not_eq_true', decide_eq_false_iff_not]
      rw [h1, h2]
      exact ⟨hb, hal, ha⟩
    · -- a two-way tie: both stand in one knot
      have e1 : Rch (freeS w.ts) a b := .step .here (free_mem.mpr ⟨t, hm, .inr ⟨ho, h1, h2⟩⟩)
      have e2 : Rch (freeS w.ts) b a := .step .here (free_mem.mpr ⟨t, hm, .inl ⟨h2, h1⟩⟩)
      exact absurd (knot_same ok (L.sub k hk) hb e1 e2) ha
theorem flat_erase {left : List (List Str)} (nd : left.Nodup) {k : List Str} {x : Str} (h : x ∈ left.flatten) (hx : x ∉ k) : x ∈ (left.erase k).flatten := by
  obtain ⟨j, hj, hxj⟩ := List.mem_flatten.mp h
  exact List.mem_flatten.mpr ⟨j, (List.mem_erase_of_ne (fun e => hx (by rw [← e]; exact hxj))).mpr hj, hxj⟩
/-- one that is not led into is taken away -/
theorem LeftK.next (ok : Wok w) {left : List (List Str)} (L : LeftK w left) {k : List Str} (hk : k ∈ left) (hf : ledInto w.ts k left.flatten = false) : LeftK w (left.erase k) := by
  refine ⟨fun j hj => L.sub j (List.mem_of_mem_erase hj), L.nd.erase k, fun x hx y r => ?_⟩
  obtain ⟨j, hj, hxj⟩ := List.mem_flatten.mp hx
  have hj2 := List.mem_of_mem_erase hj
  have hxl : x ∈ left.flatten := List.mem_flatten.mpr ⟨j, hj2, hxj⟩
  have njk : j ≠ k := fun e => by
    rw [e] at hj
    exact (List.Nodup.not_mem_erase L.nd) hj
  have hxk : x ∉ k := fun m => njk (by
    obtain ⟨a, ha, e1, _⟩ := knots_mem ok (L.sub j hj2)
    obtain ⟨b, hb, e2, _⟩ := knots_mem ok (L.sub k hk)
    rw [e1] at hxj
    rw [e2] at m
    rw [e1, e2, ← knot_eq ok ha hxj, ← knot_eq ok hb m])
  refine flat_erase L.nd (L.cl x hxl y r) fun m => ?_
  have : ledInto w.ts k left.flatten = true := (led_iff ok L hk).mpr ⟨x, hxl, hxk, y, m, r⟩
  rw [hf] at this
  cases this
/-- how many points come to y -/
def comers (w : Wb) (y : Str) : Nat := (w.ps.filter fun z => decide (y ∈ rc w.ts z)).length
theorem filter_lt {α : Type} {p q : α → Bool} {xs : List α} (h : ∀ x ∈ xs, p x = true → q x = true) {a : α} (ha : a ∈ xs) (hq : q a = true) (hp : p a = false) : (xs.filter p).length < (xs.filter q).length := by
  induction xs with
  | nil => cases ha
  | cons x r ih =>
    have hr : ∀ y ∈ r, p y = true → q y = true := fun y hy => h y (List.mem_cons_of_mem _ hy)
    have le : (r.filter p).length ≤ (r.filter q).length := by
      clear ih ha h
      induction r with
      | nil => exact Nat.le_refl _
      | cons z t ih2 =>
        have i2 := ih2 fun y hy => hr y (List.mem_cons_of_mem _ hy)
        rw [List.filter_cons, List.filter_cons]
        cases e : p z with
        | true =>
          rw [hr z (List.mem_cons_self ..) e, if_pos rfl, if_pos rfl, List.length_cons, List.length_cons]
          omega
        | false =>
          rw [if_neg (by decide)]
          split
          · rw [List.length_cons]; omega
          · exact i2
    rw [List.filter_cons, List.filter_cons]
    rcases List.mem_cons.mp ha with e | ha
    · subst e
      rw [hq, hp, if_neg (by decide), if_pos rfl, List.length_cons]
      omega
    · have i2 := ih hr ha
      cases e : p x with
      | true =>
        rw [h x (List.mem_cons_self ..) e, if_pos rfl, if_pos rfl, List.length_cons, List.length_cons]
        omega
      | false =>
        rw [if_neg (by decide)]
        split
        · rw [List.length_cons]; omega
        · exact i2
/-- of some knots left there is one that is not led into -/
theorem free_there (ok : Wok w) {left : List (List Str)} (L : LeftK w left) : ∀ (n : Nat) (k : List Str), k ∈ left → (∀ y ∈ k, comers w y ≤ n) → ∃ j ∈ left, ledInto w.ts j left.flatten = false := by
  intro n
  induction n with
  | zero =>
    intro k hk hb
    obtain ⟨z, hz, e, _⟩ := knots_mem ok (L.sub k hk)
    have hzk : z ∈ k := by rw [e]; exact (knot_iff ok hz).mpr ⟨.here, .here⟩
    have := hb z hzk
    have hp : 0 < comers w z := by
      unfold comers
      exact List.length_pos_of_mem (List.mem_filter.mpr ⟨hz, decide_eq_true ((rc_iff ok hz).mpr .here)⟩)
    omega
  | succ n ih =>
    intro k hk hb
    cases hl : ledInto w.ts k left.flatten with
    | false => exact ⟨k, hk, hl⟩
    | true =>
      obtain ⟨x, hx, hxk, y, hy, r⟩ := (led_iff ok L hk).mp hl
      obtain ⟨j, hj, hxj⟩ := List.mem_flatten.mp hx
      refine ih j hj fun a ha => ?_
      have hyb := hb y hy
      obtain ⟨z, hz, e, _⟩ := knots_mem ok (L.sub j hj)
      have hxp : x ∈ w.ps := by rw [e] at hxj; exact (List.mem_filter.mp hxj).1
      have hap : a ∈ w.ps := by rw [e] at ha; exact (List.mem_filter.mp ha).1
      have hyp := rch_inF ok hxp r
      rw [e] at ha hxj
      obtain ⟨a1, a2⟩ := (knot_iff ok hz).mp ha
      obtain ⟨x1, x2⟩ := (knot_iff ok hz).mp hxj
      have ay : Rch (freeS w.ts) a y := rch_trans a2 (rch_trans x1 r)
      have lt : comers w a < comers w y := by
        unfold comers
        refine filter_lt (a := y) (fun v hv h => ?_) hyp (decide_eq_true ((rc_iff ok hyp).mpr .here)) (decide_eq_false fun h => ?_)
        · have h := of_decide_eq_true h
          exact decide_eq_true ((rc_iff ok hv).mpr (rch_trans ((rc_iff ok hv).mp h) ay))
        · have ya := (rc_iff ok hyp).mp h
          have yx : Rch (freeS w.ts) y x := rch_trans (rch_trans ya a2) x1
          exact hxk (knot_same ok (L.sub k hk) hy r yx)
      omega
theorem freeK_ne (ok : Wok w) {left : List (List Str)} (L : LeftK w left) (h : left ≠ []) : ∃ k r, freeK w.ts left = k :: r ∧ k ∈ left ∧ ledInto w.ts k left.flatten = false := by
  cases left with
  | nil => exact absurd rfl h
  | cons k0 rest =>
    obtain ⟨j, hj, hf⟩ := free_there ok L w.ps.length k0 (List.mem_cons_self ..) fun y _ => List.length_filter_le _ _
    cases e : freeK w.ts (k0 :: rest) with
    | nil =>
      have : j ∈ freeK w.ts (k0 :: rest) := List.mem_filter.mpr ⟨hj, by rw [hf]; rfl⟩
      rw [e] at this
      cases this
    | cons k r =>
      have hk : k ∈ freeK w.ts (k0 :: rest) := by rw [e]; exact List.mem_cons_self ..
      obtain ⟨h1, h2⟩ := List.mem_filter.mp hk
      exact ⟨k, r, rfl, h1, by simpa using h2⟩
theorem knots_len (ok : Wok w) : (knotsBy w).length ≤ w.ps.length := by
  unfold knotsBy
  rw [List.length_map]
  exact List.length_filter_le _ _
end
end WB

set_option Elab.async false
set_option linter.all false
set_option maxRecDepth 100000
set_option maxHeartbeats 4000000
namespace K18
open PySem PySem.Spec PyProof.Rows L2 HX WB
local macro_rules | `(tactic| walk_at "side") => `(tactic| first
  | assumption
  | rfl
  | (show (0 : Int) < _; omega)
  | (unfold CDiv; omega)
  | (unfold CMul; omega)
  | (unfold CPow; omega)
  | (rw [sizeLine_eq]; omega)
  | omega)
local macro_rules | `(tactic| walk_at "e") => `(tactic| first
  | ((with_reducible apply i_var); exact rfl)
  | (with_reducible apply i_c)
  | (with_reducible apply i_op)
  | (with_reducible apply i_un)
  | (with_reducible apply i_rI0)
  | ((with_reducible apply i_rI); (case c => walk_at "side"))
  | (with_reducible apply i_rGe)
  | (with_reducible apply i_rGt)
  | (with_reducible apply i_rU)
  | (with_reducible apply i_rEqI)
  | (with_reducible apply i_rNeI)
  | (with_reducible apply i_rEqS)
  | (with_reducible apply i_rNeS)
  | (with_reducible apply i_rEqB)
  | (with_reducible apply i_rNeB)
  | (with_reducible apply i_rIsN)
  | (with_reducible apply i_rNotN)
  | (with_reducible apply i_rInS)
  | (with_reducible apply i_rNotInS)
  | ((with_reducible apply i_catS); (case c => walk_at "side"))
  | (with_reducible apply i_tcb)
  | (with_reducible apply i_nil)
  | (with_reducible apply i_cons)
  | ((with_reducible apply i_lenS); (case c => walk_at "side"))
  | ((with_reducible apply i_lenL); assumption)
  | (with_reducible apply i_abs)
  | (with_reducible apply i_max2)
  | (with_reducible apply i_min2)
  | ((with_reducible apply i_strI); (case c => walk_at "side"))
  | (with_reducible apply i_intB)
  | (with_reducible apply i_test)
  | (with_reducible apply i_tB)
  | (with_reducible apply i_kB)
  | (with_reducible apply i_and)
  | (with_reducible apply i_or)
  | (with_reducible apply i_not)
  | (with_reducible apply i_if)
  | (with_reducible apply i_andV)
  | (with_reducible apply i_orV)
  | (with_reducible apply i_notV)
  | (with_reducible apply i_kAndV)
  | (with_reducible apply i_kOrV)
  | (with_reducible apply i_kNotV)
  | (with_reducible apply i_chain)
  | (with_reducible apply i_kChain)
  | (with_reducible apply i_drop)
  | (with_reducible apply i_ret)
  | (with_reducible apply i_retN)
  | (with_reducible apply i_ifS)
  | (with_reducible apply i_asg)
  | (with_reducible apply i_gName)
  | (with_reducible apply i_for)
  | (with_reducible apply i_lc)
  | (with_reducible apply i_iList)
  | (with_reducible apply i_iTup)
  | (with_reducible apply i_iStr)
  | (with_reducible apply i_kStrI)
  | (with_reducible apply i_lst)
  | (with_reducible apply i_tup)
  | (with_reducible apply i_call)
  | (with_reducible apply i_m1)
  | (with_reducible apply i_kStr)
  | (with_reducible apply i_bm)
  | (with_reducible apply i_bm0)
  | (with_reducible apply i_part)
  | (with_reducible apply i_kInt)
  | (with_reducible apply i_noPart)
  | (with_reducible apply i_sl)
  | (with_reducible apply i_range1)
  | (with_reducible apply i_range2)
  | ((with_reducible apply i_kRng1); (case c => walk_at "side"))
  | ((with_reducible apply i_kRng2); (case c => walk_at "side"))
  | (with_reducible apply i_gCons)
  | (with_reducible apply i_gNil)
  | (with_reducible apply i_gSub)
  | (with_reducible apply i_iZip)
  | (with_reducible apply i_yes)
  | (with_reducible apply i_ift)
  | (with_reducible apply i_iff)
  | (with_reducible apply i_nb))
local macro_rules | `(tactic| walk_at "go") => `(tactic| repeat (first | (with_reducible apply i_seq) | (with_reducible apply i_next) | walk_at "e"))
local macro_rules | `(tactic| walk_at "ge") => `(tactic| repeat walk_at "e")
local macro_rules | `(tactic| walk_at "sz") => `(tactic| first | decide | (rw [sizeLine_eq]; simp; done) | (rw [sizeLine_eq]; omega))
local macro_rules | `(tactic| walk_at "side") => `(tactic| (with_reducible exact WB.most_pos))
local macro_rules | `(tactic| walk_at "e") => `(tactic| first
  | ((with_reducible apply i_isT (b := true)); exact rfl)
  | ((with_reducible apply i_isT (b := false)); exact rfl)
  | (with_reducible apply i_fld)
  | ((with_reducible apply i_kFld); (case h => assumption); (case c1 => assumption); (case c2 => assumption); (case e => first | exact lk_number | exact lk_tail | exact lk_head | exact lk_load | exact lk_oneway | exact lk_points | exact lk_ties | exact lk_given))
  | (with_reducible apply i_sfld)
  | ((with_reducible apply i_kSFld); (case h => first | assumption | exact upd_same); (case c1 => assumption); (case c2 => assumption); (case e => exact Nat.le_of_ble_eq_true rfl))
  | (with_reducible apply i_methC)
  | (with_reducible apply i_make)
  | (with_reducible apply i_fldaug)
  | (with_reducible apply i_vals)
  | (with_reducible apply i_items)
  | (with_reducible apply i_dget)
  | (with_reducible apply i_dput)
  | (with_reducible apply i_din)
  | (with_reducible apply i_dnotin)
  | (with_reducible apply i_ddel)
  | (with_reducible apply i_dc)
  | (with_reducible apply i_enum))
/-- the same of an object -/
def ledV (H : Hp) (ks ns : List Str) : V → Bool
  | .ref a => (match H a with
    | some (.ins _ _ fs) => (match fs.lookup ("head" : Str), fs.lookup ("tail" : Str) with
      | some (.str h), some (.str t) => ledOne ks ns h t
      | _, _ => false)
    | _ => false)
  | _ => false
theorem ledV_tie {K : PySem.W.Frag} {H : Hp} {ks ns : List Str} {n : Int} {t : Ti} {a : Addr} (h : TieAt K H n t a) : ledV H ks ns (.ref a) = ledOne ks ns t.h t.t := by
  obtain ⟨dx, e⟩ := h
  unfold ledV
  simp only [e]
  rfl
theorem ledV_all {K : PySem.W.Frag} {H : Hp} {ks ns : List Str} {as : List Addr} {ts : Ts} (h : Two (fun a nt => TieAt K H nt.1 nt.2 a) as ts) : (as.map V.ref).any (ledV H ks ns) = ledInto ts ks ns := by
  unfold ledInto
  induction h with
  | nil => rfl
  | cons r _ ih => rw [List.map_cons, List.any_cons, List.any_cons, ih, ledV_tie r]
theorem inV_str {x : Str} {ys : List Str} : inV (.str x) (ys.map V.str) = decide (x ∈ ys) := by
  unfold inV
  induction ys with
  | nil => simp
  | cons y r ih =>
    rw [List.map_cons, List.any_cons, ih]
    have e : eqV (.str y) (.str x) = decide (x = y) := by
      by_cases c : x = y
      · subst c; simp [eqV]
      · simp [eqV, c]; exact fun h => c h.symm
    rw [e]
    by_cases c : x = y
    · simp [c]
    · simp [c]
theorem flat_strs {ys : List Str} : (ys.map V.str).all flatV = true := by
  rw [List.all_eq_true]
  intro v hv
  obtain ⟨y, _, rfl⟩ := List.mem_map.mp hv
  rfl
section
variable {P : Program} {w : World} {K : PySem.W.Frag} {mg : Str → Option Value} {base : Heap}
def sp_led (K : PySem.W.Frag) : Sp := fun vs H Q _ => ∃ a kn nm as ts ks ns, vs = [.ref a, .ref kn, .ref nm] ∧ H a = some (.lst ((as : List Addr).map V.ref)) ∧ Two (fun a nt => TieAt K H nt.1 nt.2 a) as (ts : Ts) ∧ H kn = some (.lst ((ks : List Str).map V.str)) ∧ H nm = some (.lst ((ns : List Str).map V.str)) ∧ H (tb K) = some (AnyL.TabO (tb K)) ∧ Q (.bl (ledInto ts ks ns)) H
theorem ok_is_led_into (T : Tx K mg) (J : Js P w K mg base) : FnOk P w K mg base CX0 1 (He.ga K "_is_led_into") T.fd_is_led_into ["ties", "knot", "names"] (sp_led K) := by
  refine AnyL.tab_ok T.F_is_led_into J.cdo sc_is_led_into (fun vs H Q E h => ?_) (fun A outer s H vs Q E hr h => ?_)
  · obtain ⟨_, _, _, _, _, _, _, rfl, _⟩ := h
    rfl
  · obtain ⟨a, kn, nm, as, ts, ks, ns, rfl, ha, hts, hk, hn, hT, q⟩ := h
    have hu := hu_of hr
    refine ⟨_, PSs.nox (pss_one (ps_ret (AnyL.pe_anyL hr (by rfl) T.b_any J.tab rfl (AnyL.gens_of rfl rfl (by decide +kernel) rfl rfl (by decide +kernel)) (pv 0) (AnyL.ee_and (AnyL.ee_in (bb := false) rfl (AnyL.ee_fld (AnyL.ee_x rfl rfl) (fun _ => rfl)) (AnyL.ee_var (i := 1) rfl rfl rfl rfl (AnyL.clo_at (by decide +kernel))) (by rfl)) (AnyL.ee_and (AnyL.ee_in (bb := false) rfl (AnyL.ee_fld (AnyL.ee_x rfl rfl) (fun _ => rfl)) (AnyL.ee_var (i := 2) rfl rfl rfl rfl (AnyL.clo_at (by decide +kernel))) (by rfl)) (AnyL.ee_one (AnyL.ee_in (bb := true) rfl (AnyL.ee_fld (AnyL.ee_x rfl rfl) (fun _ => rfl)) (AnyL.ee_var (i := 1) rfl rfl rfl rfl (AnyL.clo_at (by decide +kernel))) (by rfl))))) (fun _ _ _ h => Or.inr (Or.inl h)) (fun _ => rfl)))), ?_⟩
    have c1 := T.cl_Tie
    have c2 := T.na_Tie_head
    have c3 := T.na_Tie_tail
    walk_at "go"
    refine ⟨_, rfl, a, as.map V.ref, ledV H ks ns, rfl, SqL.of ha, hT, fun z hz => ?_, by rw [ledV_all hts]; exact q⟩
    obtain ⟨b, hb, rfl⟩ := List.mem_map.mp hz
    obtain ⟨⟨n, t⟩, _, tb⟩ := Two.mem hts hb
    have ev := ledV_tie (ks := ks) (ns := ns) tb
    obtain ⟨dx, e⟩ := tb
    rw [ev]
    unfold ledOne
    refine ⟨b, _, dx, _, .str t.h, rfl, e, c1, c2, rfl, .ref kn, rfl, kn, _, rfl, SqL.of hk, rfl, flat_strs, ?_⟩
    rw [inV_str]
    refine ⟨_, rfl, ?_⟩
    show if decide (t.h ∈ ks) = true then _ else _
    by_cases h1 : t.h ∈ ks
    · rw [if_pos (decide_eq_true h1)]
      refine ⟨b, _, dx, _, .str t.t, rfl, e, c1, c3, rfl, .ref nm, rfl, nm, _, rfl, SqL.of hn, rfl, flat_strs, ?_⟩
      rw [inV_str]
      refine ⟨_, rfl, ?_⟩
      show if decide (t.t ∈ ns) = true then _ else _
      by_cases h2 : t.t ∈ ns
      · rw [if_pos (decide_eq_true h2)]
        refine ⟨b, _, dx, _, .str t.t, rfl, e, c1, c3, rfl, .ref kn, rfl, kn, _, rfl, SqL.of hk, rfl, flat_strs, ?_⟩
        rw [inV_str]
        show V.bl (!decide (t.t ∈ ks)) = V.bl (decide (t.h ∈ ks) && (decide (t.t ∈ ns) && !decide (t.t ∈ ks)))
        rw [decide_eq_true h1, decide_eq_true h2, Bool.true_and, Bool.true_and]
      · rw [if_neg (by simpa using h2)]
        show V.bl false = V.bl (decide (t.h ∈ ks) && (decide (t.t ∈ ns) && !decide (t.t ∈ ks)))
        rw [decide_eq_false h2, Bool.false_and, Bool.and_false]
    · rw [if_neg (by simpa using h1)]
      show V.bl false = V.bl (decide (t.h ∈ ks) && (decide (t.t ∈ ns) && !decide (t.t ∈ ks)))
      rw [decide_eq_false h1, Bool.false_and]
end
end K18

set_option Elab.async false
set_option linter.all false
set_option maxRecDepth 100000
set_option maxHeartbeats 4000000
namespace K18
open PySem PySem.Spec PyProof.Rows L2 HX WB
local macro_rules | `(tactic| walk_at "side") => `(tactic| first
  | assumption
  | rfl
  | (show (0 : Int) < _; omega)
  | (unfold CDiv; omega)
  | (unfold CMul; omega)
  | (unfold CPow; omega)
  | (rw [sizeLine_eq]; omega)
  | omega)
local macro_rules | `(tactic| walk_at "e") => `(tactic| first
  | ((with_reducible apply i_var); exact rfl)
  | (with_reducible apply i_c)
  | (with_reducible apply i_op)
  | (with_reducible apply i_un)
  | (with_reducible apply i_rI0)
  | ((with_reducible apply i_rI); (case c => walk_at "side"))
  | (with_reducible apply i_rGe)
  | (with_reducible apply i_rGt)
  | (with_reducible apply i_rU)
  | (with_reducible apply i_rEqI)
  | (with_reducible apply i_rNeI)
  | (with_reducible apply i_rEqS)
  | (with_reducible apply i_rNeS)
  | (with_reducible apply i_rEqB)
  | (with_reducible apply i_rNeB)
  | (with_reducible apply i_rIsN)
  | (with_reducible apply i_rNotN)
  | (with_reducible apply i_rInS)
  | (with_reducible apply i_rNotInS)
  | ((with_reducible apply i_catS); (case c => walk_at "side"))
  | (with_reducible apply i_tcb)
  | (with_reducible apply i_nil)
  | (with_reducible apply i_cons)
  | ((with_reducible apply i_lenS); (case c => walk_at "side"))
  | ((with_reducible apply i_lenL); assumption)
  | (with_reducible apply i_abs)
  | (with_reducible apply i_max2)
  | (with_reducible apply i_min2)
  | ((with_reducible apply i_strI); (case c => walk_at "side"))
  | (with_reducible apply i_intB)
  | (with_reducible apply i_test)
  | (with_reducible apply i_tB)
  | (with_reducible apply i_kB)
  | (with_reducible apply i_and)
  | (with_reducible apply i_or)
  | (with_reducible apply i_not)
  | (with_reducible apply i_if)
  | (with_reducible apply i_andV)
  | (with_reducible apply i_orV)
  | (with_reducible apply i_notV)
  | (with_reducible apply i_kAndV)
  | (with_reducible apply i_kOrV)
  | (with_reducible apply i_kNotV)
  | (with_reducible apply i_chain)
  | (with_reducible apply i_kChain)
  | (with_reducible apply i_drop)
  | (with_reducible apply i_ret)
  | (with_reducible apply i_retN)
  | (with_reducible apply i_ifS)
  | (with_reducible apply i_asg)
  | (with_reducible apply i_gName)
  | (with_reducible apply i_for)
  | (with_reducible apply i_lc)
  | (with_reducible apply i_iList)
  | (with_reducible apply i_iTup)
  | (with_reducible apply i_iStr)
  | (with_reducible apply i_kStrI)
  | (with_reducible apply i_lst)
  | (with_reducible apply i_tup)
  | (with_reducible apply i_call)
  | (with_reducible apply i_m1)
  | (with_reducible apply i_kStr)
  | (with_reducible apply i_bm)
  | (with_reducible apply i_bm0)
  | (with_reducible apply i_part)
  | (with_reducible apply i_kInt)
  | (with_reducible apply i_noPart)
  | (with_reducible apply i_sl)
  | (with_reducible apply i_range1)
  | (with_reducible apply i_range2)
  | ((with_reducible apply i_kRng1); (case c => walk_at "side"))
  | ((with_reducible apply i_kRng2); (case c => walk_at "side"))
  | (with_reducible apply i_gCons)
  | (with_reducible apply i_gNil)
  | (with_reducible apply i_gSub)
  | (with_reducible apply i_iZip)
  | (with_reducible apply i_yes)
  | (with_reducible apply i_ift)
  | (with_reducible apply i_iff)
  | (with_reducible apply i_nb))
local macro_rules | `(tactic| walk_at "go") => `(tactic| repeat (first | (with_reducible apply i_seq) | (with_reducible apply i_next) | walk_at "e"))
local macro_rules | `(tactic| walk_at "ge") => `(tactic| repeat walk_at "e")
local macro_rules | `(tactic| walk_at "sz") => `(tactic| first | decide | (rw [sizeLine_eq]; simp; done) | (rw [sizeLine_eq]; omega))
local macro_rules | `(tactic| walk_at "side") => `(tactic| (with_reducible exact WB.most_pos))
local macro_rules | `(tactic| walk_at "e") => `(tactic| first
  | ((with_reducible apply i_isT (b := true)); exact rfl)
  | ((with_reducible apply i_isT (b := false)); exact rfl)
  | (with_reducible apply i_fld)
  | ((with_reducible apply i_kFld); (case h => assumption); (case c1 => assumption); (case c2 => assumption); (case e => first | exact lk_number | exact lk_tail | exact lk_head | exact lk_load | exact lk_oneway | exact lk_points | exact lk_ties | exact lk_given))
  | (with_reducible apply i_sfld)
  | ((with_reducible apply i_kSFld); (case h => first | assumption | exact upd_same); (case c1 => assumption); (case c2 => assumption); (case e => exact Nat.le_of_ble_eq_true rfl))
  | (with_reducible apply i_methC)
  | (with_reducible apply i_make)
  | (with_reducible apply i_fldaug)
  | (with_reducible apply i_vals)
  | (with_reducible apply i_items)
  | (with_reducible apply i_dget)
  | (with_reducible apply i_dput)
  | (with_reducible apply i_din)
  | (with_reducible apply i_dnotin)
  | (with_reducible apply i_ddel)
  | (with_reducible apply i_dc)
  | (with_reducible apply i_enum))
/-- a list of lists of texts -/
structure LL (H : Hp) (a : Addr) (as : List Addr) (xss : List (List Str)) : Prop where
  top : H a = some (.lst (as.map V.ref))
  els : Two (fun b (xs : List Str) => H b = some (.lst (xs.map V.str))) as xss
theorem LL.same {H H' : Hp} {a : Addr} {as : List Addr} {xss : List (List Str)} (h : LL H a as xss) (m : Same H H') : LL H' a as xss := ⟨m _ _ h.top, Two.mono h.els fun _ _ e => m _ _ e⟩
theorem ll_off {H : Hp} {z : Addr} {u : HO} : ∀ {as : List Addr} {xss : List (List Str)}, z ∉ as → Two (fun b (xs : List Str) => H b = some (.lst (xs.map V.str))) as xss → Two (fun b (xs : List Str) => (upd H z u) b = some (.lst (xs.map V.str))) as xss
  | _, _, _, .nil => .nil
  | _, _, h, .cons r t => .cons ((upd_ne fun e => h (by rw [← e]; exact List.mem_cons_self ..)).trans r) (ll_off (fun m => h (List.mem_cons_of_mem _ m)) t)
theorem cm_offD {H : Hp} {c D : Addr} {cm : Came} {kvs : List (Key × V)} {o : HO} (h : CmAt H c cm) (n : c ≠ D) (e : H D = some (.dK kvs)) : CmAt (upd H D o) c cm := by
  obtain ⟨kv, e1, t⟩ := h.ex
  exact ⟨kv, (upd_ne n).trans e1, t.mono fun _ _ r => ⟨r.1, r.2.off fun xs q => by rw [e] at q; cases q⟩⟩
/-- a dict of what can be come to from each point -/
structure CDAt (H : Hp) (D : Addr) (ts : Ts) (xs : List Str) (C : Str → Addr) : Prop where
  top : H D = some (.dK (xs.map fun x => ((Sum.inr x : Key), V.ref (C x))))
  els : ∀ x ∈ xs, C x ≠ D ∧ CmAt H (C x) (came (freeS ts) x)
theorem CDAt.same {H H' : Hp} {D : Addr} {ts : Ts} {xs : List Str} {C : Str → Addr} (h : CDAt H D ts xs C) (m : Same H H') : CDAt H' D ts xs C := ⟨m _ _ h.top, fun x hx => ⟨(h.els x hx).1, (h.els x hx).2.same m⟩⟩
theorem rc_self {w : Wb} (ok : Wok w) {x : Str} (hx : x ∈ w.ps) : x ∈ rc w.ts x := List.mem_of_getElem? (keysC_get (came_end ok.le hx (free_in ok)).hd)
theorem knot_self {w : Wb} (ok : Wok w) {x : Str} (hx : x ∈ w.ps) : x ∈ knotOf w x := List.mem_filter.mpr ⟨hx, by rw [decide_eq_true (rc_self ok hx)]; rfl⟩
theorem knot_len {w : Wb} (x : Str) : (knotOf w x).length ≤ w.ps.length := List.length_filter_le _ _
section
variable {P : Program} {w : World} {K : PySem.W.Frag} {mg : Str → Option Value} {base : Heap}
def sp_knots_by (K : PySem.W.Frag) : Sp := fun vs H Q _ => ∃ p l d w, vs = [.ref p] ∧ WebAt K H p l d w ∧ Wok w ∧
  ∀ r as H', Same H H' → H r = none → (∀ b ∈ as, H b = none ∧ b ≠ r) → as.Nodup → LL H' r as (knotsBy w) → Q (.ref r) H'
theorem ok_knots_by_points (T : Tx K mg) : FnOk P w K mg base CX0 5 (He.ga K "_knots_by_points") T.fd_knots_by_points ["web"] (sp_knots_by K) := by
  refine T.F_knots_by_points.ok sc_knots_by_points (fun vs H Q E h => ?_) (fun cdv A outer s H vs Q E hr h => ?_)
  · obtain ⟨_, _, _, _, rfl, _⟩ := h
    rfl
  · obtain ⟨p, l, d, w, rfl, hw, ok, q⟩ := h
    have hu := hu_of hr
    refine ⟨_, PSs.nox (pss_cons (ps_set (i := 1) sc_knots_by_points.nd rfl (Or.inl rfl) (pe_meth0 (pv 0) T.cl_Web T.m_Web_points (ok_Web_points T) (hr.mono (by decide)) T.k_Web_points .nil pass0))
      (pss_cons (ps_set (i := 2) sc_knots_by_points.nd rfl (Or.inr rfl) (pe_call (ok_free_steps T) (hr.mono (by decide)) (by rfl) T.g_free_steps T.F_free_steps.kp T.k_free_steps .nil pass0 (pa_cons (pv 1) (pa_cons (pe_meth0 (pv 0) T.cl_Web T.m_Web_ties (ok_Web_ties T) (hr.mono (by decide)) T.k_Web_ties .nil pass0) pa_nil))))
      (pss_cons (ps_set (i := 3) sc_knots_by_points.nd rfl (Or.inr rfl) (pe_dc (own := [("name", 5)]) (by rfl) sc_knots_by_points.nd (pi_list (pv 1)) (blkOk_by (own := [("name", 5)]) (N := N_knots_by_points) (sc := defScope s_knots_by_points) (by decide +kernel)) (fun _ _ _ _ _ => (pg_name (i := 5) sc_knots_by_points.nd rfl (Or.inl rfl))) (fun _ _ _ _ _ => pts_nil) (fun _ _ _ _ _ => (pv 5)) (fun _ _ _ _ _ => (pe_call (ok_came_from T) (hr.mono (by decide)) (by rfl) T.g_came_from T.F_came_from.kp T.k_came_from .nil pass0 (pa_cons (pv 2) (pa_cons (pv 5) pa_nil))))))
      (pss_cons (ps_set (i := 4) sc_knots_by_points.nd rfl (Or.inl rfl) (pe_lst pa_nil))
      (pss_cons (ps_for PassesOwn.never rfl (pi_list (pv 1)) (pg_name (i := 5) sc_knots_by_points.nd rfl (Or.inr rfl))
      (pss_cons (ps_setLc (i := 6) (own := [("point", 7)]) (by rfl) sc_knots_by_points.nd rfl rfl (sw_true rfl rfl rfl (by decide +kernel)) (pi_list (pv 1)) (blkOk_by (own := [("point", 7)]) (N := N_knots_by_points) (sc := defScope s_knots_by_points) (by decide +kernel)) (fun _ _ _ _ _ => (pg_name (i := 7) sc_knots_by_points.nd rfl (Or.inl rfl))) (fun _ _ _ _ _ => (pts_one (PW.pt (pw_and (pt_cmp (pc_din hu (pv 7) (pe_dget hu (pv 3) (pv 5) (fun _ _ => rfl)))) (pw_and1 (pt_cmp (pc_din hu (pv 5) (pe_dget hu (pv 3) (pv 7) (fun _ _ => rfl))))))))) (fun _ _ _ _ _ => (pv 7)))
      (pss_one (ps_if (pt_cmpR op_eq (pe_ix ix_list (pv 6) pe_int (fun _ _ => rfl)) (pv 5) (nomark _)) (pss_one (ps_expr (pe_bm PySem.F.plainAttrs_list PySem.F.slot_list_append PySem.F.type_list_append mt_append (pv 4) (pa_cons (pv 6) pa_nil)))) pss_nil))))
      (pss_one (ps_ret (pv 4)))))))), ?_⟩
    have l16 := ok.le
    have l48 := ok.tl
    walk_at "go"
    obtain ⟨dx, ep⟩ := hw.self
    refine i_kMethC ep rfl ?_
    walk_at "go"
    refine ⟨p, l, d, w, rfl, hw, fun nm hnm => ?_⟩
    have s1 : Same H (upd H nm (.lst (w.ps.map V.str))) := Same.new hnm
    have enm : (upd H nm (.lst (w.ps.map V.str))) nm = some (.lst (w.ps.map V.str)) := upd_same
    generalize upd H nm (.lst (w.ps.map V.str)) = H1 at s1 enm ⊢
    walk_at "go"
    refine i_kMethC (s1 _ _ ep) rfl ?_
    walk_at "go"
    refine ⟨p, l, d, w, rfl, hw.same s1, l48, fun tl as H2 s2 htl0 htl hts => ?_⟩
    walk_at "go"
    refine ⟨nm, tl, as, w.ps, w.ts, rfl, s2 _ _ enm, htl, hts, ok.nd, l16, l48, ok.ends, fun e L H3 s3 he0 sd => ?_⟩
    have s13 := (s1.trans s2).trans s3
    have enm3 := (s2.trans s3) _ _ enm
    walk_at "go"
    refine i_kListI (SqL.of enm3) ?_
    intro D hD
    refine dc_it walk_list (fun m H' => Same H3 H' ∧ ∃ C : Str → Addr, CDAt H' D w.ts (w.ps.take m) C)
      ⟨Same.new hD, fun _ => D, ⟨by rw [upd_same]; rfl, by simp⟩⟩ (fun i H' _ h => SqL.of (h.1 _ _ enm3)) ?_ ?_
    · rintro i v H4 H5 hi ⟨s4, C, cd⟩ ⟨rfl, hv⟩
      rw [List.length_map] at hi
      rw [List.getElem?_map, List.getElem?_eq_getElem hi] at hv
      cases hv
      have tk : w.ps.take (i + 1) = w.ps.take i ++ [w.ps[i]] := by rw [List.take_add_one, List.getElem?_eq_getElem hi]; rfl
      have hm : w.ps[i] ∈ w.ps := List.getElem_mem hi
      have hni : ¬ w.ps[i] ∈ w.ps.take i := by
        intro m
        obtain ⟨k, hk, ek⟩ := List.mem_take_iff_getElem.mp m
        have := (List.getElem_inj ok.nd (h₀ := by omega) (h₁ := hi)).mp ek
        omega
      generalize w.ps[i] = y at tk hni hm ⊢
      walk_at "go"
      refine ⟨rfl, ?_⟩
      walk_at "go"
      refine ⟨e, L, w.ps, freeS w.ts, y, rfl, sd.same s4, hm, l16, free_in ok, fun z _ => by have := free_len w.ts z; omega, fun c H6 s6 hc0 hc => ?_⟩
      have cd6 := cd.same s6
      have ncD : c ≠ D := fun q => by rw [q, cd.top] at hc0; cases hc0
      have e1 : ((w.ps.take i).map fun x => ((Sum.inr x : Key), V.ref (C x))) = (w.ps.take i).map fun x => ((Sum.inr x : Key), V.ref (if x = y then c else C x)) := by
        apply List.map_congr_left
        intro x hx
        rw [if_neg (fun e => hni (by rw [← e]; exact hx))]
      have e2 : putK ((w.ps.take i).map fun x => ((Sum.inr x : Key), V.ref (C x))) (Sum.inr y) (.ref c) = ((w.ps.take i).map fun x => ((Sum.inr x : Key), V.ref (C x))) ++ [(Sum.inr y, .ref c)] := by
        unfold putK
        rw [if_neg]
        intro q
        obtain ⟨kv, hk, e2⟩ := List.any_eq_true.mp q
        obtain ⟨x, hx, rfl⟩ := List.mem_map.mp hk
        have : (Sum.inr x : Key) = Sum.inr y := by simpa using e2
        exact hni (by rw [← Sum.inr.inj this]; exact hx)
      walk_at "go"
      refine ⟨_, Sum.inr y, rfl, cd6.top, by rw [List.length_map, List.length_take, sizeLine_eq]; omega, Same.mut (s4.trans s6) hD, fun x => if x = y then c else C x, ⟨?_, fun x hx => ?_⟩⟩
      · rw [upd_same, tk, List.map_append, List.map_cons, List.map_nil, if_pos rfl, e2, e1]
      · show (if x = y then c else C x) ≠ D ∧ CmAt _ (if x = y then c else C x) (came (freeS w.ts) x)
        rw [tk] at hx
        by_cases cx : x = y
        · rw [if_pos cx, cx]
          exact ⟨ncD, cm_offD hc ncD cd6.top⟩
        · rw [if_neg cx]
          have hx : x ∈ w.ps.take i := by
            rcases List.mem_append.mp hx with hx | hx
            · exact hx
            · exact absurd (List.mem_singleton.mp hx) cx
          exact ⟨(cd6.els x hx).1, cm_offD (cd6.els x hx).2 (cd6.els x hx).1 cd6.top⟩
    · rintro H4 ⟨s4, C, cd⟩
      rw [List.length_map, List.take_length] at cd
      have s14 := s13.trans s4
      have enm4 := s4 _ _ enm3
      walk_at "go"
      refine ⟨by walk_at "sz", fun r hr0 => ?_⟩
      have s5 : Same H4 (upd H4 r (.lst [])) := Same.new hr0
      have er : (upd H4 r (.lst [])) r = some (.lst []) := upd_same
      have cd5 := cd.same s5
      have s15 := s14.trans s5
      have fr : H r = none := s14.free hr0
      generalize upd H4 r (.lst []) = H5 at s5 er cd5 s15 ⊢
      have enm5 := s5 _ _ enm4
      walk_at "go"
      refine i_kListI (SqL.of enm5) ?_
      refine for_it walk_list (fun i σ H' => Same H H' ∧ H' nm = some (.lst (w.ps.map V.str)) ∧ CDAt H' D w.ts w.ps C ∧ ∃ as : List Addr, LL H' r as (((w.ps.take i).filter fun x => decide ((knotOf w x).head? = some x)).map (knotOf w)) ∧ (∀ b ∈ as, H b = none ∧ b ≠ r) ∧ as.Nodup ∧
          ∃ v5 v6 , σ = [some (.ref p), some (.ref nm), some (.ref e), some (.ref D), some (.ref r), v5, v6, none])
        ⟨s15, enm5, cd5, [], ⟨by simpa using er, by simp; exact .nil⟩, by simp, List.nodup_nil, none, none, rfl⟩ (fun i σ H' _ h => SqL.of h.2.1) ?_ ?_
      · rintro i v σ H6 H7 hi ⟨s6, enm6, cd6, as6, ll6, fr6, nd6, v5, v6, rfl⟩ ⟨rfl, hv⟩
        rw [List.length_map] at hi
        rw [List.getElem?_map, List.getElem?_eq_getElem hi] at hv
        cases hv
        have tk : w.ps.take (i + 1) = w.ps.take i ++ [w.ps[i]] := by rw [List.take_add_one, List.getElem?_eq_getElem hi]; rfl
        have hm : w.ps[i] ∈ w.ps := List.getElem_mem hi
        have fl : ((w.ps.take i).filter fun x => decide ((knotOf w x).head? = some x)).length ≤ 16 := by
          have h1 := List.length_filter_le (fun x => decide ((knotOf w x).head? = some x)) (w.ps.take i)
          rw [List.length_take] at h1
          omega
        rw [tk, List.filter_append, List.map_append]
        generalize w.ps[i] = x at hm ⊢
        obtain ⟨_, cx⟩ := cd6.els x hm
        obtain ⟨kx, ekx, tx⟩ := cx.ex
        have gx : valV (w.ps.map fun x => ((Sum.inr x : Key), V.ref (C x))) (Sum.inr x) = some (.ref (C x)) := val_dict hm
        walk_at "go"
        refine i_kListI (SqL.of enm6) ?_
        intro E hE
        refine lc_it walk_list (fun j H' => Same H7 H' ∧ H' E = some (.lst (((w.ps.take j).filter fun y => decide (y ∈ rc w.ts x) && decide (x ∈ rc w.ts y)).map V.str)))
          ⟨Same.new hE, by rw [upd_same]; rfl⟩ (fun j H' _ h => SqL.of (h.1 _ _ enm6)) ?_ ?_
        · rintro j v H8 H9 hj ⟨s8, eE⟩ ⟨rfl, hv⟩
          rw [List.length_map] at hj
          rw [List.getElem?_map, List.getElem?_eq_getElem hj] at hv
          cases hv
          have tk2 : w.ps.take (j + 1) = w.ps.take j ++ [w.ps[j]] := by rw [List.take_add_one, List.getElem?_eq_getElem hj]; rfl
          have hy : w.ps[j] ∈ w.ps := List.getElem_mem hj
          rw [tk2, List.filter_append, List.map_append]
          generalize w.ps[j] = y at hy ⊢
          obtain ⟨_, cy⟩ := cd6.els y hy
          obtain ⟨ky, eky, ty⟩ := cy.ex
          have gy : valV (w.ps.map fun x => ((Sum.inr x : Key), V.ref (C x))) (Sum.inr y) = some (.ref (C y)) := val_dict hy
          walk_at "go"
          refine ⟨rfl, ?_⟩
          walk_at "go"
          refine i_kDGetS (s8 _ _ cd6.top) gx ?_
          walk_at "go"
          refine i_kDInS (s8 _ _ ekx) ?_
          rw [cm_isSome tx]
          walk_at "go"
          have fl2 : ((w.ps.take j).filter fun y => decide (y ∈ rc w.ts x) && decide (x ∈ rc w.ts y)).length ≤ 16 := by
            have h1 := List.length_filter_le (fun y => decide (y ∈ rc w.ts x) && decide (x ∈ rc w.ts y)) (w.ps.take j)
            rw [List.length_take] at h1
            omega
          refine i_dec (fun h1 => ?_) (fun h1 => ?_)
          · walk_at "go"
            refine i_kDGetS (s8 _ _ cd6.top) gy ?_
            walk_at "go"
            refine i_kDInS (s8 _ _ eky) ?_
            rw [cm_isSome ty]
            walk_at "go"
            refine i_dec (fun h2 => ?_) (fun h2 => ?_)
            · walk_at "go"
              refine ⟨_, eE, by rw [List.length_map, sizeLine_eq]; omega, Same.mut s8 hE, ?_⟩
              rw [upd_same, List.filter_cons, if_pos (by rw [decide_eq_true h1, decide_eq_true h2]; rfl)]
              rfl
            · refine ⟨s8, ?_⟩
              rw [eE, List.filter_cons, if_neg (by rw [decide_eq_false h2, Bool.and_false]; decide), List.filter_nil, List.map_nil, List.append_nil]
          · refine ⟨s8, ?_⟩
            rw [eE, List.filter_cons, if_neg (by rw [decide_eq_false h1, Bool.false_and]; decide), List.filter_nil, List.map_nil, List.append_nil]
        · rintro H8 ⟨s8, eE⟩
          rw [List.length_map, List.take_length] at eE
          have eE : H8 E = some (.lst ((knotOf w x).map V.str)) := eE
          have hx0 : x ∈ knotOf w x := knot_self ok hm
          have kl := knot_len (w := w) x
          have er8 := s8 _ _ ll6.top
          have bl := Two.len ll6.els
          rw [List.length_map] at bl
          obtain ⟨z, zs, ek⟩ : ∃ z zs, knotOf w x = z :: zs := by
            cases c : knotOf w x with
            | nil => rw [c] at hx0; cases hx0
            | cons z zs => exact ⟨z, zs, rfl⟩
          have nEr : E ≠ r := fun e => by rw [e, ll6.top] at hE; cases hE
          have nEa : ∀ b ∈ as6, b ≠ E := fun b hb e => by
            obtain ⟨ys, _, q⟩ := Two.mem ll6.els hb
            rw [e, hE] at q
            cases q
          walk_at "go"
          refine i_ixL (SqL.of eE) (j := 0) (v := .str z) (atI_nat (j := 0) (by rw [ek]; rfl)) ?_
          walk_at "go"
          have eh : ((knotOf w x).head? = some x) ↔ z = x := by rw [ek]; exact ⟨fun h => by cases h; rfl, fun h => by rw [h]; rfl⟩
          refine i_dec (fun h1 => ?_) (fun h1 => ?_)
          · walk_at "go"
            refine i_kTyL (SqL.of er8) ?_
            walk_at "go"
            refine i_append er8 ?_ (by rw [List.length_map, bl, sizeLine_eq]; omega)
            walk_at "go"
            have off : ∀ {z : Addr} {o : HO}, (∀ xs, o ≠ .lst (xs : List V)) → H8 z = some o → (upd H8 r (.lst (as6.map V.ref ++ [.ref E]))) z = some o := fun {z o} n e => (upd_ne (fun c => by
              rw [c, er8] at e
              cases e
              exact n _ rfl)).trans e
            have nrn : nm ≠ r := fun c => by
              have e9 := enm4
              rw [c, hr0] at e9
              cases e9
            refine ⟨Same.mut (s6.trans s8) fr, (upd_ne nrn).trans (s8 _ _ enm6), ⟨off (fun _ => by simp) (s8 _ _ cd6.top), fun y hy => ⟨(cd6.els y hy).1, ?_⟩⟩, as6 ++ [E], ⟨?_, ?_⟩, ?_, ?_, _, _, rfl⟩
            · obtain ⟨ky, e1, ty⟩ := ((cd6.els y hy).2.same s8).ex
              exact ⟨ky, off (fun _ => by simp) e1, ty.mono fun _ _ q => ⟨q.1, q.2.off fun xs c => by rw [er8] at c; cases c⟩⟩
            · rw [upd_same, List.map_append]; rfl
            · rw [List.filter_cons, if_pos (decide_eq_true (eh.mpr h1))]
              exact Two.app (ll_off (fun m => (fr6 r m).2 rfl) (ll6.els.mono fun _ _ q => s8 _ _ q)) (.cons ((upd_ne nEr).trans eE) .nil)
            · intro b hb
              rcases List.mem_append.mp hb with hb | hb
              · exact fr6 b hb
              · rw [List.mem_singleton.mp hb]
                exact ⟨s6.free hE, nEr⟩
            · exact List.nodup_append.mpr ⟨nd6, by simp, fun a ha b hb e => nEa a ha (by rw [e, List.mem_singleton.mp hb])⟩
          · walk_at "go"
            refine ⟨s6.trans s8, s8 _ _ enm6, cd6.same s8, as6, ?_, fr6, nd6, _, _, rfl⟩
            rw [List.filter_cons, if_neg (by simpa using fun c => h1 (eh.mp c)), List.filter_nil, List.map_nil, List.append_nil]
            exact ll6.same s8
      · rintro σ H6 ⟨s6, enm6, cd6, as6, ll6, fr6, nd6, v5, v6, rfl⟩
        rw [List.length_map, List.take_length] at ll6
        walk_at "go"
        exact q r as6 H6 s6 fr fr6 nd6 ll6
end
end K18

set_option Elab.async false
set_option linter.all false
set_option maxRecDepth 100000
set_option maxHeartbeats 2000000
/-! HXrem: xs.remove(x), x a list of texts or the like. -/
namespace AnyL
open PySem PySem.Spec PyProof.Rows L2 HX
section
variable {X : Cx}
def rRemD (K : PySem.W.Frag) : V → List V → Hp → VK → Prop := fun x xs H Q => ∃ (l : Addr) (y : V) (vs : List V) (ds : List PyData) (d : PyData) (j : Nat), x = .ref l ∧ xs = [y] ∧ H l = some (.lst vs) ∧ DpAll K H vs ds ∧ Dp K H y d ∧ PyData.plainAll ds = true ∧ d.plain = true ∧ d.depth ≤ 32 ∧
  PySem.SeqAt.dataPlace ds d = some j ∧ Q .non (upd H l (.lst (vs.eraseIdx j)))
theorem mt_removeD (hu : X.A.units + 64 < cLine) : MtM X "list.remove" (rRemD X.K) := by
  intro pins s σ H x xs v us Q I rx rxs h
  obtain ⟨l, y, vs, ds, d, j, rfl, rfl, hH, hds, hd, p1, p2, dd, hp, q⟩ := h
  cases rx
  obtain ⟨u, rfl, ru⟩ := rxs.one
  obtain ⟨z, its, n, r, hl, e⟩ := I.lstM hH
  obtain ⟨as, ra⟩ := Dp.readsAll I ds vs its hds r
  obtain ⟨bs, rb⟩ := Dp.reads I d y u hd ru
  refine PySem.SeqAt.remove_list_data (vs := its.toArray) ⟨_, e, rfl, n, rfl⟩ (by simpa using ra) rb p1 p2 (by omega) hp (by rw [List.size_toArray]; omega) ?_
  refine ⟨.non, _, I.lset (its' := its.eraseIdx j) (t' := s.toks) hH e ?_ (r.eraseIdx j) ?_, rfl, q⟩
  · show its.toArray.eraseIdxIfInBounds j = (its.eraseIdx j).toArray
    rw [List.eraseIdxIfInBounds_toArray]
  · rw [List.length_eraseIdx]
    split <;> omega
end
/-! ### lists of texts -/
def dS (xs : List Str) : PyData := .list (xs.map PyData.str)
theorem dS_plainAll : ∀ xs : List Str, PyData.plainAll (xs.map PyData.str) = true
  | [] => rfl
  | x :: r => by
    rw [List.map_cons, PyData.plainAll, dS_plainAll r]
    rfl
theorem dS_plain (xs : List Str) : (dS xs).plain = true := by
  unfold dS
  rw [PyData.plain]
  exact dS_plainAll xs
theorem dS_allPlain : ∀ xss : List (List Str), PyData.plainAll (xss.map dS) = true
  | [] => rfl
  | x :: r => by
    rw [List.map_cons, PyData.plainAll, dS_plain x, dS_allPlain r]
    rfl
theorem dS_depthAll : ∀ xs : List Str, PyData.depthAll (xs.map PyData.str) ≤ 1
  | [] => by simp [PyData.depthAll]
  | x :: r => by
    have := dS_depthAll r
    simp only [List.map_cons, PyData.depthAll, PyData.depth]
    omega
theorem dS_depth (xs : List Str) : (dS xs).depth ≤ 32 := by
  have := dS_depthAll xs
  unfold dS
  simp only [PyData.depth]
  omega
theorem eqv_all : ∀ xs ys : List Str, PyData.eqvAll (xs.map PyData.str) (ys.map PyData.str) = decide (xs = ys)
  | [], [] => rfl
  | [], y :: r => rfl
  | x :: r, [] => rfl
  | x :: r, y :: t => by
    rw [List.map_cons, List.map_cons, PyData.eqvAll, eqv_all r t, PyData.eqv]
    by_cases c : x = y
    · subst c
      by_cases c2 : r = t
      · simp [c2]
      · simp [c2]
    · simp [c]
theorem eqv_dS (xs ys : List Str) : PyData.eqv (dS xs) (dS ys) = decide (xs = ys) := by
  unfold dS
  rw [PyData.eqv]
  exact eqv_all xs ys
theorem dp_dS {K : PySem.W.Frag} {H : Hp} : ∀ xs : List Str, DpAll K H (xs.map V.str) (xs.map PyData.str)
  | [] => .nil
  | x :: r => .cons (.str x) (dp_dS r)
theorem erase_map {α β : Type} (f : α → β) : ∀ (l : List α) (j : Nat), (l.map f).eraseIdx j = (l.eraseIdx j).map f
  | [], j => by simp
  | a :: r, 0 => by simp
  | a :: r, j + 1 => by simp [erase_map f r j]
theorem place_dS {xss : List (List Str)} (nd : xss.Nodup) {i : Nat} {k : List Str} (h : xss[i]? = some k) : PySem.SeqAt.dataPlace (xss.map dS) (dS k) = some i := by
  unfold PySem.SeqAt.dataPlace
  obtain ⟨hi, hk⟩ := List.getElem?_eq_some_iff.mp h
  refine List.findIdx?_eq_some_iff_getElem.mpr ⟨by rw [List.length_map]; exact hi, ?_, fun j hj => ?_⟩
  · rw [List.getElem_map, eqv_dS, hk]
    exact decide_eq_true rfl
  · rw [List.getElem_map, eqv_dS]
    simp only [decide_eq_true_eq]
    intro e
    have := (List.getElem_inj nd (h₀ := by omega) (h₁ := hi)).mp (e.trans hk.symm)
    omega
end AnyL

set_option Elab.async false
set_option linter.all false
set_option maxRecDepth 100000
set_option maxHeartbeats 2000000
/-! HXxs: [e for x in xs for y in ys] by invariants of both. -/
namespace HX
open PySem PySem.Spec PyProof.Rows L2
/-- the inner walk of a turn -/
theorem lc2_in {J1 : It} {n : Nat} {G : Hp → Prop} {Y : Nat → Hp → V → Hp → Prop} (w : Walk J1 n G Y) {g1 : TG} {tt1 : TT} {te : TE} {vs1 : List Nat} {σ2 : L2.St} {H4 : Hp} {D : Addr} {Nx : Hp → Prop}
    (Pw : Nat → Hp → Prop) (h0 : Pw 0 H4) (hG : ∀ j H, j ≤ n → Pw j H → G H)
    (hs : ∀ j x H H', j < n → Pw j H → Y j H x H' → g1 x (wipe σ2 vs1) H' fun σ3 H5 => wipe σ3 vs1 = wipe σ2 vs1 ∧ tt1 σ3 H5 fun b H6 =>
      if b = true then te σ3 H6 fun y H7 => ∃ acc, H7 D = some (.lst acc) ∧ acc.length < sizeLine ∧ Pw (j + 1) (upd H7 D (.lst (acc ++ [y]))) else Pw (j + 1) H6)
    (hd : ∀ H, Pw n H → Nx H) : ∃ W1 : Nat → Nat → Hp → Prop, (∃ m, W1 0 m H4) ∧ ∀ j k H, W1 j k H →
      (J1.stop j H ∧ Nx H) ∨ (J1.go j H ∧ ∃ Nx1 : Hp → Prop, (∀ H', Nx1 H' → ∃ k', k' < k ∧ W1 (j + 1) k' H') ∧ ∀ x H', J1.yld j H x H' → g1 x (wipe σ2 vs1) H' fun σ3 H5 => wipe σ3 vs1 = wipe σ2 vs1 ∧ tt1 σ3 H5 fun b H6 =>
        if b = true then te σ3 H6 fun y H7 => ∃ acc, H7 D = some (.lst acc) ∧ acc.length < sizeLine ∧ Nx1 (upd H7 D (.lst (acc ++ [y]))) else Nx1 H6) := by
  refine ⟨fun j k H => j + k = n ∧ Pw j H, ⟨n, by omega, h0⟩, ?_⟩
  rintro j k H ⟨e, p⟩
  by_cases hj : j < n
  · exact .inr ⟨w.goes j H hj (hG j H (by omega) p), Pw (j + 1), fun H' p' => ⟨k - 1, by omega, by omega, p'⟩, fun x H' y => hs j x H H' hj p (w.yields j H x H' hj (hG j H (by omega) p) y)⟩
  · obtain rfl : j = n := by omega
    exact .inl ⟨w.stops H (hG j H (by omega) p), hd H p⟩
theorem lc2_it {J : It} {n : Nat} {G : Hp → Prop} {Y : Nat → Hp → V → Hp → Prop} (w : Walk J n G Y) {g g1 : TG} {tt tt1 : TT} {wi1 : TI} {te : TE} {vs vs1 : List Nat} {σ : L2.St} {H1 : Hp} {D : Addr} {Qd : Hp → Prop}
    (Pv : Nat → Hp → Prop) (h0 : Pv 0 (upd H1 D (.lst []))) (hG : ∀ i H, i ≤ n → Pv i H → G H)
    (hs : ∀ i x H H', i < n → Pv i H → Y i H x H' → g x (wipe σ vs) H' fun σ2 H2 => wipe σ2 vs = wipe σ vs ∧ tt σ2 H2 fun b H3 =>
      if b = true then wi1 σ2 H3 fun J1 H4 => ∃ W1 : Nat → Nat → Hp → Prop, (∃ m, W1 0 m H4) ∧ ∀ j k H, W1 j k H →
        (J1.stop j H ∧ Pv (i + 1) H) ∨ (J1.go j H ∧ ∃ Nx1 : Hp → Prop, (∀ H', Nx1 H' → ∃ k', k' < k ∧ W1 (j + 1) k' H') ∧ ∀ x H', J1.yld j H x H' → g1 x (wipe σ2 vs1) H' fun σ3 H5 => wipe σ3 vs1 = wipe σ2 vs1 ∧ tt1 σ3 H5 fun b H6 =>
          if b = true then te σ3 H6 fun y H7 => ∃ acc, H7 D = some (.lst acc) ∧ acc.length < sizeLine ∧ Nx1 (upd H7 D (.lst (acc ++ [y]))) else Nx1 H6)
      else Pv (i + 1) H3) (hd : ∀ H, Pv n H → Qd H) :
    ∃ W : Nat → Nat → Hp → Prop, (∃ m, W 0 m (upd H1 D (.lst []))) ∧ ∀ i m H, W i m H →
      (J.stop i H ∧ Qd H) ∨ (J.go i H ∧ ∃ Nx : Hp → Prop, (∀ H', Nx H' → ∃ m', m' < m ∧ W (i + 1) m' H') ∧ ∀ x H', J.yld i H x H' → g x (wipe σ vs) H' fun σ2 H2 => wipe σ2 vs = wipe σ vs ∧ tt σ2 H2 fun b H3 =>
        if b = true then wi1 σ2 H3 fun J1 H4 => ∃ W1 : Nat → Nat → Hp → Prop, (∃ m, W1 0 m H4) ∧ ∀ j k H, W1 j k H →
          (J1.stop j H ∧ Nx H) ∨ (J1.go j H ∧ ∃ Nx1 : Hp → Prop, (∀ H', Nx1 H' → ∃ k', k' < k ∧ W1 (j + 1) k' H') ∧ ∀ x H', J1.yld j H x H' → g1 x (wipe σ2 vs1) H' fun σ3 H5 => wipe σ3 vs1 = wipe σ2 vs1 ∧ tt1 σ3 H5 fun b H6 =>
            if b = true then te σ3 H6 fun y H7 => ∃ acc, H7 D = some (.lst acc) ∧ acc.length < sizeLine ∧ Nx1 (upd H7 D (.lst (acc ++ [y]))) else Nx1 H6)
        else Nx H3) := by
  refine ⟨fun i m H => i + m = n ∧ Pv i H, ⟨n, by omega, h0⟩, ?_⟩
  rintro i m H ⟨e, p⟩
  by_cases hi : i < n
  · exact .inr ⟨w.goes i H hi (hG i H (by omega) p), Pv (i + 1), fun H' p' => ⟨m - 1, by omega, by omega, p'⟩, fun x H' y => hs i x H H' hi p (w.yields i H x H' hi (hG i H (by omega) p) y)⟩
  · obtain rfl : i = n := by omega
    exact .inl ⟨w.stops H (hG i H (by omega) p), hd H p⟩
end HX
namespace HX
open PySem PySem.Spec PyProof.Rows L2
section
variable {X : Cx}
theorem pi_listK (K : PySem.W.Frag) (hK : X.K = K) {e tg : Expr} {t : TE} (h : PE X e t) : PI X tg e (iList K t) := by
  subst hK
  exact pi_list h
end
end HX

set_option Elab.async false
set_option linter.all false
set_option maxRecDepth 100000
set_option maxHeartbeats 4000000
namespace K18
open PySem PySem.Spec PyProof.Rows L2 HX WB
local macro_rules | `(tactic| walk_at "side") => `(tactic| first
  | assumption
  | rfl
  | (show (0 : Int) < _; omega)
  | (unfold CDiv; omega)
  | (unfold CMul; omega)
  | (unfold CPow; omega)
  | (rw [sizeLine_eq]; omega)
  | omega)
local macro_rules | `(tactic| walk_at "e") => `(tactic| first
  | ((with_reducible apply i_var); exact rfl)
  | (with_reducible apply i_c)
  | (with_reducible apply i_op)
  | (with_reducible apply i_un)
  | (with_reducible apply i_rI0)
  | ((with_reducible apply i_rI); (case c => walk_at "side"))
  | (with_reducible apply i_rGe)
  | (with_reducible apply i_rGt)
  | (with_reducible apply i_rU)
  | (with_reducible apply i_rEqI)
  | (with_reducible apply i_rNeI)
  | (with_reducible apply i_rEqS)
  | (with_reducible apply i_rNeS)
  | (with_reducible apply i_rEqB)
  | (with_reducible apply i_rNeB)
  | (with_reducible apply i_rIsN)
  | (with_reducible apply i_rNotN)
  | (with_reducible apply i_rInS)
  | (with_reducible apply i_rNotInS)
  | ((with_reducible apply i_catS); (case c => walk_at "side"))
  | (with_reducible apply i_tcb)
  | (with_reducible apply i_nil)
  | (with_reducible apply i_cons)
  | ((with_reducible apply i_lenS); (case c => walk_at "side"))
  | ((with_reducible apply i_lenL); assumption)
  | (with_reducible apply i_abs)
  | (with_reducible apply i_max2)
  | (with_reducible apply i_min2)
  | ((with_reducible apply i_strI); (case c => walk_at "side"))
  | (with_reducible apply i_intB)
  | (with_reducible apply i_test)
  | (with_reducible apply i_tB)
  | (with_reducible apply i_kB)
  | (with_reducible apply i_and)
  | (with_reducible apply i_or)
  | (with_reducible apply i_not)
  | (with_reducible apply i_if)
  | (with_reducible apply i_andV)
  | (with_reducible apply i_orV)
  | (with_reducible apply i_notV)
  | (with_reducible apply i_kAndV)
  | (with_reducible apply i_kOrV)
  | (with_reducible apply i_kNotV)
  | (with_reducible apply i_chain)
  | (with_reducible apply i_kChain)
  | (with_reducible apply i_drop)
  | (with_reducible apply i_ret)
  | (with_reducible apply i_retN)
  | (with_reducible apply i_ifS)
  | (with_reducible apply i_asg)
  | (with_reducible apply i_gName)
  | (with_reducible apply i_for)
  | (with_reducible apply i_lc)
  | (with_reducible apply i_iList)
  | (with_reducible apply i_iTup)
  | (with_reducible apply i_iStr)
  | (with_reducible apply i_kStrI)
  | (with_reducible apply i_lst)
  | (with_reducible apply i_tup)
  | (with_reducible apply i_call)
  | (with_reducible apply i_m1)
  | (with_reducible apply i_kStr)
  | (with_reducible apply i_bm)
  | (with_reducible apply i_bm0)
  | (with_reducible apply i_part)
  | (with_reducible apply i_kInt)
  | (with_reducible apply i_noPart)
  | (with_reducible apply i_sl)
  | (with_reducible apply i_range1)
  | (with_reducible apply i_range2)
  | ((with_reducible apply i_kRng1); (case c => walk_at "side"))
  | ((with_reducible apply i_kRng2); (case c => walk_at "side"))
  | (with_reducible apply i_gCons)
  | (with_reducible apply i_gNil)
  | (with_reducible apply i_gSub)
  | (with_reducible apply i_iZip)
  | (with_reducible apply i_yes)
  | (with_reducible apply i_ift)
  | (with_reducible apply i_iff)
  | (with_reducible apply i_nb))
local macro_rules | `(tactic| walk_at "go") => `(tactic| repeat (first | (with_reducible apply i_seq) | (with_reducible apply i_next) | walk_at "e"))
local macro_rules | `(tactic| walk_at "ge") => `(tactic| repeat walk_at "e")
local macro_rules | `(tactic| walk_at "sz") => `(tactic| first | decide | (rw [sizeLine_eq]; simp; done) | (rw [sizeLine_eq]; omega))
local macro_rules | `(tactic| walk_at "side") => `(tactic| (with_reducible exact WB.most_pos))
local macro_rules | `(tactic| walk_at "e") => `(tactic| first
  | ((with_reducible apply i_isT (b := true)); exact rfl)
  | ((with_reducible apply i_isT (b := false)); exact rfl)
  | (with_reducible apply i_fld)
  | ((with_reducible apply i_kFld); (case h => assumption); (case c1 => assumption); (case c2 => assumption); (case e => first | exact lk_number | exact lk_tail | exact lk_head | exact lk_load | exact lk_oneway | exact lk_points | exact lk_ties | exact lk_given))
  | (with_reducible apply i_sfld)
  | ((with_reducible apply i_kSFld); (case h => first | assumption | exact upd_same); (case c1 => assumption); (case c2 => assumption); (case e => exact Nat.le_of_ble_eq_true rfl))
  | (with_reducible apply i_methC)
  | (with_reducible apply i_make)
  | (with_reducible apply i_fldaug)
  | (with_reducible apply i_vals)
  | (with_reducible apply i_items)
  | (with_reducible apply i_dget)
  | (with_reducible apply i_dput)
  | (with_reducible apply i_din)
  | (with_reducible apply i_dnotin)
  | (with_reducible apply i_ddel)
  | (with_reducible apply i_dc)
  | (with_reducible apply i_enum))
theorem flat_len_le {α : Type} {c : Nat} : ∀ {xss : List (List α)}, (∀ xs ∈ xss, xs.length ≤ c) → xss.flatten.length ≤ c * xss.length
  | [], _ => by simp
  | xs :: r, h => by
    have h1 := h xs (List.mem_cons_self ..)
    have h2 := flat_len_le (xss := r) fun z hz => h z (List.mem_cons_of_mem _ hz)
    rw [List.flatten_cons, List.length_append, List.length_cons, Nat.mul_add, Nat.mul_one]
    omega
section
variable {P : Program} {w : World} {K : PySem.W.Frag} {mg : Str → Option Value} {base : Heap}
def sp_first_free (K : PySem.W.Frag) : Sp := fun vs H Q _ => ∃ a lf as ts ls xss, vs = [.ref a, .ref lf] ∧ H a = some (.lst ((as : List Addr).map V.ref)) ∧ Two (fun a nt => TieAt K H nt.1 nt.2 a) as (ts : Ts) ∧ LL H lf ls xss ∧ H (tb K) = some (AnyL.TabO (tb K)) ∧ xss.length ≤ 20 ∧ (∀ xs ∈ xss, xs.length ≤ 20) ∧
  ∃ k r, freeK ts xss = k :: r ∧ ∀ (i : Nat) b H', Same H H' → xss[i]? = some k → ls[i]? = some b → Q (.ref b) H'
theorem ok_first_free (T : Tx K mg) (J : Js P w K mg base) : FnOk P w K mg base CX0 2 (He.ga K "_first_free") T.fd_first_free ["ties", "left"] (sp_first_free K) := by
  refine T.F_first_free.ok sc_first_free (fun vs H Q E h => ?_) (fun cdv A outer s H vs Q E hr h => ?_)
  · obtain ⟨_, _, _, _, _, _, rfl, _⟩ := h
    rfl
  · obtain ⟨a, lf, as, ts, ls, xss, rfl, ha, hts, hl, hT, l20, x20, k, r, ek, q⟩ := h
    have hu := hu_of hr
    refine ⟨_, PSs.nox (pss_cons (ps_set (i := 2) sc_first_free.nd rfl (Or.inr rfl) (pe_lc2 (own := [("knot", 4), ("name", 5)]) (vs1 := [5]) (by rfl) sc_first_free.nd (pi_list (pv 1)) (blkOk_by (own := [("knot", 4), ("name", 5)]) (N := N_first_free) (sc := defScope s_first_free) (by decide +kernel)) (by decide) (fun _ _ _ _ _ => (pg_name (i := 4) sc_first_free.nd rfl (Or.inl rfl))) (fun _ _ _ _ _ => pts_nil) (fun _ _ _ _ _ => (pi_listK K rfl (pv 4))) (fun _ _ _ _ _ => (pg_name (i := 5) sc_first_free.nd rfl (Or.inl rfl))) (fun _ _ _ _ _ => pts_nil) (fun _ _ _ _ _ => (pv 5))))
      (pss_cons (ps_setLc (i := 3) (own := [("knot", 4)]) (by rfl) sc_first_free.nd rfl rfl (sw_true rfl rfl rfl (by decide +kernel)) (pi_list (pv 1)) (blkOk_by (own := [("knot", 4)]) (N := N_first_free) (sc := defScope s_first_free) (by decide +kernel)) (fun _ _ _ _ _ => (pg_name (i := 4) sc_first_free.nd rfl (Or.inl rfl))) (fun _ _ _ _ _ => (pts_one (pt_not (pt_val (pe_call (ok_is_led_into T J) (hr.mono (by decide)) (by rfl) T.g_is_led_into T.F_is_led_into.kp T.k_is_led_into .nil pass0 (pa_cons (pv 0) (pa_cons (pv 4) (pa_cons (pv 2) pa_nil)))))))) (fun _ _ _ _ _ => (pv 4)))
      (pss_one (ps_ret (pe_ix ix_list (pv 3) pe_int (fun _ _ => rfl)))))), ?_⟩
    have lls := Two.len hl.els
    walk_at "go"
    unfold tLc2
    walk_at "go"
    refine i_kListI (SqL.of hl.top) ?_
    intro D hD
    refine lc2_it walk_list (fun i H' => Same H H' ∧ H' D = some (.lst ((xss.take i).flatten.map V.str)))
      ⟨Same.new hD, by rw [upd_same]; rfl⟩ (fun i H' _ h => SqL.of (h.1 _ _ hl.top)) ?_ ?_
    · rintro i v H2 H3 hi ⟨s2, eD⟩ ⟨rfl, hv⟩
      rw [List.length_map] at hi
      rw [List.getElem?_map, List.getElem?_eq_getElem hi] at hv
      cases hv
      obtain ⟨xs, ex, eb⟩ := Two.get hl.els (List.getElem?_eq_getElem hi)
      generalize ls[i] = b at eb ⊢
      have tk : xss.take (i + 1) = xss.take i ++ [xs] := by rw [List.take_add_one, ex]; rfl
      have x20' := x20 xs (List.mem_of_getElem? ex)
      have fl : (xss.take i).flatten.length ≤ 20 * 20 := by
        have h1 := flat_len_le (xss := xss.take i) fun z hz => x20 z (List.mem_of_mem_take hz)
        rw [List.length_take] at h1
        omega
      rw [tk, List.flatten_append]
      walk_at "go"
      refine ⟨rfl, ?_⟩
      walk_at "go"
      refine i_kListI (SqL.of (s2 _ _ eb)) ?_
      refine lc2_in walk_list (fun j H' => Same H H' ∧ H' D = some (.lst (((xss.take i).flatten ++ xs.take j).map V.str)))
        ⟨s2, by rw [List.take_zero, List.append_nil]; exact eD⟩ (fun j H' _ h => SqL.of (h.1 _ _ eb)) ?_ ?_
      · rintro j v H4 H5 hj ⟨s4, eD4⟩ ⟨rfl, hv⟩
        rw [List.length_map] at hj
        rw [List.getElem?_map, List.getElem?_eq_getElem hj] at hv
        cases hv
        have tk2 : xs.take (j + 1) = xs.take j ++ [xs[j]] := by rw [List.take_add_one, List.getElem?_eq_getElem hj]; rfl
        rw [tk2, ← List.append_assoc]
        generalize xs[j] = x
        walk_at "go"
        refine ⟨rfl, ?_⟩
        walk_at "go"
        refine ⟨_, eD4, by rw [List.length_map, List.length_append, List.length_take, sizeLine_eq]; omega, Same.mut s4 hD, by rw [upd_same]; simp only [List.map_append, List.map_cons, List.map_nil]⟩
      · rintro H4 ⟨s4, eD4⟩
        rw [List.length_map, List.take_length] at eD4
        refine ⟨s4, ?_⟩
        rw [eD4]
        simp
    · rintro H2 ⟨s2, eD⟩
      rw [List.length_map, lls, List.take_length] at eD
      have hl2 := hl.same s2
      walk_at "go"
      refine i_kListI (SqL.of hl2.top) ?_
      intro E hE
      refine lc_it walk_list (fun i H' => Same H2 H' ∧ ∃ bs : List Addr, H' E = some (.lst (bs.map V.ref)) ∧ Two (fun b (xs : List Str) => ∃ j : Nat, ls[j]? = some b ∧ xss[j]? = some xs) bs ((xss.take i).filter fun k => !ledInto ts k xss.flatten))
        ⟨Same.new hE, [], upd_same, by simp; exact .nil⟩ (fun i H' _ h => SqL.of (h.1 _ _ hl2.top)) ?_ ?_
      · rintro i v H3 H4 hi ⟨s3, bs, eE, hbs⟩ ⟨rfl, hv⟩
        rw [List.length_map] at hi
        rw [List.getElem?_map, List.getElem?_eq_getElem hi] at hv
        cases hv
        have hb := List.getElem?_eq_getElem hi
        obtain ⟨xs, ex, eb⟩ := Two.get hl2.els hb
        generalize ls[i] = b at eb hb ⊢
        have tk : xss.take (i + 1) = xss.take i ++ [xs] := by rw [List.take_add_one, ex]; rfl
        rw [tk, List.filter_append]
        have s03 := s2.trans s3
        walk_at "go"
        refine ⟨rfl, ?_⟩
        walk_at "go"
        refine ⟨a, b, D, as, ts, xs, xss.flatten, rfl, s03 _ _ ha, hts.mono fun _ _ q => (q.same s03), s3 _ _ eb, s3 _ _ eD, s03 _ _ hT, ?_⟩
        walk_at "go"
        have bl := Two.len hbs
        have l3 := List.length_filter_le (fun k => !ledInto ts k xss.flatten) (xss.take i)
        rw [List.length_take] at l3
        cases hL : ledInto ts xs xss.flatten with
        | true =>
          rw [if_pos rfl]
          refine ⟨s3, bs, eE, ?_⟩
          rw [List.filter_cons, hL, if_neg (by decide), List.filter_nil, List.append_nil]
          exact hbs
        | false =>
          rw [if_neg (by decide)]
          walk_at "go"
          refine ⟨_, eE, by rw [List.length_map, bl, sizeLine_eq]; omega, Same.mut s3 hE, bs ++ [b], by rw [upd_same, List.map_append]; rfl, ?_⟩
          rw [List.filter_cons, hL, if_pos (by decide), List.filter_nil]
          exact Two.app hbs (.cons ⟨i, hb, ex⟩ .nil)
      · rintro H3 ⟨s3, bs, eE, hbs⟩
        rw [List.length_map, lls, List.take_length] at hbs
        have hbs : Two (fun b (xs : List Str) => ∃ j : Nat, ls[j]? = some b ∧ xss[j]? = some xs) bs (k :: r) := by rw [← ek]; exact hbs
        cases hbs with
        | @cons b _ bs' _ hb _ =>
          obtain ⟨j, h1, h2⟩ := hb
          walk_at "go"
          refine i_ixL (SqL.of eE) (j := 0) (v := .ref b) (atI_nat (j := 0) rfl) ?_
          exact q j b H3 (s2.trans s3) h2 h1
end
end K18

set_option Elab.async false
set_option linter.all false
set_option maxRecDepth 100000
set_option maxHeartbeats 4000000
namespace K18
open PySem PySem.Spec PyProof.Rows L2 HX WB
local macro_rules | `(tactic| walk_at "side") => `(tactic| first
  | assumption
  | rfl
  | (show (0 : Int) < _; omega)
  | (unfold CDiv; omega)
  | (unfold CMul; omega)
  | (unfold CPow; omega)
  | (rw [sizeLine_eq]; omega)
  | omega)
local macro_rules | `(tactic| walk_at "e") => `(tactic| first
  | ((with_reducible apply i_var); exact rfl)
  | (with_reducible apply i_c)
  | (with_reducible apply i_op)
  | (with_reducible apply i_un)
  | (with_reducible apply i_rI0)
  | ((with_reducible apply i_rI); (case c => walk_at "side"))
  | (with_reducible apply i_rGe)
  | (with_reducible apply i_rGt)
  | (with_reducible apply i_rU)
  | (with_reducible apply i_rEqI)
  | (with_reducible apply i_rNeI)
  | (with_reducible apply i_rEqS)
  | (with_reducible apply i_rNeS)
  | (with_reducible apply i_rEqB)
  | (with_reducible apply i_rNeB)
  | (with_reducible apply i_rIsN)
  | (with_reducible apply i_rNotN)
  | (with_reducible apply i_rInS)
  | (with_reducible apply i_rNotInS)
  | ((with_reducible apply i_catS); (case c => walk_at "side"))
  | (with_reducible apply i_tcb)
  | (with_reducible apply i_nil)
  | (with_reducible apply i_cons)
  | ((with_reducible apply i_lenS); (case c => walk_at "side"))
  | ((with_reducible apply i_lenL); assumption)
  | (with_reducible apply i_abs)
  | (with_reducible apply i_max2)
  | (with_reducible apply i_min2)
  | ((with_reducible apply i_strI); (case c => walk_at "side"))
  | (with_reducible apply i_intB)
  | (with_reducible apply i_test)
  | (with_reducible apply i_tB)
  | (with_reducible apply i_kB)
  | (with_reducible apply i_and)
  | (with_reducible apply i_or)
  | (with_reducible apply i_not)
  | (with_reducible apply i_if)
  | (with_reducible apply i_andV)
  | (with_reducible apply i_orV)
  | (with_reducible apply i_notV)
  | (with_reducible apply i_kAndV)
  | (with_reducible apply i_kOrV)
  | (with_reducible apply i_kNotV)
  | (with_reducible apply i_chain)
  | (with_reducible apply i_kChain)
  | (with_reducible apply i_drop)
  | (with_reducible apply i_ret)
  | (with_reducible apply i_retN)
  | (with_reducible apply i_ifS)
  | (with_reducible apply i_asg)
  | (with_reducible apply i_gName)
  | (with_reducible apply i_for)
  | (with_reducible apply i_lc)
  | (with_reducible apply i_iList)
  | (with_reducible apply i_iTup)
  | (with_reducible apply i_iStr)
  | (with_reducible apply i_kStrI)
  | (with_reducible apply i_lst)
  | (with_reducible apply i_tup)
  | (with_reducible apply i_call)
  | (with_reducible apply i_m1)
  | (with_reducible apply i_kStr)
  | (with_reducible apply i_bm)
  | (with_reducible apply i_bm0)
  | (with_reducible apply i_part)
  | (with_reducible apply i_kInt)
  | (with_reducible apply i_noPart)
  | (with_reducible apply i_sl)
  | (with_reducible apply i_range1)
  | (with_reducible apply i_range2)
  | ((with_reducible apply i_kRng1); (case c => walk_at "side"))
  | ((with_reducible apply i_kRng2); (case c => walk_at "side"))
  | (with_reducible apply i_gCons)
  | (with_reducible apply i_gNil)
  | (with_reducible apply i_gSub)
  | (with_reducible apply i_iZip)
  | (with_reducible apply i_yes)
  | (with_reducible apply i_ift)
  | (with_reducible apply i_iff)
  | (with_reducible apply i_nb))
local macro_rules | `(tactic| walk_at "go") => `(tactic| repeat (first | (with_reducible apply i_seq) | (with_reducible apply i_next) | walk_at "e"))
local macro_rules | `(tactic| walk_at "ge") => `(tactic| repeat walk_at "e")
local macro_rules | `(tactic| walk_at "sz") => `(tactic| first | decide | (rw [sizeLine_eq]; simp; done) | (rw [sizeLine_eq]; omega))
local macro_rules | `(tactic| walk_at "side") => `(tactic| (with_reducible exact WB.most_pos))
local macro_rules | `(tactic| walk_at "e") => `(tactic| first
  | ((with_reducible apply i_isT (b := true)); exact rfl)
  | ((with_reducible apply i_isT (b := false)); exact rfl)
  | (with_reducible apply i_fld)
  | ((with_reducible apply i_kFld); (case h => assumption); (case c1 => assumption); (case c2 => assumption); (case e => first | exact lk_number | exact lk_tail | exact lk_head | exact lk_load | exact lk_oneway | exact lk_points | exact lk_ties | exact lk_given))
  | (with_reducible apply i_sfld)
  | ((with_reducible apply i_kSFld); (case h => first | assumption | exact upd_same); (case c1 => assumption); (case c2 => assumption); (case e => exact Nat.le_of_ble_eq_true rfl))
  | (with_reducible apply i_methC)
  | (with_reducible apply i_make)
  | (with_reducible apply i_fldaug)
  | (with_reducible apply i_vals)
  | (with_reducible apply i_items)
  | (with_reducible apply i_dget)
  | (with_reducible apply i_dput)
  | (with_reducible apply i_din)
  | (with_reducible apply i_dnotin)
  | (with_reducible apply i_ddel)
  | (with_reducible apply i_dc)
  | (with_reducible apply i_enum))
theorem two_erase {α β : Type} {R : α → β → Prop} : ∀ {as : List α} {bs : List β} (_ : Two R as bs) (i : Nat), Two R (as.eraseIdx i) (bs.eraseIdx i)
  | _, _, .nil, i => by simp; exact .nil
  | _, _, .cons r t, 0 => t
  | _, _, .cons r t, i + 1 => .cons r (two_erase t i)
theorem dp_two {K : PySem.W.Frag} {H : Hp} {bs : List Addr} {xss : List (List Str)} (h : Two (fun b (xs : List Str) => H b = some (.lst (xs.map V.str))) bs xss) : DpAll K H (bs.map V.ref) (xss.map AnyL.dS) := by
  induction h with
  | nil => exact .nil
  | cons r _ ih => exact .cons (.lst (SqL.of r) (AnyL.dp_dS _)) ih
theorem erase_at {α : Type} [BEq α] [LawfulBEq α] : ∀ {l : List α} {i : Nat} {k : α}, l.Nodup → l[i]? = some k → l.erase k = l.eraseIdx i
  | [], i, k, _, h => by simp at h
  | a :: r, 0, k, _, h => by
    have : a = k := by simpa using h
    subst this
    rw [List.erase_cons_head]
    rfl
  | a :: r, i + 1, k, nd, h => by
    have h : r[i]? = some k := by simpa using h
    have ne : a ≠ k := fun e => (List.nodup_cons.mp nd).1 (by rw [e]; exact List.mem_of_getElem? h)
    rw [List.erase_cons_tail (by simpa using ne), erase_at (List.nodup_cons.mp nd).2 h]
    rfl
section
variable {P : Program} {w : World} {K : PySem.W.Frag} {mg : Str → Option Value} {base : Heap}
def sp_knots (K : PySem.W.Frag) : Sp := fun vs H Q _ => ∃ p l d w, vs = [.ref p] ∧ WebAt K H p l d w ∧ Wok w ∧ H (tb K) = some (AnyL.TabO (tb K)) ∧
  ∀ r as H', Same H H' → H r = none → (∀ b ∈ as, H b = none ∧ b ≠ r) → as.Nodup → LL H' r as (orderK w.ts 17 (knotsBy w)) → Q (.ref r) H'
theorem ok_knots (T : Tx K mg) (J : Js P w K mg base) : FnOk P w K mg base CX0 6 (He.ga K "knots") T.fd_knots ["web"] (sp_knots K) := by
  refine T.F_knots.ok sc_knots (fun vs H Q E h => ?_) (fun cdv A outer s H vs Q E hr h => ?_)
  · obtain ⟨_, _, _, _, rfl, _⟩ := h
    rfl
  · obtain ⟨p, l, d, w, rfl, hw, ok, hT, q⟩ := h
    have hu := hu_of hr
    refine ⟨_, PSs.nox (pss_cons (ps_set (i := 1) sc_knots.nd rfl (Or.inl rfl) (pe_meth0 (pv 0) T.cl_Web T.m_Web_ties (ok_Web_ties T) (hr.mono (by decide)) T.k_Web_ties .nil pass0))
      (pss_cons (ps_set (i := 2) sc_knots.nd rfl (Or.inl rfl) (pe_call (ok_knots_by_points T) (hr.mono (by decide)) (by rfl) T.g_knots_by_points T.F_knots_by_points.kp T.k_knots_by_points .nil pass0 (pa_cons (pv 0) pa_nil)))
      (pss_cons (ps_set (i := 3) sc_knots.nd rfl (Or.inl rfl) (pe_lst pa_nil))
      (pss_cons (ps_while PassesOwn.never (pt_truth (pv 2) (by intro _; rfl)) (pss_cons (ps_set (i := 4) sc_knots.nd rfl (Or.inl rfl) (pe_call (ok_first_free T J) (hr.mono (by decide)) (by rfl) T.g_first_free T.F_first_free.kp T.k_first_free .nil pass0 (pa_cons (pv 1) (pa_cons (pv 2) pa_nil))))
      (pss_cons (ps_expr (pe_bm PySem.F.plainAttrs_list PySem.F.slot_list_remove PySem.F.type_list_remove (AnyL.mt_removeD hr.units) (pv 2) (pa_cons (pv 4) pa_nil)))
      (pss_one (ps_expr (pe_bm PySem.F.plainAttrs_list PySem.F.slot_list_append PySem.F.type_list_append mt_append (pv 3) (pa_cons (pv 4) pa_nil)))))))
      (pss_one (ps_ret (pv 3))))))), ?_⟩
    have l16 := ok.le
    have l48 := ok.tl
    obtain ⟨dx, ep⟩ := hw.self
    walk_at "go"
    refine i_kMethC ep rfl ?_
    walk_at "go"
    refine ⟨p, l, d, w, rfl, hw, l48, fun tl as H1 s1 htl0 htl hts => ?_⟩
    walk_at "go"
    refine ⟨p, l, d, w, rfl, hw.same s1, ok, fun lf ls H2 s2 hlf0 fls ndl hll => ?_⟩
    have s12 := s1.trans s2
    walk_at "go"
    refine ⟨by walk_at "sz", fun r hr0 => ?_⟩
    have s3 : Same H2 (upd H2 r (.lst [])) := Same.new hr0
    have er : (upd H2 r (.lst [])) r = some (.lst []) := upd_same
    have hll3 := hll.same s3
    have s13 := s12.trans s3
    have htl3 := (s2.trans s3) _ _ htl
    have hts3 := hts.mono fun _ _ q => TieAt.same q (s2.trans s3)
    have frr : H r = none := s12.free hr0
    have flf : H lf = none := s1.free hlf0
    have nrl : r ≠ lf := fun e => by rw [e, hll.top] at hr0; cases hr0
    have nrb : ∀ b ∈ ls, b ≠ r := fun b hb e => by
      obtain ⟨_, _, q⟩ := Two.mem hll.els hb
      rw [e, hr0] at q; cases q
    generalize upd H2 r (.lst []) = H3 at s3 er hll3 s13 htl3 hts3 ⊢
    walk_at "go"
    have hst : ∀ b ∈ ls, H b = none ∧ b ≠ lf ∧ b ≠ r := fun b hb => ⟨s1.free (fls b hb).1, (fls b hb).2, nrb b hb⟩
    refine ⟨fun m σ H' => ∃ ls os left done, left.length ≤ m ∧ Same H H' ∧ LL H' lf ls left ∧ LL H' r os done ∧ LeftK w left ∧ done ++ orderK w.ts m left = orderK w.ts 17 (knotsBy w) ∧ done.length + left.length ≤ 17 ∧ (∀ b ∈ ls ++ os, H b = none ∧ b ≠ lf ∧ b ≠ r) ∧ (ls ++ os).Nodup ∧
        H' tl = some (.lst (as.map V.ref)) ∧ Two (fun a nt => TieAt K H' nt.1 nt.2 a) as w.ts ∧ ∃ v4, σ = [some (.ref p), some (.ref tl), some (.ref lf), some (.ref r), v4],
      ⟨17, ls, [], knotsBy w, [], by have := knots_len ok; omega, s13, hll3, ⟨er, .nil⟩, LeftK.start ok, rfl, by have := knots_len ok; simp; omega, by simpa using hst, by simpa using ndl, htl3, hts3, none, rfl⟩, ?_⟩
    rintro m σ H4 ⟨ls4, os, left, done, hm, s4, l4, o4, L, eo, dl, fr, nd, htl4, hts4, v4, rfl⟩
    have lens := Two.len l4.els
    have leno := Two.len o4.els
    walk_at "go"
    refine ⟨!(ls4.map V.ref).isEmpty, .inl ⟨_, SqL.of l4.top, rfl⟩, ?_⟩
    have ee : (!(ls4.map V.ref).isEmpty) = !left.isEmpty := by
      cases ls4 <;> cases left <;> first | rfl | simp at lens
    rw [ee]
    cases hle : left.isEmpty with
    | true =>
      have e0 : left = [] := by simpa using hle
      subst e0
      walk_at "go"
      have e1 : orderK w.ts m [] = [] := by cases m <;> rfl
      rw [e1, List.append_nil] at eo
      rw [← eo] at q
      exact q r os H4 s4 frr (fun b hb => ⟨(fr b (List.mem_append.mpr (.inr hb))).1, (fr b (List.mem_append.mpr (.inr hb))).2.2⟩) (List.nodup_append.mp nd).2.1 o4
    | false =>
      have ne : left ≠ [] := fun e => by rw [e] at hle; cases hle
      obtain ⟨k, rest, ek, hkl, hkf⟩ := freeK_ne ok L ne
      obtain ⟨m', rfl⟩ : ∃ m', m = m' + 1 := by
        cases m with
        | zero => exact absurd (List.length_eq_zero_iff.mp (by omega)) ne
        | succ m' => exact ⟨m', rfl⟩
      have x20 : ∀ xs ∈ left, xs.length ≤ 20 := fun xs hxs => by
        obtain ⟨z, _, e, _⟩ := knots_mem ok (L.sub xs hxs)
        have := knot_len (w := w) z
        rw [e]; omega
      walk_at "go"
      refine ⟨fun σ' H' => ∃ ls os left done, left.length ≤ m' ∧ Same H H' ∧ LL H' lf ls left ∧ LL H' r os done ∧ LeftK w left ∧ done ++ orderK w.ts m' left = orderK w.ts 17 (knotsBy w) ∧ done.length + left.length ≤ 17 ∧ (∀ b ∈ ls ++ os, H b = none ∧ b ≠ lf ∧ b ≠ r) ∧ (ls ++ os).Nodup ∧
        H' tl = some (.lst (as.map V.ref)) ∧ Two (fun a nt => TieAt K H' nt.1 nt.2 a) as w.ts ∧ ∃ v4, σ' = [some (.ref p), some (.ref tl), some (.ref lf), some (.ref r), v4], fun σ' H' h => ⟨m', Nat.lt_succ_self _, h⟩, ?_⟩
      walk_at "go"
      refine ⟨tl, lf, as, w.ts, ls4, left, rfl, htl4, hts4, l4, s4 _ _ hT, by omega, x20, k, rest, ek, fun i b H5 s5 hi hb => ?_⟩
      have l5 := l4.same s5
      have o5 := o4.same s5
      have s45 := s4.trans s5
      obtain ⟨hil, hik⟩ := List.getElem?_eq_some_iff.mp hi
      have eb : H5 b = some (.lst (k.map V.str)) := by
        obtain ⟨xs, e1, e2⟩ := Two.get l5.els hb
        rw [hi] at e1
        cases e1
        exact e2
      have hbm : b ∈ ls4 := List.mem_of_getElem? hb
      obtain ⟨fb, nbl, nbr⟩ := fr b (List.mem_append.mpr (.inl hbm))
      walk_at "go"
      refine i_kTyL (SqL.of l5.top) ?_
      walk_at "go"
      refine ⟨lf, .ref b, _, _, AnyL.dS k, i, rfl, rfl, l5.top, dp_two l5.els, .lst (SqL.of eb) (AnyL.dp_dS k), AnyL.dS_allPlain left, AnyL.dS_plain k, AnyL.dS_depth k, AnyL.place_dS L.nd hi, ?_⟩
      rw [AnyL.erase_map]
      have nls : lf ∉ ls4 := fun m => (fr lf (List.mem_append.mpr (.inl m))).2.1 rfl
      have nos : lf ∉ os := fun m => (fr lf (List.mem_append.mpr (.inr m))).2.1 rfl
      have nrs : r ∉ ls4 := fun m => (fr r (List.mem_append.mpr (.inl m))).2.2 rfl
      have nro : r ∉ os := fun m => (fr r (List.mem_append.mpr (.inr m))).2.2 rfl
      have k6 : ∀ z o, z ≠ lf → H5 z = some o → (upd H5 lf (.lst ((ls4.eraseIdx i).map V.ref))) z = some o := fun z o hz e => (upd_ne hz).trans e
      have l6 : LL (upd H5 lf (.lst ((ls4.eraseIdx i).map V.ref))) lf (ls4.eraseIdx i) (left.erase k) := by
        rw [erase_at L.nd hi]
        exact ⟨upd_same, two_erase (ll_off nls l5.els) i⟩
      have o6 : LL (upd H5 lf (.lst ((ls4.eraseIdx i).map V.ref))) r os done := ⟨k6 _ _ nrl o5.top, ll_off nos o5.els⟩
      have eb6 := k6 _ _ nbl eb
      have s6 : Same H (upd H5 lf (.lst ((ls4.eraseIdx i).map V.ref))) := Same.mut s45 flf
      have ntl : tl ≠ lf := fun e => by
        have h := htl
        rw [e, hlf0] at h
        cases h
      have htl6 := k6 _ _ ntl (s5 _ _ htl4)
      have hts6 : Two (fun a nt => TieAt K (upd H5 lf (.lst ((ls4.eraseIdx i).map V.ref))) nt.1 nt.2 a) as w.ts := hts4.mono fun a nt ⟨dx, e⟩ => ⟨dx, k6 _ _ (fun c => by
        rw [c] at e
        have h := l4.top
        rw [e] at h
        cases h) (s5 _ _ e)⟩
      generalize upd H5 lf (.lst ((ls4.eraseIdx i).map V.ref)) = H6 at l6 o6 eb6 s6 htl6 hts6 ⊢
      walk_at "go"
      refine i_kTyL (SqL.of o6.top) ?_
      walk_at "go"
      refine i_append o6.top ?_ (by rw [List.length_map, leno, sizeLine_eq]; omega)
      walk_at "go"
      have k7 : ∀ z o, z ≠ r → H6 z = some o → (upd H6 r (.lst (os.map V.ref ++ [.ref b]))) z = some o := fun z o hz e => (upd_ne hz).trans e
      have nre : r ∉ ls4.eraseIdx i := fun m => nrs (List.mem_of_mem_eraseIdx m)
      have le1 : (left.erase k).length = left.length - 1 := by
        rw [erase_at L.nd hi, List.length_eraseIdx, if_pos hil]
      have ntr : tl ≠ r := fun e => by
        have h := (s2 _ _ htl)
        rw [e, hr0] at h
        cases h
      obtain ⟨nd1, nd2, nd3⟩ := List.nodup_append.mp nd
      have nbo : b ∉ os := fun m => nd3 b hbm b m rfl
      have nbe : b ∉ ls4.eraseIdx i := by
        obtain ⟨hbl, hbk⟩ := List.getElem?_eq_some_iff.mp hb
        rw [← erase_at nd1 hb]
        exact List.Nodup.not_mem_erase nd1
      refine ⟨ls4.eraseIdx i, os ++ [b], left.erase k, done ++ [k], by omega, Same.mut s6 frr, ⟨k7 _ _ nrl.symm l6.top, ll_off nre l6.els⟩, ⟨by rw [upd_same, List.map_append]; rfl, Two.app (ll_off nro o6.els) (.cons (k7 _ _ nbr eb6) .nil)⟩, L.next ok hkl hkf, ?_, by rw [List.length_append, le1]; have := List.length_pos_of_mem hkl; simp; omega, ?_, ?_, k7 _ _ ntr htl6, hts6.mono fun a nt ⟨dx, e⟩ => ⟨dx, k7 _ _ (fun c => by
        rw [c] at e
        have h := o6.top
        rw [e] at h
        cases h) e⟩, _, rfl⟩
      · rw [← eo, List.append_assoc]
        congr 1
        show k :: orderK w.ts m' (left.erase k) = match freeK w.ts left with
          | [] => []
          | k :: _ => k :: orderK w.ts m' (left.erase k)
        rw [ek]
      · intro c hc
        rcases List.mem_append.mp hc with hc | hc
        · exact fr c (List.mem_append.mpr (.inl (List.mem_of_mem_eraseIdx hc)))
        · rcases List.mem_append.mp hc with hc | hc
          · exact fr c (List.mem_append.mpr (.inr hc))
          · rw [List.mem_singleton.mp hc]
            exact ⟨fb, nbl, nbr⟩
      · refine List.nodup_append.mpr ⟨nd1.sublist (List.eraseIdx_sublist ..), List.nodup_append.mpr ⟨nd2, by simp, fun a ha c hc e => nbo (by rw [← List.mem_singleton.mp hc, ← e]; exact ha)⟩, fun a ha c hc e => ?_⟩
        subst e
        rcases List.mem_append.mp hc with hc | hc
        · exact nd3 a (List.mem_of_mem_eraseIdx ha) a hc rfl
        · rw [List.mem_singleton.mp hc] at ha
          exact nbe ha
end
end K18

set_option Elab.async false
set_option linter.all false
set_option maxRecDepth 100000
set_option maxHeartbeats 4000000
namespace K18
open PySem PySem.Spec PyProof.Rows L2 HX WB
local macro_rules | `(tactic| walk_at "side") => `(tactic| first
  | assumption
  | rfl
  | (show (0 : Int) < _; omega)
  | (unfold CDiv; omega)
  | (unfold CMul; omega)
  | (unfold CPow; omega)
  | (rw [sizeLine_eq]; omega)
  | omega)
local macro_rules | `(tactic| walk_at "e") => `(tactic| first
  | ((with_reducible apply i_var); exact rfl)
  | (with_reducible apply i_c)
  | (with_reducible apply i_op)
  | (with_reducible apply i_un)
  | (with_reducible apply i_rI0)
  | ((with_reducible apply i_rI); (case c => walk_at "side"))
  | (with_reducible apply i_rGe)
  | (with_reducible apply i_rGt)
  | (with_reducible apply i_rU)
  | (with_reducible apply i_rEqI)
  | (with_reducible apply i_rNeI)
  | (with_reducible apply i_rEqS)
  | (with_reducible apply i_rNeS)
  | (with_reducible apply i_rEqB)
  | (with_reducible apply i_rNeB)
  | (with_reducible apply i_rIsN)
  | (with_reducible apply i_rNotN)
  | (with_reducible apply i_rInS)
  | (with_reducible apply i_rNotInS)
  | ((with_reducible apply i_catS); (case c => walk_at "side"))
  | (with_reducible apply i_tcb)
  | (with_reducible apply i_nil)
  | (with_reducible apply i_cons)
  | ((with_reducible apply i_lenS); (case c => walk_at "side"))
  | ((with_reducible apply i_lenL); assumption)
  | (with_reducible apply i_abs)
  | (with_reducible apply i_max2)
  | (with_reducible apply i_min2)
  | ((with_reducible apply i_strI); (case c => walk_at "side"))
  | (with_reducible apply i_intB)
  | (with_reducible apply i_test)
  | (with_reducible apply i_tB)
  | (with_reducible apply i_kB)
  | (with_reducible apply i_and)
  | (with_reducible apply i_or)
  | (with_reducible apply i_not)
  | (with_reducible apply i_if)
  | (with_reducible apply i_andV)
  | (with_reducible apply i_orV)
  | (with_reducible apply i_notV)
  | (with_reducible apply i_kAndV)
  | (with_reducible apply i_kOrV)
  | (with_reducible apply i_kNotV)
  | (with_reducible apply i_chain)
  | (with_reducible apply i_kChain)
  | (with_reducible apply i_drop)
  | (with_reducible apply i_ret)
  | (with_reducible apply i_retN)
  | (with_reducible apply i_ifS)
  | (with_reducible apply i_asg)
  | (with_reducible apply i_gName)
  | (with_reducible apply i_for)
  | (with_reducible apply i_lc)
  | (with_reducible apply i_iList)
  | (with_reducible apply i_iTup)
  | (with_reducible apply i_iStr)
  | (with_reducible apply i_kStrI)
  | (with_reducible apply i_lst)
  | (with_reducible apply i_tup)
  | (with_reducible apply i_call)
  | (with_reducible apply i_m1)
  | (with_reducible apply i_kStr)
  | (with_reducible apply i_bm)
  | (with_reducible apply i_bm0)
  | (with_reducible apply i_part)
  | (with_reducible apply i_kInt)
  | (with_reducible apply i_noPart)
  | (with_reducible apply i_sl)
  | (with_reducible apply i_range1)
  | (with_reducible apply i_range2)
  | ((with_reducible apply i_kRng1); (case c => walk_at "side"))
  | ((with_reducible apply i_kRng2); (case c => walk_at "side"))
  | (with_reducible apply i_gCons)
  | (with_reducible apply i_gNil)
  | (with_reducible apply i_gSub)
  | (with_reducible apply i_iZip)
  | (with_reducible apply i_yes)
  | (with_reducible apply i_ift)
  | (with_reducible apply i_iff)
  | (with_reducible apply i_nb))
local macro_rules | `(tactic| walk_at "go") => `(tactic| repeat (first | (with_reducible apply i_seq) | (with_reducible apply i_next) | walk_at "e"))
local macro_rules | `(tactic| walk_at "ge") => `(tactic| repeat walk_at "e")
local macro_rules | `(tactic| walk_at "sz") => `(tactic| first | decide | (rw [sizeLine_eq]; simp; done) | (rw [sizeLine_eq]; omega))
local macro_rules | `(tactic| walk_at "side") => `(tactic| (with_reducible exact WB.most_pos))
local macro_rules | `(tactic| walk_at "e") => `(tactic| first
  | ((with_reducible apply i_isT (b := true)); exact rfl)
  | ((with_reducible apply i_isT (b := false)); exact rfl)
  | (with_reducible apply i_fld)
  | ((with_reducible apply i_kFld); (case h => assumption); (case c1 => assumption); (case c2 => assumption); (case e => first | exact lk_number | exact lk_tail | exact lk_head | exact lk_load | exact lk_oneway | exact lk_points | exact lk_ties | exact lk_given))
  | (with_reducible apply i_sfld)
  | ((with_reducible apply i_kSFld); (case h => first | assumption | exact upd_same); (case c1 => assumption); (case c2 => assumption); (case e => exact Nat.le_of_ble_eq_true rfl))
  | (with_reducible apply i_methC)
  | (with_reducible apply i_make)
  | (with_reducible apply i_fldaug)
  | (with_reducible apply i_vals)
  | (with_reducible apply i_items)
  | (with_reducible apply i_dget)
  | (with_reducible apply i_dput)
  | (with_reducible apply i_din)
  | (with_reducible apply i_dnotin)
  | (with_reducible apply i_ddel)
  | (with_reducible apply i_dc)
  | (with_reducible apply i_enum))
/-- the order: each knot once, no tie leads from a later one into an earlier one -/
theorem order_ok {w : Wb} (ok : Wok w) : ∀ (n : Nat) {left : List (List Str)}, LeftK w left → left.length ≤ n → (orderK w.ts n left).Perm left ∧ (orderK w.ts n left).Pairwise fun a b => ∀ m t, (m, t) ∈ w.ts → t.h ∈ a → t.t ∉ b
  | 0, left, L, h => by
    have : left = [] := List.length_eq_zero_iff.mp (by omega)
    subst this
    exact ⟨.refl _, .nil⟩
  | n + 1, left, L, h => by
    by_cases e : left = []
    · subst e
      exact ⟨.refl _, .nil⟩
    obtain ⟨k, r, ek, hk, hf⟩ := freeK_ne ok L e
    have eo : orderK w.ts (n + 1) left = k :: orderK w.ts n (left.erase k) := by
      show (match freeK w.ts left with
        | [] => []
        | k :: _ => k :: orderK w.ts n (left.erase k)) = _
      rw [ek]
    obtain ⟨j, hj⟩ := List.mem_iff_getElem?.mp hk
    have le1 : (left.erase k).length = left.length - 1 := by
      rw [erase_at L.nd hj, List.length_eraseIdx, if_pos (List.getElem?_eq_some_iff.mp hj).1]
    obtain ⟨p1, p2⟩ := order_ok ok n (L.next ok hk hf) (by omega)
    rw [eo]
    refine ⟨(p1.cons k).trans (List.perm_cons_erase hk).symm, List.pairwise_cons.mpr ⟨fun b hb m t hm h1 h2 => ?_, p2⟩⟩
    have hb' : b ∈ left.erase k := p1.mem_iff.mp hb
    have hbl := List.mem_of_mem_erase hb'
    have hfl : t.t ∈ left.flatten := List.mem_flatten.mpr ⟨b, hbl, h2⟩
    by_cases c : t.t ∈ k
    · -- then b is k itself
      obtain ⟨x1, g1, e1, _⟩ := knots_mem ok (L.sub b hbl)
      obtain ⟨x2, g2, e2, _⟩ := knots_mem ok (L.sub k hk)
      have ebk : b = k := by
        rw [e1] at h2
        rw [e2] at c
        rw [e1, e2, ← knot_eq ok g1 h2, ← knot_eq ok g2 c]
      rw [ebk] at hb'
      exact List.Nodup.not_mem_erase L.nd hb'
    · have : ledInto w.ts k left.flatten = true := by
        unfold ledInto ledOne
        rw [List.any_eq_true]
        refine ⟨(m, t), hm, ?_⟩
        simp only [Bool.and_eq_true, decide_eq_true_eq, Bool.not_eq_true', decide_eq_false_iff_not]
        exact ⟨h1, hfl, c⟩
      rw [hf] at this
      cases this
/-- the knots in their order -/
abbrev ordE (w : Wb) : List (List Str) := orderK w.ts 17 (knotsBy w)
structure OrdK (w : Wb) : Prop where
  len : (ordE w).length ≤ 16
  sub : ∀ k ∈ ordE w, k ∈ knotsBy w
  at_ : ∀ x ∈ w.ps, ∃ (i : Nat) (k : List Str), (ordE w)[i]? = some k ∧ x ∈ k
  one : ∀ (i j : Nat) (a b : List Str) (x : Str), (ordE w)[i]? = some a → (ordE w)[j]? = some b → x ∈ a → x ∈ b → i = j
  fwd : ∀ (i j : Nat) (a b : List Str) (m : Int) (t : Ti), (ordE w)[i]? = some a → (ordE w)[j]? = some b → (m, t) ∈ w.ts → t.t ∈ a → t.h ∈ b → i ≤ j
  two : ∀ (i j : Nat) (a b : List Str) (m : Int) (t : Ti), (ordE w)[i]? = some a → (ordE w)[j]? = some b → (m, t) ∈ w.ts → t.o = false → t.t ∈ a → t.h ∈ b → i = j
theorem ord_of {w : Wb} (ok : Wok w) : OrdK w := by
  have kl := knots_len ok
  have l16 := ok.le
  obtain ⟨p1, p2⟩ := order_ok ok 17 (LeftK.start ok) (by omega)
  have sub : ∀ k ∈ ordE w, k ∈ knotsBy w := fun k hk => p1.mem_iff.mp hk
  have nd : (ordE w).Nodup := p1.nodup_iff.mpr (knots_nodup ok)
  have same : ∀ a b x, a ∈ ordE w → b ∈ ordE w → x ∈ a → x ∈ b → a = b := fun a b x ha hb h1 h2 => by
    obtain ⟨x1, g1, e1, _⟩ := knots_mem ok (sub a ha)
    obtain ⟨x2, g2, e2, _⟩ := knots_mem ok (sub b hb)
    rw [e1] at h1
    rw [e2] at h2
    rw [e1, e2, ← knot_eq ok g1 h1, ← knot_eq ok g2 h2]
  have inj : ∀ (i j : Nat) a, (ordE w)[i]? = some a → (ordE w)[j]? = some a → i = j := fun i j a hi hj => by
    obtain ⟨h1, g1⟩ := List.getElem?_eq_some_iff.mp hi
    obtain ⟨h2, g2⟩ := List.getElem?_eq_some_iff.mp hj
    exact (List.getElem_inj nd (h₀ := h1) (h₁ := h2)).mp (g1.trans g2.symm)
  refine ⟨by rw [p1.length_eq]; omega, sub, fun x hx => ?_, fun i j a b x hi hj h1 h2 => ?_, fun i j a b m t hi hj hm h1 h2 => ?_, fun i j a b m t hi hj hm ho h1 h2 => ?_⟩
  · have := p1.mem_iff.mpr (knot_there ok hx)
    obtain ⟨i, hi⟩ := List.mem_iff_getElem?.mp this
    exact ⟨i, _, hi, knot_self ok hx⟩
  · have e := same a b x (List.mem_of_getElem? hi) (List.mem_of_getElem? hj) h1 h2
    subst e
    exact inj i j a hi hj
  · rcases Nat.lt_or_ge j i with c | c
    · obtain ⟨g1, e1⟩ := List.getElem?_eq_some_iff.mp hi
      obtain ⟨g2, e2⟩ := List.getElem?_eq_some_iff.mp hj
      have := List.pairwise_iff_getElem.mp p2 j i g2 g1 c m t hm (by rw [e2]; exact h2)
      rw [e1] at this
      exact absurd h1 this
    · exact c
  · have r1 : Rch (freeS w.ts) t.t t.h := .step .here (free_mem.mpr ⟨t, hm, .inl ⟨rfl, rfl⟩⟩)
    have r2 : Rch (freeS w.ts) t.h t.t := .step .here (free_mem.mpr ⟨t, hm, .inr ⟨ho, rfl, rfl⟩⟩)
    have : t.t ∈ b := knot_same ok (sub b (List.mem_of_getElem? hj)) h2 r1 r2
    have e := same a b t.t (List.mem_of_getElem? hi) (List.mem_of_getElem? hj) h1 this
    subst e
    exact inj i j a hi hj
end K18

set_option Elab.async false
set_option linter.all false
set_option maxRecDepth 100000
set_option maxHeartbeats 4000000
namespace K18
open PySem PySem.Spec PyProof.Rows L2 HX WB
local macro_rules | `(tactic| walk_at "side") => `(tactic| first
  | assumption
  | rfl
  | (show (0 : Int) < _; omega)
  | (unfold CDiv; omega)
  | (unfold CMul; omega)
  | (unfold CPow; omega)
  | (rw [sizeLine_eq]; omega)
  | omega)
local macro_rules | `(tactic| walk_at "e") => `(tactic| first
  | ((with_reducible apply i_var); exact rfl)
  | (with_reducible apply i_c)
  | (with_reducible apply i_op)
  | (with_reducible apply i_un)
  | (with_reducible apply i_rI0)
  | ((with_reducible apply i_rI); (case c => walk_at "side"))
  | (with_reducible apply i_rGe)
  | (with_reducible apply i_rGt)
  | (with_reducible apply i_rU)
  | (with_reducible apply i_rEqI)
  | (with_reducible apply i_rNeI)
  | (with_reducible apply i_rEqS)
  | (with_reducible apply i_rNeS)
  | (with_reducible apply i_rEqB)
  | (with_reducible apply i_rNeB)
  | (with_reducible apply i_rIsN)
  | (with_reducible apply i_rNotN)
  | (with_reducible apply i_rInS)
  | (with_reducible apply i_rNotInS)
  | ((with_reducible apply i_catS); (case c => walk_at "side"))
  | (with_reducible apply i_tcb)
  | (with_reducible apply i_nil)
  | (with_reducible apply i_cons)
  | ((with_reducible apply i_lenS); (case c => walk_at "side"))
  | ((with_reducible apply i_lenL); assumption)
  | (with_reducible apply i_abs)
  | (with_reducible apply i_max2)
  | (with_reducible apply i_min2)
  | ((with_reducible apply i_strI); (case c => walk_at "side"))
  | (with_reducible apply i_intB)
  | (with_reducible apply i_test)
  | (with_reducible apply i_tB)
  | (with_reducible apply i_kB)
  | (with_reducible apply i_and)
  | (with_reducible apply i_or)
  | (with_reducible apply i_not)
  | (with_reducible apply i_if)
  | (with_reducible apply i_andV)
  | (with_reducible apply i_orV)
  | (with_reducible apply i_notV)
  | (with_reducible apply i_kAndV)
  | (with_reducible apply i_kOrV)
  | (with_reducible apply i_kNotV)
  | (with_reducible apply i_chain)
  | (with_reducible apply i_kChain)
  | (with_reducible apply i_drop)
  | (with_reducible apply i_ret)
  | (with_reducible apply i_retN)
  | (with_reducible apply i_ifS)
  | (with_reducible apply i_asg)
  | (with_reducible apply i_gName)
  | (with_reducible apply i_for)
  | (with_reducible apply i_lc)
  | (with_reducible apply i_iList)
  | (with_reducible apply i_iTup)
  | (with_reducible apply i_iStr)
  | (with_reducible apply i_kStrI)
  | (with_reducible apply i_lst)
  | (with_reducible apply i_tup)
  | (with_reducible apply i_call)
  | (with_reducible apply i_m1)
  | (with_reducible apply i_kStr)
  | (with_reducible apply i_bm)
  | (with_reducible apply i_bm0)
  | (with_reducible apply i_part)
  | (with_reducible apply i_kInt)
  | (with_reducible apply i_noPart)
  | (with_reducible apply i_sl)
  | (with_reducible apply i_range1)
  | (with_reducible apply i_range2)
  | ((with_reducible apply i_kRng1); (case c => walk_at "side"))
  | ((with_reducible apply i_kRng2); (case c => walk_at "side"))
  | (with_reducible apply i_gCons)
  | (with_reducible apply i_gNil)
  | (with_reducible apply i_gSub)
  | (with_reducible apply i_iZip)
  | (with_reducible apply i_yes)
  | (with_reducible apply i_ift)
  | (with_reducible apply i_iff)
  | (with_reducible apply i_nb))
local macro_rules | `(tactic| walk_at "go") => `(tactic| repeat (first | (with_reducible apply i_seq) | (with_reducible apply i_next) | walk_at "e"))
local macro_rules | `(tactic| walk_at "ge") => `(tactic| repeat walk_at "e")
local macro_rules | `(tactic| walk_at "sz") => `(tactic| first | decide | (rw [sizeLine_eq]; simp; done) | (rw [sizeLine_eq]; omega))
local macro_rules | `(tactic| walk_at "side") => `(tactic| (with_reducible exact WB.most_pos))
local macro_rules | `(tactic| walk_at "e") => `(tactic| first
  | ((with_reducible apply i_isT (b := true)); exact rfl)
  | ((with_reducible apply i_isT (b := false)); exact rfl)
  | (with_reducible apply i_fld)
  | ((with_reducible apply i_kFld); (case h => assumption); (case c1 => assumption); (case c2 => assumption); (case e => first | exact lk_number | exact lk_tail | exact lk_head | exact lk_load | exact lk_oneway | exact lk_points | exact lk_ties | exact lk_given))
  | (with_reducible apply i_sfld)
  | ((with_reducible apply i_kSFld); (case h => first | assumption | exact upd_same); (case c1 => assumption); (case c2 => assumption); (case e => exact Nat.le_of_ble_eq_true rfl))
  | (with_reducible apply i_methC)
  | (with_reducible apply i_make)
  | (with_reducible apply i_fldaug)
  | (with_reducible apply i_vals)
  | (with_reducible apply i_items)
  | (with_reducible apply i_dget)
  | (with_reducible apply i_dput)
  | (with_reducible apply i_din)
  | (with_reducible apply i_dnotin)
  | (with_reducible apply i_ddel)
  | (with_reducible apply i_dc)
  | (with_reducible apply i_enum))
def hd0 (xs : List Str) : Str := xs.headD ""
theorem hd0_of {xs : List Str} {x : Str} (h : xs.head? = some x) : hd0 xs = x := by
  cases xs with
  | nil => cases h
  | cons a r => cases h; rfl
/-- the first points of the knots that nothing leads into -/
def startsOf (w : Wb) : List Str := ((knotsBy w).filter fun k => !ledInto w.ts k w.ps).map hd0
abbrev farOf (w : Wb) (x : Str) : List Str := namesIn w.ps (came (freeS w.ts) x)
def intoOf (w : Wb) (x : Str) : List Str := w.ps.filter fun y => decide (x ∈ farOf w y)
def lawStart (w : Wb) (x : Str) : Bool := decide ((intoOf w x).filter (fun y => !decide (y ∈ farOf w x)) = []) && decide ((intoOf w x).head? = some x)
theorem far_mem {w : Wb} {x y : Str} : x ∈ farOf w y ↔ x ∈ w.ps ∧ x ∈ rc w.ts y := by
  unfold farOf namesIn
  rw [List.mem_filter, decide_eq_true_eq]
theorem flat_mem {w : Wb} (ok : Wok w) {y : Str} : y ∈ (knotsBy w).flatten ↔ y ∈ w.ps := by
  rw [List.mem_flatten]
  constructor
  · rintro ⟨k, hk, hy⟩
    obtain ⟨x, hx, rfl, _⟩ := knots_mem ok hk
    exact (List.mem_filter.mp hy).1
  · intro hy
    exact ⟨_, knot_there ok hy, knot_self ok hy⟩
theorem led_all {w : Wb} (ok : Wok w) {x : Str} (hx : x ∈ w.ps) : ledInto w.ts (knotOf w x) w.ps = true ↔ ∃ z ∈ w.ps, z ∉ knotOf w x ∧ ∃ y ∈ knotOf w x, Rch (freeS w.ts) z y := by
  have e : ledInto w.ts (knotOf w x) w.ps = ledInto w.ts (knotOf w x) (knotsBy w).flatten := by
    unfold ledInto ledOne
    congr 1
    funext nt
    rw [decide_eq_decide.mpr (flat_mem ok (y := nt.2.t)).symm]
  rw [e, led_iff ok (LeftK.start ok) (knot_there ok hx)]
  constructor
  · rintro ⟨z, hz, h⟩
    exact ⟨z, (flat_mem ok).mp hz, h⟩
  · rintro ⟨z, hz, h⟩
    exact ⟨z, (flat_mem ok).mpr hz, h⟩
theorem start_one {w : Wb} (ok : Wok w) {x : Str} (hx : x ∈ w.ps) : (!ledInto w.ts (knotOf w x) w.ps && decide ((knotOf w x).head? = some x)) = lawStart w x := by
  unfold lawStart
  cases hl : ledInto w.ts (knotOf w x) w.ps with
  | true =>
    obtain ⟨z, hz, hzk, y, hy, r⟩ := (led_all ok hx).mp hl
    obtain ⟨y1, y2⟩ := (knot_iff ok hx).mp hy
    have zx : Rch (freeS w.ts) z x := rch_trans r y2
    have hm : z ∈ (intoOf w x).filter (fun y => !decide (y ∈ farOf w x)) := by
      refine List.mem_filter.mpr ⟨List.mem_filter.mpr ⟨hz, decide_eq_true (far_mem.mpr ⟨hx, (rc_iff ok hz).mpr zx⟩)⟩, ?_⟩
      rw [decide_eq_false]
      · rfl
      · intro m
        exact hzk ((knot_iff ok hx).mpr ⟨(rc_iff ok hx).mp (far_mem.mp m).2, zx⟩)
    rw [decide_eq_false (p := (intoOf w x).filter (fun y => !decide (y ∈ farOf w x)) = []) (fun e => by rw [e] at hm; cases hm)]
    rfl
  | false =>
    have key : ∀ y ∈ w.ps, x ∈ farOf w y → y ∈ rc w.ts x := fun y hy m => by
      refine Classical.byContradiction fun c => ?_
      have r := (rc_iff ok hy).mp (far_mem.mp m).2
      have : ledInto w.ts (knotOf w x) w.ps = true := (led_all ok hx).mpr ⟨y, hy, fun k => c ((rc_iff ok hx).mpr ((knot_iff ok hx).mp k).1), x, knot_self ok hx, r⟩
      rw [hl] at this
      cases this
    have e1 : (intoOf w x).filter (fun y => !decide (y ∈ farOf w x)) = [] := by
      refine List.filter_eq_nil_iff.mpr fun y hy h => ?_
      obtain ⟨h1, h2⟩ := List.mem_filter.mp hy
      have h3 := key y h1 (of_decide_eq_true h2)
      rw [decide_eq_true (far_mem.mpr ⟨h1, h3⟩)] at h
      cases h
    have e2 : intoOf w x = knotOf w x := by
      unfold intoOf knotOf
      apply List.filter_congr
      intro y hy
      have : x ∈ farOf w y ↔ (y ∈ rc w.ts x ∧ x ∈ rc w.ts y) := ⟨fun m => ⟨key y hy m, (far_mem.mp m).2⟩, fun m => far_mem.mpr ⟨hx, m.2⟩⟩
      rw [decide_eq_decide.mpr this, Bool.decide_and]
    rw [e1, e2, decide_eq_true rfl]
    rfl
theorem starts_eq {w : Wb} (ok : Wok w) : startsOf w = w.ps.filter (lawStart w) := by
  unfold startsOf knotsBy
  rw [List.filter_map, List.map_map, List.filter_filter]
  have e1 : (w.ps.filter fun x => ((fun k => !ledInto w.ts k w.ps) ∘ knotOf w) x && decide ((knotOf w x).head? = some x)) = w.ps.filter (lawStart w) := List.filter_congr fun x hx => start_one ok hx
  rw [e1]
  have e2 : ∀ x ∈ w.ps.filter (lawStart w), (hd0 ∘ knotOf w) x = x := fun x hx => by
    obtain ⟨h1, h2⟩ := List.mem_filter.mp hx
    rw [← start_one ok h1, Bool.and_eq_true] at h2
    exact hd0_of (of_decide_eq_true h2.2)
  rw [List.map_congr_left e2, List.map_id']
section
variable {P : Program} {w : World} {K : PySem.W.Frag} {mg : Str → Option Value} {base : Heap}
def sp_starts (K : PySem.W.Frag) : Sp := fun vs H Q _ => ∃ p l d w, vs = [.ref p] ∧ WebAt K H p l d w ∧ Wok w ∧ H (tb K) = some (AnyL.TabO (tb K)) ∧ ∀ r H', Same H H' → H r = none → H' r = some (.lst ((startsOf w).map V.str)) → Q (.ref r) H'
theorem ok_starts (T : Tx K mg) (J : Js P w K mg base) : FnOk P w K mg base CX0 6 (He.ga K "starts") T.fd_starts ["web"] (sp_starts K) := by
  refine T.F_starts.ok sc_starts (fun vs H Q E h => ?_) (fun cdv A outer s H vs Q E hr h => ?_)
  · obtain ⟨_, _, _, _, rfl, _⟩ := h
    rfl
  · obtain ⟨p, l, d, w, rfl, hw, ok, hT, q⟩ := h
    have hu := hu_of hr
    refine ⟨_, PSs.nox (pss_cons (ps_set (i := 1) sc_starts.nd rfl (Or.inr rfl) (pe_meth0 (pv 0) T.cl_Web T.m_Web_points (ok_Web_points T) (hr.mono (by decide)) T.k_Web_points .nil pass0))
      (pss_cons (ps_set (i := 2) sc_starts.nd rfl (Or.inr rfl) (pe_meth0 (pv 0) T.cl_Web T.m_Web_ties (ok_Web_ties T) (hr.mono (by decide)) T.k_Web_ties .nil pass0))
      (pss_one (ps_ret (pe_lc (own := [("knot", 3)]) (by rfl) sc_starts.nd (pi_list (pe_call (ok_knots_by_points T) (hr.mono (by decide)) (by rfl) T.g_knots_by_points T.F_knots_by_points.kp T.k_knots_by_points .nil pass0 (pa_cons (pv 0) pa_nil))) (blkOk_by (own := [("knot", 3)]) (N := N_starts) (sc := defScope s_starts) (by decide +kernel)) (fun _ _ _ _ _ => (pg_name (i := 3) sc_starts.nd rfl (Or.inl rfl))) (fun _ _ _ _ _ => (pts_one (pt_not (pt_val (pe_call (ok_is_led_into T J) (hr.mono (by decide)) (by rfl) T.g_is_led_into T.F_is_led_into.kp T.k_is_led_into .nil pass0 (pa_cons (pv 2) (pa_cons (pv 3) (pa_cons (pv 1) pa_nil)))))))) (fun _ _ _ _ _ => (pe_ix (ix_listK K rfl) (pv 3) pe_int (fun _ _ => rfl)))))))), ?_⟩
    have l16 := ok.le
    have l48 := ok.tl
    walk_at "go"
    obtain ⟨dx, ep⟩ := hw.self
    refine i_kMethC ep rfl ?_
    walk_at "go"
    refine ⟨p, l, d, w, rfl, hw, fun nm hnm => ?_⟩
    have s1 : Same H (upd H nm (.lst (w.ps.map V.str))) := Same.new hnm
    have enm : (upd H nm (.lst (w.ps.map V.str))) nm = some (.lst (w.ps.map V.str)) := upd_same
    generalize upd H nm (.lst (w.ps.map V.str)) = H1 at s1 enm ⊢
    walk_at "go"
    refine i_kMethC (s1 _ _ ep) rfl ?_
    walk_at "go"
    refine ⟨p, l, d, w, rfl, hw.same s1, l48, fun tl as H2 s2 htl0 htl hts => ?_⟩
    have s12 := s1.trans s2
    walk_at "go"
    refine ⟨p, l, d, w, rfl, hw.same s12, ok, fun r ks H3 s3 hr0 fr nd ll => ?_⟩
    have kl : (knotsBy w).length ≤ 16 := Nat.le_trans (knots_len ok) l16
    have s13 := s12.trans s3
    have klen := Two.len ll.els
    walk_at "go"
    refine i_kListI (SqL.of ll.top) ?_
    intro D hD
    refine lc_it walk_list (fun i H' => Same H3 H' ∧ H' D = some (.lst (((((knotsBy w).take i).filter fun k => !ledInto w.ts k w.ps).map hd0).map V.str)))
      ⟨Same.new hD, by rw [upd_same]; rfl⟩ (fun i H' _ h => SqL.of (h.1 _ _ ll.top)) ?_ ?_
    · rintro i v H4 H5 hi ⟨s4, eD⟩ ⟨rfl, hv⟩
      rw [List.length_map] at hi
      rw [List.getElem?_map, List.getElem?_eq_getElem hi] at hv
      cases hv
      obtain ⟨xs, ex, eb⟩ := Two.get ll.els (List.getElem?_eq_getElem hi)
      generalize ks[i] = b at eb ⊢
      have tk : (knotsBy w).take (i + 1) = (knotsBy w).take i ++ [xs] := by rw [List.take_add_one, ex]; rfl
      obtain ⟨x, hx, _, hh⟩ := knots_mem ok (List.mem_of_getElem? ex)
      obtain ⟨z, zs, ek⟩ : ∃ z zs, xs = z :: zs := by
        cases xs with
        | nil => cases hh
        | cons z zs => exact ⟨z, zs, rfl⟩
      have l3 := List.length_filter_le (fun k => !ledInto w.ts k w.ps) ((knotsBy w).take i)
      rw [List.length_take] at l3
      have s34 := s13.trans s4
      rw [tk, List.filter_append, List.map_append, List.map_append]
      walk_at "go"
      refine ⟨rfl, ?_⟩
      walk_at "go"
      refine ⟨tl, b, nm, as, w.ts, xs, w.ps, rfl, (s3.trans s4) _ _ htl, hts.mono fun _ _ q => (q.same (s3.trans s4)), s4 _ _ eb, ((s2.trans s3).trans s4) _ _ enm, s34 _ _ hT, ?_⟩
      walk_at "go"
      cases hL : ledInto w.ts xs w.ps with
      | true =>
        rw [if_pos rfl]
        refine ⟨s4, ?_⟩
        rw [eD, List.filter_cons, hL, if_neg (by decide), List.filter_nil, List.map_nil, List.map_nil, List.append_nil]
      | false =>
        rw [if_neg (by decide)]
        walk_at "go"
        refine i_ixL (SqL.of (s4 _ _ eb)) (j := 0) (v := .str z) (atI_nat (j := 0) (by rw [ek]; rfl)) ?_
        refine ⟨_, eD, by rw [List.length_map, List.length_map, sizeLine_eq]; omega, Same.mut s4 hD, ?_⟩
        rw [upd_same, List.filter_cons, hL, if_pos (by decide), ek]
        rfl
    · rintro H4 ⟨s4, eD⟩
      rw [List.length_map, klen, List.take_length] at eD
      walk_at "go"
      exact q D H4 (s13.trans s4) (s13.free hD) eD
end
end K18

set_option Elab.async false
set_option linter.all false
set_option maxRecDepth 100000
set_option maxHeartbeats 4000000
namespace K18
open PySem PySem.Spec PyProof.Rows L2 HX WB
local macro_rules | `(tactic| walk_at "side") => `(tactic| first
  | assumption
  | rfl
  | (show (0 : Int) < _; omega)
  | (unfold CDiv; omega)
  | (unfold CMul; omega)
  | (unfold CPow; omega)
  | (rw [sizeLine_eq]; omega)
  | omega)
local macro_rules | `(tactic| walk_at "e") => `(tactic| first
  | ((with_reducible apply i_var); exact rfl)
  | (with_reducible apply i_c)
  | (with_reducible apply i_op)
  | (with_reducible apply i_un)
  | (with_reducible apply i_rI0)
  | ((with_reducible apply i_rI); (case c => walk_at "side"))
  | (with_reducible apply i_rGe)
  | (with_reducible apply i_rGt)
  | (with_reducible apply i_rU)
  | (with_reducible apply i_rEqI)
  | (with_reducible apply i_rNeI)
  | (with_reducible apply i_rEqS)
  | (with_reducible apply i_rNeS)
  | (with_reducible apply i_rEqB)
  | (with_reducible apply i_rNeB)
  | (with_reducible apply i_rIsN)
  | (with_reducible apply i_rNotN)
  | (with_reducible apply i_rInS)
  | (with_reducible apply i_rNotInS)
  | ((with_reducible apply i_catS); (case c => walk_at "side"))
  | (with_reducible apply i_tcb)
  | (with_reducible apply i_nil)
  | (with_reducible apply i_cons)
  | ((with_reducible apply i_lenS); (case c => walk_at "side"))
  | ((with_reducible apply i_lenL); assumption)
  | (with_reducible apply i_abs)
  | (with_reducible apply i_max2)
  | (with_reducible apply i_min2)
  | ((with_reducible apply i_strI); (case c => walk_at "side"))
  | (with_reducible apply i_intB)
  | (with_reducible apply i_test)
  | (with_reducible apply i_tB)
  | (with_reducible apply i_kB)
  | (with_reducible apply i_and)
  | (with_reducible apply i_or)
  | (with_reducible apply i_not)
  | (with_reducible apply i_if)
  | (with_reducible apply i_andV)
  | (with_reducible apply i_orV)
  | (with_reducible apply i_notV)
  | (with_reducible apply i_kAndV)
  | (with_reducible apply i_kOrV)
  | (with_reducible apply i_kNotV)
  | (with_reducible apply i_chain)
  | (with_reducible apply i_kChain)
  | (with_reducible apply i_drop)
  | (with_reducible apply i_ret)
  | (with_reducible apply i_retN)
  | (with_reducible apply i_ifS)
  | (with_reducible apply i_asg)
  | (with_reducible apply i_gName)
  | (with_reducible apply i_for)
  | (with_reducible apply i_lc)
  | (with_reducible apply i_iList)
  | (with_reducible apply i_iTup)
  | (with_reducible apply i_iStr)
  | (with_reducible apply i_kStrI)
  | (with_reducible apply i_lst)
  | (with_reducible apply i_tup)
  | (with_reducible apply i_call)
  | (with_reducible apply i_m1)
  | (with_reducible apply i_kStr)
  | (with_reducible apply i_bm)
  | (with_reducible apply i_bm0)
  | (with_reducible apply i_part)
  | (with_reducible apply i_kInt)
  | (with_reducible apply i_noPart)
  | (with_reducible apply i_sl)
  | (with_reducible apply i_range1)
  | (with_reducible apply i_range2)
  | ((with_reducible apply i_kRng1); (case c => walk_at "side"))
  | ((with_reducible apply i_kRng2); (case c => walk_at "side"))
  | (with_reducible apply i_gCons)
  | (with_reducible apply i_gNil)
  | (with_reducible apply i_gSub)
  | (with_reducible apply i_iZip)
  | (with_reducible apply i_yes)
  | (with_reducible apply i_ift)
  | (with_reducible apply i_iff)
  | (with_reducible apply i_nb))
local macro_rules | `(tactic| walk_at "go") => `(tactic| repeat (first | (with_reducible apply i_seq) | (with_reducible apply i_next) | walk_at "e"))
local macro_rules | `(tactic| walk_at "ge") => `(tactic| repeat walk_at "e")
local macro_rules | `(tactic| walk_at "sz") => `(tactic| first | decide | (rw [sizeLine_eq]; simp; done) | (rw [sizeLine_eq]; omega))
local macro_rules | `(tactic| walk_at "side") => `(tactic| (with_reducible exact WB.most_pos))
local macro_rules | `(tactic| walk_at "e") => `(tactic| first
  | ((with_reducible apply i_isT (b := true)); exact rfl)
  | ((with_reducible apply i_isT (b := false)); exact rfl)
  | (with_reducible apply i_fld)
  | ((with_reducible apply i_kFld); (case h => assumption); (case c1 => assumption); (case c2 => assumption); (case e => first | exact lk_number | exact lk_tail | exact lk_head | exact lk_load | exact lk_oneway | exact lk_points | exact lk_ties | exact lk_given))
  | (with_reducible apply i_sfld)
  | ((with_reducible apply i_kSFld); (case h => first | assumption | exact upd_same); (case c1 => assumption); (case c2 => assumption); (case e => exact Nat.le_of_ble_eq_true rfl))
  | (with_reducible apply i_methC)
  | (with_reducible apply i_make)
  | (with_reducible apply i_fldaug)
  | (with_reducible apply i_vals)
  | (with_reducible apply i_items)
  | (with_reducible apply i_dget)
  | (with_reducible apply i_dput)
  | (with_reducible apply i_din)
  | (with_reducible apply i_dnotin)
  | (with_reducible apply i_ddel)
  | (with_reducible apply i_dc)
  | (with_reducible apply i_enum))
/-! ### places of the knots in their order: plain -/
def plK : Nat → List (List Str) → List (Str × Nat)
  | _, [] => []
  | i, k :: r => k.map (fun x => (x, i)) ++ plK (i + 1) r
theorem plK_app : ∀ (i : Nat) (xss : List (List Str)) (k : List Str), plK i (xss ++ [k]) = plK i xss ++ k.map (fun x => (x, i + xss.length))
  | i, [], k => by simp [plK]
  | i, a :: r, k => by
    show a.map (fun x => (x, i)) ++ plK (i + 1) (r ++ [k]) = a.map (fun x => (x, i)) ++ plK (i + 1) r ++ k.map (fun x => (x, i + (a :: r).length))
    rw [plK_app (i + 1) r k, List.append_assoc, List.length_cons]
    have : i + 1 + r.length = i + (r.length + 1) := by omega
    rw [this]
theorem plK_keys : ∀ (i : Nat) (xss : List (List Str)), (plK i xss).map (·.1) = xss.flatten
  | _, [] => rfl
  | i, k :: r => by
    show (k.map (fun x => (x, i)) ++ plK (i + 1) r).map (·.1) = (k :: r).flatten
    rw [List.map_append, List.map_map, plK_keys (i + 1) r, List.flatten_cons]
    congr 1
    exact (List.map_congr_left fun x _ => rfl).trans (List.map_id k)
theorem plK_mem {x : Str} {n : Nat} : ∀ (i : Nat) (xss : List (List Str)), (x, n) ∈ plK i xss → ∃ j k, xss[j]? = some k ∧ x ∈ k ∧ n = i + j
  | _, [], h => by cases h
  | i, k :: r, h => by
    rcases List.mem_append.mp (show (x, n) ∈ k.map (fun x => (x, i)) ++ plK (i + 1) r from h) with h | h
    · obtain ⟨y, hy, e⟩ := List.mem_map.mp h
      cases e
      exact ⟨0, k, rfl, hy, rfl⟩
    · obtain ⟨j, k', h1, h2, h3⟩ := plK_mem (i + 1) r h
      exact ⟨j + 1, k', h1, h2, by omega⟩

/-- each point with the place of its knot -/
abbrev placesOf (w : Wb) : List (Str × Nat) := plK 0 (ordE w)
def atOf (w : Wb) (x : Str) : Nat := ((placesOf w).lookup x).getD 0
def kvP (pl : List (Str × Nat)) : List (Key × V) := pl.map fun p => ((Sum.inr p.1 : Key), V.int (p.2 : Nat))
theorem val_kvP (x : Str) : ∀ pl : List (Str × Nat), valV (kvP pl) (Sum.inr x) = (pl.lookup x).map fun n => V.int (n : Nat)
  | [] => rfl
  | (y, n) :: r => by
    have ih := val_kvP x r
    show (((((Sum.inr y : Key), V.int (n : Nat)) :: kvP r).find? fun kv => decide (kv.1 = Sum.inr x)).map (·.2)) = _
    rw [List.find?_cons, List.lookup_cons]
    by_cases c : y = x
    · subst c
      simp
    · have h1 : decide ((Sum.inr y : Key) = Sum.inr x) = false := decide_eq_false fun e => c (Sum.inr.inj e)
      have h2 : (x == y) = false := by simpa using fun e : x = y => c e.symm
      rw [h1, h2]
      exact ih
theorem look_mem {x : Str} {n : Nat} : ∀ {pl : List (Str × Nat)}, pl.lookup x = some n → (x, n) ∈ pl
  | [], h => by cases h
  | (y, m) :: r, h => by
    rw [List.lookup_cons] at h
    by_cases c : (x == y) = true
    · rw [c] at h
      have : x = y := by simpa using c
      cases h
      rw [this]
      exact List.mem_cons_self ..
    · have c : (x == y) = false := by simpa using c
      rw [c] at h
      exact List.mem_cons_of_mem _ (look_mem h)
theorem look_some {x : Str} : ∀ {pl : List (Str × Nat)}, x ∈ pl.map (·.1) → ∃ n, pl.lookup x = some n
  | [], h => by cases h
  | (y, m) :: r, h => by
    rw [List.lookup_cons]
    by_cases c : (x == y) = true
    · rw [c]; exact ⟨m, rfl⟩
    · have c' : (x == y) = false := by simpa using c
      rw [c']
      have ne : x ≠ y := by simpa using c'
      rcases List.mem_cons.mp h with e | h
      · exact absurd e ne
      · exact look_some h
section
variable {w : Wb}
theorem ord_flat (ok : Wok w) {x : Str} : x ∈ (ordE w).flatten ↔ x ∈ w.ps := by
  have O := ord_of ok
  rw [List.mem_flatten]
  constructor
  · rintro ⟨k, hk, hx⟩
    exact (flat_mem ok).mp (List.mem_flatten.mpr ⟨k, O.sub k hk, hx⟩)
  · intro hx
    obtain ⟨i, k, hi, hxk⟩ := O.at_ x hx
    exact ⟨k, List.mem_of_getElem? hi, hxk⟩
theorem at_look (ok : Wok w) {x : Str} (hx : x ∈ w.ps) : (placesOf w).lookup x = some (atOf w x) := by
  have : x ∈ (placesOf w).map (·.1) := by
    rw [plK_keys]
    exact (ord_flat ok).mpr hx
  obtain ⟨n, hn⟩ := look_some this
  unfold atOf
  rw [hn]
  rfl
theorem at_val (ok : Wok w) {x : Str} (hx : x ∈ w.ps) : valV (kvP (placesOf w)) (Sum.inr x) = some (.int (atOf w x : Nat)) := by
  rw [val_kvP, at_look ok hx]
  rfl
theorem at_spec (ok : Wok w) {x : Str} (hx : x ∈ w.ps) : ∃ k, (ordE w)[atOf w x]? = some k ∧ x ∈ k := by
  obtain ⟨j, k, h1, h2, h3⟩ := plK_mem 0 _ (look_mem (at_look ok hx))
  rw [h3, Nat.zero_add]
  exact ⟨k, h1, h2⟩
theorem at_iff (ok : Wok w) {x y : Str} (hx : x ∈ w.ps) (hy : y ∈ w.ps) : atOf w x = atOf w y ↔ Rch (freeS w.ts) x y ∧ Rch (freeS w.ts) y x := by
  have O := ord_of ok
  obtain ⟨k, h1, h2⟩ := at_spec ok hx
  obtain ⟨k', g1, g2⟩ := at_spec ok hy
  constructor
  · intro e
    rw [e, g1] at h1
    cases h1
    obtain ⟨z, hz, rfl, _⟩ := knots_mem ok (O.sub _ (List.mem_of_getElem? g1))
    obtain ⟨a1, a2⟩ := (knot_iff ok hz).mp h2
    obtain ⟨b1, b2⟩ := (knot_iff ok hz).mp g2
    exact ⟨rch_trans a2 b1, rch_trans b2 a1⟩
  · rintro ⟨r1, r2⟩
    have : y ∈ k := knot_same ok (O.sub _ (List.mem_of_getElem? h1)) h2 r2 r1
    exact O.one _ _ _ _ y h1 g1 this g2
theorem at_le (ok : Wok w) {x y : Str} (hx : x ∈ w.ps) (r : Rch (freeS w.ts) x y) : atOf w x ≤ atOf w y := by
  have O := ord_of ok
  induction r with
  | here => exact Nat.le_refl _
  | @step a b n h s ih =>
    refine Nat.le_trans ih ?_
    have ha := rch_inF ok hx h
    have hb := free_in ok _ ha _ s
    obtain ⟨k, h1, h2⟩ := at_spec ok ha
    obtain ⟨k', g1, g2⟩ := at_spec ok hb
    obtain ⟨t, hm, ⟨e1, e2⟩ | ⟨ho, e1, e2⟩⟩ := free_mem.mp s
    · exact O.fwd _ _ _ _ _ t h1 g1 hm (by rw [e1]; exact h2) (by rw [e2]; exact g2)
    · exact Nat.le_of_eq (O.two _ _ _ _ _ t g1 h1 hm ho (by rw [e2]; exact g2) (by rw [e1]; exact h2)).symm
theorem start_iff (ok : Wok w) {x : Str} (hx : x ∈ w.ps) : x ∈ startsOf w ↔ ledInto w.ts (knotOf w x) w.ps = false ∧ (knotOf w x).head? = some x := by
  rw [starts_eq ok, List.mem_filter, ← start_one ok hx, Bool.and_eq_true]
  simp [hx]
theorem start_in (ok : Wok w) {x : Str} (hx : x ∈ startsOf w) : x ∈ w.ps := by
  rw [starts_eq ok] at hx
  exact (List.mem_filter.mp hx).1
theorem start_there (ok : Wok w) : ∀ (n : Nat) (y : Str), y ∈ w.ps → comers w y ≤ n → ∃ s ∈ startsOf w, Rch (freeS w.ts) s y := by
  intro n
  induction n with
  | zero =>
    intro y hy h
    have hp : 0 < comers w y := by
      unfold comers
      exact List.length_pos_of_mem (List.mem_filter.mpr ⟨hy, decide_eq_true ((rc_iff ok hy).mpr .here)⟩)
    omega
  | succ n ih =>
    intro y hy h
    cases hl : ledInto w.ts (knotOf w y) w.ps with
    | false =>
      have hs := knot_self ok hy
      have hk := knot_there ok hy
      obtain ⟨z, hz, e, hh⟩ := knots_mem ok hk
      have hzk : z ∈ knotOf w y := by
        rw [e]
        exact knot_self ok hz
      exact ⟨z, List.mem_map.mpr ⟨knotOf w y, List.mem_filter.mpr ⟨hk, by rw [hl]; rfl⟩, hd0_of hh⟩, ((knot_iff ok hy).mp hzk).2⟩
    | true =>
      obtain ⟨z, hz, hzk, v, hv, r⟩ := (led_all ok hy).mp hl
      obtain ⟨v1, v2⟩ := (knot_iff ok hy).mp hv
      have zy : Rch (freeS w.ts) z y := rch_trans r v2
      have lt : comers w z < comers w y := by
        unfold comers
        refine filter_lt (a := y) (fun u hu q => ?_) hy (decide_eq_true ((rc_iff ok hy).mpr .here)) (decide_eq_false fun q => ?_)
        · exact decide_eq_true ((rc_iff ok hu).mpr (rch_trans ((rc_iff ok hu).mp (of_decide_eq_true q)) zy))
        · exact hzk ((knot_iff ok hy).mpr ⟨(rc_iff ok hy).mp q, zy⟩)
      obtain ⟨s, hs, r2⟩ := ih z hz (by omega)
      exact ⟨s, hs, rch_trans r2 zy⟩
/-- where two points stand to each other -/
def lds (w : Wb) (x y : Str) : Bool := decide (y ∈ rc w.ts x)
theorem lds_iff (ok : Wok w) {x y : Str} (hx : x ∈ w.ps) : lds w x y = true ↔ Rch (freeS w.ts) x y := by
  unfold lds
  rw [decide_eq_true_eq, rc_iff ok hx]
theorem pair_both (ok : Wok w) {x y : Str} (hx : x ∈ w.ps) (hy : y ∈ w.ps) : (lds w x y && lds w y x) = decide ((atOf w x : Int) = (atOf w y : Int)) := by
  rw [Bool.eq_iff_iff, Bool.and_eq_true, lds_iff ok hx, lds_iff ok hy, decide_eq_true_eq, ← at_iff ok hx hy]
  omega
theorem pair_le (ok : Wok w) {x y : Str} (hx : x ∈ w.ps) (h : lds w x y = true) : ¬ (atOf w x : Int) > (atOf w y : Int) := by
  have := at_le ok hx ((lds_iff ok hx).mp h)
  omega
/-- the points behind none but itself -/
def behind (w : Wb) (x : Str) : List Str := w.ps.filter fun z => !decide ((atOf w z : Int) = (atOf w x : Int)) && lds w z x
def beside (w : Wb) (x : Str) : List Str := w.ps.filter fun z => decide ((atOf w z : Int) = (atOf w x : Int))
theorem beside_eq (ok : Wok w) {x : Str} (hx : x ∈ w.ps) : beside w x = knotOf w x := by
  unfold beside knotOf
  apply List.filter_congr
  intro z hz
  rw [← pair_both ok hz hx]
  unfold lds
  rw [Bool.and_comm]
theorem behind_iff (ok : Wok w) {x : Str} (hx : x ∈ w.ps) : behind w x = [] ↔ ledInto w.ts (knotOf w x) w.ps = false := by
  constructor
  · intro e
    cases hl : ledInto w.ts (knotOf w x) w.ps with
    | false => rfl
    | true =>
      obtain ⟨z, hz, hzk, v, hv, r⟩ := (led_all ok hx).mp hl
      have zx : Rch (freeS w.ts) z x := rch_trans r ((knot_iff ok hx).mp hv).2
      have : z ∈ behind w x := List.mem_filter.mpr ⟨hz, by
        rw [(lds_iff ok hz).mpr zx, Bool.and_true]
        rw [decide_eq_false fun e => hzk ((knot_iff ok hx).mpr ⟨((at_iff ok hz hx).mp (by omega)).2, zx⟩)]
        rfl⟩
      rw [e] at this
      cases this
  · intro hl
    refine List.filter_eq_nil_iff.mpr fun z hz h => ?_
    rw [Bool.and_eq_true] at h
    have r := (lds_iff ok hz).mp h.2
    have ne : ¬ atOf w z = atOf w x := fun e => by
      have := h.1
      rw [e] at this
      simp at this
    have : ledInto w.ts (knotOf w x) w.ps = true := (led_all ok hx).mpr ⟨z, hz, fun m => ne ((at_iff ok hz hx).mpr ⟨r, ((knot_iff ok hx).mp m).1⟩), x, knot_self ok hx, r⟩
    rw [hl] at this
    cases this
theorem start_told (ok : Wok w) {x : Str} (hx : x ∈ w.ps) : decide (x ∈ startsOf w) = (decide (behind w x = []) && decide ((beside w x).head? = some x)) := by
  rw [beside_eq ok hx, ← Bool.decide_and]
  refine decide_eq_decide.mpr ?_
  rw [start_iff ok hx, behind_iff ok hx]
theorem far_whole (ok : Wok w) {x y : Str} (hx : x ∈ w.ps) (hy : y ∈ w.ps) : (atOf w y : Int) ∈ (farOf w x).map (fun z => ((atOf w z : Nat) : Int)) ↔ y ∈ farOf w x := by
  constructor
  · intro h
    obtain ⟨z, hz, e⟩ := List.mem_map.mp h
    obtain ⟨z1, z2⟩ := far_mem.mp hz
    have := (at_iff ok z1 hy).mp (by omega)
    exact far_mem.mpr ⟨hy, (rc_iff ok hx).mpr (rch_trans ((rc_iff ok hx).mp z2) this.1)⟩
  · intro h
    exact List.mem_map.mpr ⟨y, h, rfl⟩
theorem far_tie (ok : Wok w) {x : Str} (hx : x ∈ w.ps) {n : Int} {t : Ti} (hm : (n, t) ∈ w.ts) (h : t.t ∈ farOf w x) : t.h ∈ farOf w x := by
  obtain ⟨h1, h2⟩ := far_mem.mp h
  have r : Rch (freeS w.ts) x t.h := .step ((rc_iff ok hx).mp h2) (free_mem.mpr ⟨t, hm, .inl ⟨rfl, rfl⟩⟩)
  exact far_mem.mpr ⟨rch_inF ok hx r, (rc_iff ok hx).mpr r⟩
theorem far_back (ok : Wok w) {x : Str} (hx : x ∈ w.ps) {n : Int} {t : Ti} (hm : (n, t) ∈ w.ts) (ho : t.o = false) (h : t.h ∈ farOf w x) : t.t ∈ farOf w x := by
  obtain ⟨h1, h2⟩ := far_mem.mp h
  have r : Rch (freeS w.ts) x t.t := .step ((rc_iff ok hx).mp h2) (free_mem.mpr ⟨t, hm, .inr ⟨ho, rfl, rfl⟩⟩)
  exact far_mem.mpr ⟨rch_inF ok hx r, (rc_iff ok hx).mpr r⟩
theorem rch_more {S S' : Steps} (h : ∀ a s, s ∈ S a → s ∈ S' a) {x y : Str} (r : Rch S x y) : Rch S' x y := by
  induction r with
  | here => exact .here
  | step _ s ih => exact .step ih (h _ _ s)
theorem tie_more {u : Ti} {x y : Str} (r : Rch (freeS w.ts) x y) : Rch (freeS (w.tie u).ts) x y := rch_more (fun a s h => by
  obtain ⟨n, z⟩ := s
  obtain ⟨t, hm, e⟩ := free_mem.mp h
  exact free_mem.mpr ⟨t, List.mem_append_left _ hm, e⟩) r
theorem tie_new {u : Ti} : Rch (freeS (w.tie u).ts) u.t u.h := .step .here (free_mem.mpr ⟨u, List.mem_append_right _ (List.mem_singleton.mpr rfl), .inl ⟨rfl, rfl⟩⟩)
end
end K18

set_option Elab.async false
set_option linter.all false
set_option maxRecDepth 100000
set_option maxHeartbeats 4000000
namespace K18
open PySem PySem.Spec PyProof.Rows L2 HX WB
local macro_rules | `(tactic| walk_at "side") => `(tactic| first
  | assumption
  | rfl
  | (show (0 : Int) < _; omega)
  | (unfold CDiv; omega)
  | (unfold CMul; omega)
  | (unfold CPow; omega)
  | (rw [sizeLine_eq]; omega)
  | omega)
local macro_rules | `(tactic| walk_at "e") => `(tactic| first
  | ((with_reducible apply i_var); exact rfl)
  | (with_reducible apply i_c)
  | (with_reducible apply i_op)
  | (with_reducible apply i_un)
  | (with_reducible apply i_rI0)
  | ((with_reducible apply i_rI); (case c => walk_at "side"))
  | (with_reducible apply i_rGe)
  | (with_reducible apply i_rGt)
  | (with_reducible apply i_rU)
  | (with_reducible apply i_rEqI)
  | (with_reducible apply i_rNeI)
  | (with_reducible apply i_rEqS)
  | (with_reducible apply i_rNeS)
  | (with_reducible apply i_rEqB)
  | (with_reducible apply i_rNeB)
  | (with_reducible apply i_rIsN)
  | (with_reducible apply i_rNotN)
  | (with_reducible apply i_rInS)
  | (with_reducible apply i_rNotInS)
  | ((with_reducible apply i_catS); (case c => walk_at "side"))
  | (with_reducible apply i_tcb)
  | (with_reducible apply i_nil)
  | (with_reducible apply i_cons)
  | ((with_reducible apply i_lenS); (case c => walk_at "side"))
  | ((with_reducible apply i_lenL); assumption)
  | (with_reducible apply i_abs)
  | (with_reducible apply i_max2)
  | (with_reducible apply i_min2)
  | ((with_reducible apply i_strI); (case c => walk_at "side"))
  | (with_reducible apply i_intB)
  | (with_reducible apply i_test)
  | (with_reducible apply i_tB)
  | (with_reducible apply i_kB)
  | (with_reducible apply i_and)
  | (with_reducible apply i_or)
  | (with_reducible apply i_not)
  | (with_reducible apply i_if)
  | (with_reducible apply i_andV)
  | (with_reducible apply i_orV)
  | (with_reducible apply i_notV)
  | (with_reducible apply i_kAndV)
  | (with_reducible apply i_kOrV)
  | (with_reducible apply i_kNotV)
  | (with_reducible apply i_chain)
  | (with_reducible apply i_kChain)
  | (with_reducible apply i_drop)
  | (with_reducible apply i_ret)
  | (with_reducible apply i_retN)
  | (with_reducible apply i_ifS)
  | (with_reducible apply i_asg)
  | (with_reducible apply i_gName)
  | (with_reducible apply i_for)
  | (with_reducible apply i_lc)
  | (with_reducible apply i_iList)
  | (with_reducible apply i_iTup)
  | (with_reducible apply i_iStr)
  | (with_reducible apply i_kStrI)
  | (with_reducible apply i_lst)
  | (with_reducible apply i_tup)
  | (with_reducible apply i_call)
  | (with_reducible apply i_m1)
  | (with_reducible apply i_kStr)
  | (with_reducible apply i_bm)
  | (with_reducible apply i_bm0)
  | (with_reducible apply i_part)
  | (with_reducible apply i_kInt)
  | (with_reducible apply i_noPart)
  | (with_reducible apply i_sl)
  | (with_reducible apply i_range1)
  | (with_reducible apply i_range2)
  | ((with_reducible apply i_kRng1); (case c => walk_at "side"))
  | ((with_reducible apply i_kRng2); (case c => walk_at "side"))
  | (with_reducible apply i_gCons)
  | (with_reducible apply i_gNil)
  | (with_reducible apply i_gSub)
  | (with_reducible apply i_iZip)
  | (with_reducible apply i_yes)
  | (with_reducible apply i_ift)
  | (with_reducible apply i_iff)
  | (with_reducible apply i_nb))
local macro_rules | `(tactic| walk_at "go") => `(tactic| repeat (first | (with_reducible apply i_seq) | (with_reducible apply i_next) | walk_at "e"))
local macro_rules | `(tactic| walk_at "ge") => `(tactic| repeat walk_at "e")
local macro_rules | `(tactic| walk_at "sz") => `(tactic| first | decide | (rw [sizeLine_eq]; simp; done) | (rw [sizeLine_eq]; omega))
local macro_rules | `(tactic| walk_at "side") => `(tactic| (with_reducible exact WB.most_pos))
local macro_rules | `(tactic| walk_at "e") => `(tactic| first
  | ((with_reducible apply i_isT (b := true)); exact rfl)
  | ((with_reducible apply i_isT (b := false)); exact rfl)
  | (with_reducible apply i_fld)
  | ((with_reducible apply i_kFld); (case h => assumption); (case c1 => assumption); (case c2 => assumption); (case e => first | exact lk_number | exact lk_tail | exact lk_head | exact lk_load | exact lk_oneway | exact lk_points | exact lk_ties | exact lk_given))
  | (with_reducible apply i_sfld)
  | ((with_reducible apply i_kSFld); (case h => first | assumption | exact upd_same); (case c1 => assumption); (case c2 => assumption); (case e => exact Nat.le_of_ble_eq_true rfl))
  | (with_reducible apply i_methC)
  | (with_reducible apply i_make)
  | (with_reducible apply i_fldaug)
  | (with_reducible apply i_vals)
  | (with_reducible apply i_items)
  | (with_reducible apply i_dget)
  | (with_reducible apply i_dput)
  | (with_reducible apply i_din)
  | (with_reducible apply i_dnotin)
  | (with_reducible apply i_ddel)
  | (with_reducible apply i_dc)
  | (with_reducible apply i_enum))
theorem i_isTo {K : PySem.W.Frag} {H : Hp} {a dx : Addr} {fs : List (Str × V)} {Q : VK} {x y : Str} {b : Bool} (h1 : isA K x = true) (h2 : PySem.W.specialIn K (.builtin "object.__class__") "__get__" = some (some (.builtin "getset_descriptor.__get__")))
    (h3 : PySem.W.takesIn K (.builtin "object.__class__") = some true) (h4 : isTo K x y b = true) (c : Cls K (He.ga K x)) (h : H a = some (.ins (He.ga K x) dx fs)) (q : Q (.bl b) H) : rIsi K [.ref a, .ref (He.ga K y)] H Q := by
  unfold isA at h1
  simp only [Bool.and_eq_true, decide_eq_true_eq] at h1
  exact ⟨_, _, _, _, _, rfl, .own _, .base (.ins h c h1.1 h2 h3 h1.2), of_decide_eq_true h4, q⟩
section
variable {K : PySem.W.Frag} {H : Hp} {a dx : Addr} {fs : List (Str × V)} {Q : VK}
theorem xk_of (xk : extra K = true) : ((isA K "Way" = true ∧ isA K "Border" = true ∧ isA K "Ring" = true) ∧ (PySem.W.specialIn K (.builtin "object.__class__") "__get__" = some (some (.builtin "getset_descriptor.__get__")) ∧
    PySem.W.takesIn K (.builtin "object.__class__") = some true)) ∧ (isTo K "Way" "Border" false = true ∧ isTo K "Border" "Border" true = true ∧ isTo K "Ring" "Ring" true = true ∧ isTo K "Border" "Ring" false = true ∧ isTo K "Way" "Way" true = true ∧ isTo K "Border" "Way" false = true) := by
  unfold extra at xk
  simpa only [Bool.and_eq_true, decide_eq_true_eq] using xk
theorem i_wayBor (xk : extra K = true) (c : Cls K (He.ga K "Way")) (h : H a = some (.ins (He.ga K "Way") dx fs)) (q : Q (.bl false) H) : rIsi K [.ref a, .ref (He.ga K "Border")] H Q :=
  have x := xk_of xk; i_isTo x.1.1.1 x.1.2.1 x.1.2.2 x.2.1 c h q
theorem i_borBor (xk : extra K = true) (c : Cls K (He.ga K "Border")) (h : H a = some (.ins (He.ga K "Border") dx fs)) (q : Q (.bl true) H) : rIsi K [.ref a, .ref (He.ga K "Border")] H Q :=
  have x := xk_of xk; i_isTo x.1.1.2.1 x.1.2.1 x.1.2.2 x.2.2.1 c h q
theorem i_ringRing (xk : extra K = true) (c : Cls K (He.ga K "Ring")) (h : H a = some (.ins (He.ga K "Ring") dx fs)) (q : Q (.bl true) H) : rIsi K [.ref a, .ref (He.ga K "Ring")] H Q :=
  have x := xk_of xk; i_isTo x.1.1.2.2 x.1.2.1 x.1.2.2 x.2.2.2.1 c h q
theorem i_borRing (xk : extra K = true) (c : Cls K (He.ga K "Border")) (h : H a = some (.ins (He.ga K "Border") dx fs)) (q : Q (.bl false) H) : rIsi K [.ref a, .ref (He.ga K "Ring")] H Q :=
  have x := xk_of xk; i_isTo x.1.1.2.1 x.1.2.1 x.1.2.2 x.2.2.2.2.1 c h q
theorem i_wayWay (xk : extra K = true) (c : Cls K (He.ga K "Way")) (h : H a = some (.ins (He.ga K "Way") dx fs)) (q : Q (.bl true) H) : rIsi K [.ref a, .ref (He.ga K "Way")] H Q :=
  have x := xk_of xk; i_isTo x.1.1.1 x.1.2.1 x.1.2.2 x.2.2.2.2.2.1 c h q
theorem i_borWay (xk : extra K = true) (c : Cls K (He.ga K "Border")) (h : H a = some (.ins (He.ga K "Border") dx fs)) (q : Q (.bl false) H) : rIsi K [.ref a, .ref (He.ga K "Way")] H Q :=
  have x := xk_of xk; i_isTo x.1.1.2.1 x.1.2.1 x.1.2.2 x.2.2.2.2.2.2 c h q
end
section
variable {P : Program} {w : World} {K : PySem.W.Frag} {mg : Str → Option Value} {base : Heap}
structure RingAt (K : PySem.W.Frag) (H : Hp) (r nl : Addr) (ns : List Int) : Prop where
  self : ∃ dx, H r = some (.ins (He.ga K "Ring") dx [("numbers", .ref nl)])
  lst : H nl = some (.lst (ns.map V.int))
def sp_Ring (K : PySem.W.Frag) : Sp := fun vs H Q _ => ∃ (x dx a : Addr) (ns : List Int), vs = [.ref x, .ref a] ∧ H x = some (.ins (He.ga K "Ring") dx []) ∧ H a = some (.lst (ns.map V.int)) ∧
  ∀ nl, H nl = none → Q .non (upd (upd H nl (.lst (ns.map V.int))) x (.ins (He.ga K "Ring") dx [("numbers", .ref nl)]))
theorem ok_Ring_init (T : Tx K mg) : FnOk P w K mg base CX0 1 (He.ma K (He.ga K "Ring") "__init__") T.fd_Ring_init ["self", "numbers"] (sp_Ring K) := by
  refine T.F_Ring_init.ok sc_Ring_init (fun vs H Q E h => ?_) (fun cdv A outer s H vs Q E hr h => ?_)
  · obtain ⟨_, _, _, _, rfl, _⟩ := h
    rfl
  · obtain ⟨x, dx, a, ns, rfl, hx, ha, q⟩ := h
    refine ⟨_, PSs.nox (pss_one (ps_fld (pv 0) (pe_callTy x_list (by rfl) T.b_list (by decide +kernel) (pa_cons (pv 1) pa_nil)) rfl)), ?_⟩
    have c1 := T.cl_Ring
    have c2 := T.na_Ring_numbers
    walk_at "go"
    refine ⟨a, _, rfl, .inl (SqL.of ha), fun nl hnl => ?_⟩
    have hx1 := (upd_ne (ne_of_none hx hnl) (o := .lst (ns.map V.int))).trans hx
    walk_at "go"
    exact q nl hnl
def sp_need_points (K : PySem.W.Frag) : Sp := fun vs H Q _ => ∃ p l d w a ys, vs = [.ref p, .ref a] ∧ WebAt K H p l d w ∧ Wok w ∧ H a = some (.lst ((ys : List Str).map V.str)) ∧ (∀ y ∈ ys, y ∈ w.ps) ∧ ys.Nodup ∧ ys.length ≤ 16 ∧ ∀ H', Same H H' → Q .non H'
theorem ok_need_points (T : Tx K mg) : FnOk P w K mg base CX0 4 (He.ga K "need_points") T.fd_need_points ["web", "names"] (sp_need_points K) := by
  refine T.F_need_points.ok sc_need_points (fun vs H Q E h => ?_) (fun cdv A outer s H vs Q E hr h => ?_)
  · obtain ⟨_, _, _, _, _, _, rfl, _⟩ := h
    rfl
  · obtain ⟨p, l, d, w, a, ys, rfl, hw, ok, ha, hy, nd, l16, q⟩ := h
    refine ⟨_, PSs.nox (pss_cons (ps_expr (pe_call (ok_need_all T) (hr.mono (by decide)) (by rfl) T.g_need_all T.F_need_all.kp T.k_need_all .nil pass0 (pa_cons (pv 0) (pa_cons (pv 1) pa_nil))))
      (pss_one (ps_if (pt_cmpR op_lt (pe_lenSetT (by rfl) T.b_len (by rfl) T.b_set (pv 1)) (pe_callB x_lenL (by rfl) T.b_len (by decide +kernel) (pa_cons (pv 1) pa_nil)) (nomark _)) (pss_one ps_never) pss_nil))), ?_⟩
    walk_at "go"
    refine ⟨p, l, d, w, a, ys, rfl, hw, ok, ha, hy, fun H1 s1 => ?_⟩
    have ha1 := s1 _ _ ha
    walk_at "go"
    refine i_lenSetC ?_
    walk_at "go"
    refine ⟨a, ys, rfl, SqL.of ha1, nd, by omega, ?_⟩
    walk_at "go"
    refine i_lenL (SqL.of ha1) ?_
    walk_at "go"
    rw [List.length_map]
    refine i_dec (fun e => absurd e (Int.lt_irrefl _)) (fun _ => ?_)
    walk_at "go"
    exact q H1 s1
/-- the way, by a came -/
def wayOf (cm : Came) (y : Str) : List Int := (back cm 17 y).reverse
def ringBy (K : PySem.W.Frag) (H : Hp) (Q : VK) (ps : List Str) (cx cy : Came) (x y : Str) : Prop :=
  (y ∉ keysC cx → ∀ r nl H', Same H H' → H r = none → H nl = none → BorAt K H' r nl (namesIn ps cx) → Q (.ref r) H') ∧
  (y ∈ keysC cx → x ∉ keysC cy → ∀ r nl H', Same H H' → H r = none → H nl = none → BorAt K H' r nl (namesIn ps cy) → Q (.ref r) H') ∧
  (y ∈ keysC cx → x ∈ keysC cy → ∀ r nl H', Same H H' → H r = none → H nl = none → RingAt K H' r nl (wayOf cx y ++ wayOf cy x) → Q (.ref r) H')
theorem way_len {w : Wb} (ok : Wok w) {x y : Str} (hx : x ∈ w.ps) (hk : y ∈ keysC (came (freeS w.ts) x)) : (wayOf (came (freeS w.ts) x) y).length ≤ 16 := by
  have ce := came_end ok.le hx (free_in ok)
  have kl := nodup_len ce.nd (ce.toCmOk.keys_in hx (free_in ok))
  rw [keysC_len] at kl
  have l16 := ok.le
  obtain ⟨i, hi⟩ := List.mem_iff_getElem?.mp hk
  have hil := (List.getElem?_eq_some_iff.mp hi).1
  rw [keysC_len] at hil
  have := (ce.toCmOk.back i y 17 hi (by omega)).1
  unfold wayOf
  rw [List.length_reverse]
  omega
def sp_ring_through (K : PySem.W.Frag) : Sp := fun vs H Q _ => ∃ p l d w x y, vs = [.ref p, .str x, .str y] ∧ WebAt K H p l d w ∧ Wok w ∧ x ∈ w.ps ∧ y ∈ w.ps ∧ x ≠ y ∧ ringBy K H Q w.ps (came (freeS w.ts) x) (came (freeS w.ts) y) x y
theorem ok_ring_through (T : Tx K mg) (xk : extra K = true) : FnOk P w K mg base CX0 6 (He.ga K "ring_through") T.fd_ring_through ["web", "one", "other"] (sp_ring_through K) := by
  refine T.F_ring_through.ok sc_ring_through (fun vs H Q E h => ?_) (fun cdv A outer s H vs Q E hr h => ?_)
  · obtain ⟨_, _, _, _, _, _, rfl, _⟩ := h
    rfl
  · obtain ⟨p, l, d, w, x, y, rfl, hw, ok, hx, hy, hne, q1, q2, q3⟩ := h
    refine ⟨_, PSs.nox (pss_cons (ps_expr (pe_call (ok_need_points T) (hr.mono (by decide)) (by rfl) T.g_need_points T.F_need_points.kp T.k_need_points .nil pass0 (pa_cons (pv 0) (pa_cons (pe_lst (pa_cons (pv 1) (pa_cons (pv 2) pa_nil))) pa_nil))))
      (pss_cons (ps_set (i := 3) sc_ring_through.nd rfl (Or.inl rfl) (pe_call (ok_comes T) (hr.mono (by decide)) (by rfl) T.g_comes T.F_comes.kp T.k_comes .nil pass0 (pa_cons (pv 0) (pa_cons (pv 1) (pa_cons (pv 2) pa_nil)))))
      (pss_cons (ps_if (pt_val (pe_callB call_isi (by rfl) T.b_isinstance (by decide +kernel) (pa_cons (pv 3) (pa_cons (pe_glob (v := .ref (He.ga K "Border")) rfl T.g_Border rfl) pa_nil)))) (pss_one (ps_ret (pv 3))) pss_nil)
      (pss_cons (ps_set (i := 4) sc_ring_through.nd rfl (Or.inl rfl) (pe_call (ok_comes T) (hr.mono (by decide)) (by rfl) T.g_comes T.F_comes.kp T.k_comes .nil pass0 (pa_cons (pv 0) (pa_cons (pv 2) (pa_cons (pv 1) pa_nil)))))
      (pss_cons (ps_if (pt_val (pe_callB call_isi (by rfl) T.b_isinstance (by decide +kernel) (pa_cons (pv 4) (pa_cons (pe_glob (v := .ref (He.ga K "Border")) rfl T.g_Border rfl) pa_nil)))) (pss_one (ps_ret (pv 4))) pss_nil)
      (pss_one (ps_ret (pe_make T.mk_Ring (ok_Ring_init T) (hr.mono (by decide)) (by rfl) T.g_Ring T.k_Ring_init .nil pass0 (pa_cons (pe_op op_cat (pe_fld (pv 3) rfl) (pe_fld (pv 4) rfl)) pa_nil))))))))), ?_⟩
    have cw := T.cl_Way
    have cb := T.cl_Border
    have nw := T.na_Way_numbers
    have lw1 := way_len ok hx (y := y)
    have lw2 := way_len ok hy (y := x)
    walk_at "go"
    refine ⟨by walk_at "sz", fun a ha => ?_⟩
    have s1 : Same H (upd H a (.lst [.str x, .str y])) := Same.new ha
    have ea : (upd H a (.lst [.str x, .str y])) a = some (.lst (([x, y] : List Str).map V.str)) := upd_same
    generalize upd H a (.lst [.str x, .str y]) = H1 at s1 ea ⊢
    walk_at "go"
    refine ⟨p, l, d, w, a, [x, y], rfl, hw.same s1, ok, ea, fun z hz => ?_, by simp [hne], by show 2 ≤ 16; decide, fun H2 s2 => ?_⟩
    · rcases List.mem_cons.mp hz with rfl | hz
      · exact hx
      · rw [List.mem_singleton.mp hz]; exact hy
    have s12 := s1.trans s2
    walk_at "go"
    refine ⟨p, l, d, w, x, y, rfl, hw.same s12, ok, hx, hy, fun hk r nl H3 s3 hr0 hnl wa => ?_, fun hk r nl H3 s3 hr0 hnl wa => ?_⟩
    · obtain ⟨dx3, er3⟩ := wa.self
      have s13 := s12.trans s3
      walk_at "go"
      refine i_wayBor xk cw er3 ?_
      walk_at "go"
      refine ⟨p, l, d, w, y, x, rfl, hw.same s13, ok, hy, hx, fun hk2 r2 nl2 H4 s4 hr2 hnl2 wa2 => ?_, fun hk2 r2 nl2 H4 s4 hr2 hnl2 wa2 => ?_⟩
      · obtain ⟨dx4, er4⟩ := wa2.self
        have er5 := s4 _ _ er3
        have enl5 := s4 _ _ wa.lst
        have enl4 := wa2.lst
        have lw1 := lw1 hk
        have lw2 := lw2 hk2
        change H4 nl = some (.lst ((wayOf (came (freeS w.ts) x) y).map V.int)) at enl5
        change H4 nl2 = some (.lst ((wayOf (came (freeS w.ts) y) x).map V.int)) at enl4
        walk_at "go"
        refine i_wayBor xk cw er4 ?_
        walk_at "go"
        refine i_kFld er5 cw nw rfl ?_
        walk_at "go"
        refine i_kFld er4 cw nw rfl ?_
        refine i_cat enl5 enl4 (by rw [List.length_map, List.length_map, sizeLine_eq]; omega) fun c hc => ?_
        rw [← List.map_append]
        have s5 : Same H4 (upd H4 c (.lst ((wayOf (came (freeS w.ts) x) y ++ wayOf (came (freeS w.ts) y) x).map V.int))) := Same.new hc
        have ec : (upd H4 c (.lst ((wayOf (came (freeS w.ts) x) y ++ wayOf (came (freeS w.ts) y) x).map V.int))) c = some (.lst ((wayOf (came (freeS w.ts) x) y ++ wayOf (came (freeS w.ts) y) x).map V.int)) := upd_same
        generalize upd H4 c (.lst ((wayOf (came (freeS w.ts) x) y ++ wayOf (came (freeS w.ts) y) x).map V.int)) = H5 at s5 ec ⊢
        have s15 := (s13.trans s4).trans s5
        walk_at "go"
        intro z dx hz hdx hne2
        refine ⟨z, dx, c, _, rfl, upd_same, (upd_ne (ne_of_none ec hz)).trans ((upd_ne (ne_of_none ec hdx)).trans ec), fun m hm => ?_⟩
        have s6 : Same H5 (upd (upd H5 dx (.own z)) z (.ins (He.ga K "Ring") dx [])) := Same.mut (Same.new hdx) hz
        have fm := s6.free hm
        refine ⟨rfl, q3 hk hk2 z m _ ?_ (s15.free hz) (s15.free fm) ⟨⟨dx, upd_same⟩, ?_⟩⟩
        · exact s15.trans (Same.mut (Same.mut s6 fm) hz)
        · have nx : m ≠ z := fun e => by rw [e, upd_same] at hm; cases hm
          exact (upd_ne nx).trans upd_same
      · obtain ⟨dx4, er4⟩ := wa2.self
        walk_at "go"
        refine i_borBor xk cb er4 ?_
        walk_at "go"
        exact q2 hk hk2 r2 nl2 H4 (s13.trans s4) (s13.free hr2) (s13.free hnl2) wa2
    · obtain ⟨dx3, er3⟩ := wa.self
      walk_at "go"
      refine i_borBor xk cb er3 ?_
      walk_at "go"
      exact q1 hk r nl H3 (s12.trans s3) (s12.free hr0) (s12.free hnl) wa
def sp_copied (K : PySem.W.Frag) : Sp := fun vs H Q _ => ∃ p l d w, vs = [.ref p] ∧ WebAt K H p l d w ∧ ∀ H' p' l' d', Same H H' → WebAt K H' p' l' d' w → H p' = none → H l' = none → H d' = none → Q (.ref p') H'
theorem ok_Web_copied (T : Tx K mg) : FnOk P w K mg base CX0 3 (He.ma K (He.ga K "Web") "copied") T.fd_Web_copied ["self"] (sp_copied K) := by
  refine T.F_Web_copied.ok sc_Web_copied (fun vs H Q E h => ?_) (fun cdv A outer s H vs Q E hr h => ?_)
  · obtain ⟨_, _, _, _, rfl, _⟩ := h
    rfl
  · obtain ⟨p, l, d, w, rfl, hw, q⟩ := h
    have hu := hu_of hr
    refine ⟨_, PSs.nox (pss_cons (ps_set (i := 1) sc_Web_copied.nd rfl (Or.inl rfl) (pe_make0 T.mk_Web (ok_Web_init T) (hr.mono (by decide)) (by rfl) T.g_Web T.k_Web_init .nil pass0))
      (pss_cons (ps_fld (pv 1) (pe_callTy x_list (by rfl) T.b_list (by decide +kernel) (pa_cons (pe_fld (pv 0) rfl) pa_nil)) rfl)
      (pss_cons (ps_fld (pv 1) (pe_callTy x_dict (by rfl) T.b_dict (by decide +kernel) (pa_cons (pe_fld (pv 0) rfl) pa_nil)) rfl)
      (pss_cons (ps_fld (pv 1) (pe_fld (pv 0) rfl) rfl)
      (pss_one (ps_ret (pv 1))))))), ?_⟩
    have c1 := T.cl_Web
    have c2 := T.na_Web_points
    have c3 := T.na_Web_ties
    have c4 := T.na_Web_given
    walk_at "go"
    intro x dx hx hdx hne
    refine ⟨x, dx, rfl, upd_same, fun l0 d0 hl0 hd0 n0 => ⟨rfl, ?_⟩⟩
    have s1 : Same H (upd (upd H dx (.own x)) x (.ins (He.ga K "Web") dx [])) := Same.mut (Same.new hdx) hx
    have s2 : Same H (upd (upd (upd (upd (upd H dx (.own x)) x (.ins (He.ga K "Web") dx [])) l0 (.lst [])) d0 (.dK [])) x (.ins (He.ga K "Web") dx (webFs l0 d0 0))) := Same.mut (Same.mut (Same.mut s1 (s1.free hl0)) (s1.free hd0)) hx
    have ex : (upd (upd (upd (upd (upd H dx (.own x)) x (.ins (He.ga K "Web") dx [])) l0 (.lst [])) d0 (.dK [])) x (.ins (He.ga K "Web") dx (webFs l0 d0 0))) x = some (.ins (He.ga K "Web") dx (webFs l0 d0 0)) := upd_same
    generalize upd (upd (upd (upd (upd H dx (.own x)) x (.ins (He.ga K "Web") dx [])) l0 (.lst [])) d0 (.dK [])) x (.ins (He.ga K "Web") dx (webFs l0 d0 0)) = H1 at s2 ex ⊢
    have hw1 := hw.same s2
    obtain ⟨dx1, ep1⟩ := hw1.self
    walk_at "go"
    refine ⟨l, _, rfl, .inl (SqL.of hw1.pts), fun l1 hl1 => ?_⟩
    have ex2 := (upd_ne (ne_of_none ex hl1) (o := .lst (w.ps.map V.str))).trans ex
    walk_at "go"
    rw [pf_points]
    have s3 : Same H (upd (upd H1 l1 (.lst (w.ps.map V.str))) x (.ins (He.ga K "Web") dx (webFs l1 d0 0))) := Same.mut (Same.mut s2 (s2.free hl1)) hx
    have ex3 : (upd (upd H1 l1 (.lst (w.ps.map V.str))) x (.ins (He.ga K "Web") dx (webFs l1 d0 0))) x = some (.ins (He.ga K "Web") dx (webFs l1 d0 0)) := upd_same
    have el3 : (upd (upd H1 l1 (.lst (w.ps.map V.str))) x (.ins (He.ga K "Web") dx (webFs l1 d0 0))) l1 = some (.lst (w.ps.map V.str)) := (upd_ne (ne_of_none ex hl1).symm).trans upd_same
    have hlf := s2.free hl1
    generalize upd (upd H1 l1 (.lst (w.ps.map V.str))) x (.ins (He.ga K "Web") dx (webFs l1 d0 0)) = H2 at s3 ex3 el3 ⊢
    have hw2 := hw.same s3
    obtain ⟨dx2, ep2⟩ := hw2.self
    obtain ⟨kvs, ed, hd⟩ := hw2.ties
    walk_at "go"
    refine i_dict ed fun d1 hd1 => ?_
    have ex4 := (upd_ne (ne_of_none ex3 hd1) (o := .dK kvs)).trans ex3
    walk_at "go"
    rw [pf_ties]
    have s4 : Same H (upd (upd H2 d1 (.dK kvs)) x (.ins (He.ga K "Web") dx (webFs l1 d1 0))) := Same.mut (Same.mut s3 (s3.free hd1)) hx
    have ex5 : (upd (upd H2 d1 (.dK kvs)) x (.ins (He.ga K "Web") dx (webFs l1 d1 0))) x = some (.ins (He.ga K "Web") dx (webFs l1 d1 0)) := upd_same
    have el5 : (upd (upd H2 d1 (.dK kvs)) x (.ins (He.ga K "Web") dx (webFs l1 d1 0))) l1 = some (.lst (w.ps.map V.str)) := (upd_ne (fun e => by rw [e] at el3; rw [ex3] at el3; cases el3)).trans ((upd_ne (ne_of_none el3 hd1)).trans el3)
    have ed5 : (upd (upd H2 d1 (.dK kvs)) x (.ins (He.ga K "Web") dx (webFs l1 d1 0))) d1 = some (.dK kvs) := (upd_ne (ne_of_none ex3 hd1).symm).trans upd_same
    have hdf := s3.free hd1
    have s24 : Same H2 (upd H2 d1 (.dK kvs)) := Same.new hd1
    have hd5 : DP (TieAt K (upd (upd H2 d1 (.dK kvs)) x (.ins (He.ga K "Web") dx (webFs l1 d1 0)))) kvs w.ts := hd.mono fun _ _ _ r => (r.same s24).other (r.ne ex3 (fun _ _ _ _ => webFs_ne))
    generalize upd (upd H2 d1 (.dK kvs)) x (.ins (He.ga K "Web") dx (webFs l1 d1 0)) = H3 at s4 ex5 el5 ed5 hd5 ⊢
    have hw3 := hw.same s4
    obtain ⟨dx3, ep3⟩ := hw3.self
    walk_at "go"
    rw [pf_given]
    have b0 : WebAt K H3 x l1 d1 ⟨w.ps, w.ts, 0⟩ := ⟨⟨dx, ex5⟩, el5, ⟨kvs, ed5, hd5⟩⟩
    obtain ⟨b1, _⟩ := b0.setGiven (Same.refl H3) (dx := dx) (g := w.g)
    exact q _ x l1 d1 (Same.mut s4 hx) b1 hx hlf hdf
end
end K18

set_option Elab.async false
set_option linter.all false
set_option maxRecDepth 100000
set_option maxHeartbeats 4000000
namespace K18
open PySem PySem.Spec PyProof.Rows L2 HX WB
local macro_rules | `(tactic| walk_at "side") => `(tactic| first
  | assumption
  | rfl
  | (show (0 : Int) < _; omega)
  | (unfold CDiv; omega)
  | (unfold CMul; omega)
  | (unfold CPow; omega)
  | (rw [sizeLine_eq]; omega)
  | omega)
local macro_rules | `(tactic| walk_at "e") => `(tactic| first
  | ((with_reducible apply i_var); exact rfl)
  | (with_reducible apply i_c)
  | (with_reducible apply i_op)
  | (with_reducible apply i_un)
  | (with_reducible apply i_rI0)
  | ((with_reducible apply i_rI); (case c => walk_at "side"))
  | (with_reducible apply i_rGe)
  | (with_reducible apply i_rGt)
  | (with_reducible apply i_rU)
  | (with_reducible apply i_rEqI)
  | (with_reducible apply i_rNeI)
  | (with_reducible apply i_rEqS)
  | (with_reducible apply i_rNeS)
  | (with_reducible apply i_rEqB)
  | (with_reducible apply i_rNeB)
  | (with_reducible apply i_rIsN)
  | (with_reducible apply i_rNotN)
  | (with_reducible apply i_rInS)
  | (with_reducible apply i_rNotInS)
  | ((with_reducible apply i_catS); (case c => walk_at "side"))
  | (with_reducible apply i_tcb)
  | (with_reducible apply i_nil)
  | (with_reducible apply i_cons)
  | ((with_reducible apply i_lenS); (case c => walk_at "side"))
  | ((with_reducible apply i_lenL); assumption)
  | (with_reducible apply i_abs)
  | (with_reducible apply i_max2)
  | (with_reducible apply i_min2)
  | ((with_reducible apply i_strI); (case c => walk_at "side"))
  | (with_reducible apply i_intB)
  | (with_reducible apply i_test)
  | (with_reducible apply i_tB)
  | (with_reducible apply i_kB)
  | (with_reducible apply i_and)
  | (with_reducible apply i_or)
  | (with_reducible apply i_not)
  | (with_reducible apply i_if)
  | (with_reducible apply i_andV)
  | (with_reducible apply i_orV)
  | (with_reducible apply i_notV)
  | (with_reducible apply i_kAndV)
  | (with_reducible apply i_kOrV)
  | (with_reducible apply i_kNotV)
  | (with_reducible apply i_chain)
  | (with_reducible apply i_kChain)
  | (with_reducible apply i_drop)
  | (with_reducible apply i_ret)
  | (with_reducible apply i_retN)
  | (with_reducible apply i_ifS)
  | (with_reducible apply i_asg)
  | (with_reducible apply i_gName)
  | (with_reducible apply i_for)
  | (with_reducible apply i_lc)
  | (with_reducible apply i_iList)
  | (with_reducible apply i_iTup)
  | (with_reducible apply i_iStr)
  | (with_reducible apply i_kStrI)
  | (with_reducible apply i_lst)
  | (with_reducible apply i_tup)
  | (with_reducible apply i_call)
  | (with_reducible apply i_m1)
  | (with_reducible apply i_kStr)
  | (with_reducible apply i_bm)
  | (with_reducible apply i_bm0)
  | (with_reducible apply i_part)
  | (with_reducible apply i_kInt)
  | (with_reducible apply i_noPart)
  | (with_reducible apply i_sl)
  | (with_reducible apply i_range1)
  | (with_reducible apply i_range2)
  | ((with_reducible apply i_kRng1); (case c => walk_at "side"))
  | ((with_reducible apply i_kRng2); (case c => walk_at "side"))
  | (with_reducible apply i_gCons)
  | (with_reducible apply i_gNil)
  | (with_reducible apply i_gSub)
  | (with_reducible apply i_iZip)
  | (with_reducible apply i_yes)
  | (with_reducible apply i_ift)
  | (with_reducible apply i_iff)
  | (with_reducible apply i_nb))
local macro_rules | `(tactic| walk_at "go") => `(tactic| repeat (first | (with_reducible apply i_seq) | (with_reducible apply i_next) | walk_at "e"))
local macro_rules | `(tactic| walk_at "ge") => `(tactic| repeat walk_at "e")
local macro_rules | `(tactic| walk_at "sz") => `(tactic| first | decide | (rw [sizeLine_eq]; simp; done) | (rw [sizeLine_eq]; omega))
local macro_rules | `(tactic| walk_at "side") => `(tactic| (with_reducible exact WB.most_pos))
local macro_rules | `(tactic| walk_at "e") => `(tactic| first
  | ((with_reducible apply i_isT (b := true)); exact rfl)
  | ((with_reducible apply i_isT (b := false)); exact rfl)
  | (with_reducible apply i_fld)
  | ((with_reducible apply i_kFld); (case h => assumption); (case c1 => assumption); (case c2 => assumption); (case e => first | exact lk_number | exact lk_tail | exact lk_head | exact lk_load | exact lk_oneway | exact lk_points | exact lk_ties | exact lk_given))
  | (with_reducible apply i_sfld)
  | ((with_reducible apply i_kSFld); (case h => first | assumption | exact upd_same); (case c1 => assumption); (case c2 => assumption); (case e => exact Nat.le_of_ble_eq_true rfl))
  | (with_reducible apply i_methC)
  | (with_reducible apply i_make)
  | (with_reducible apply i_fldaug)
  | (with_reducible apply i_vals)
  | (with_reducible apply i_items)
  | (with_reducible apply i_dget)
  | (with_reducible apply i_dput)
  | (with_reducible apply i_din)
  | (with_reducible apply i_dnotin)
  | (with_reducible apply i_ddel)
  | (with_reducible apply i_dc)
  | (with_reducible apply i_enum))
section
variable {P : Program} {w : World} {K : PySem.W.Frag} {mg : Str → Option Value} {base : Heap}
def sp_leads (K : PySem.W.Frag) : Sp := fun vs H Q _ => ∃ p l d w x y, vs = [.ref p, .str x, .str y] ∧ WebAt K H p l d w ∧ Wok w ∧ x ∈ w.ps ∧ y ∈ w.ps ∧ ∀ H', Same H H' → Q (.bl (lds w x y)) H'
theorem ok_law_leads (T : Tx K mg) (xk : extra K = true) : FnOk P w K mg base CX0 6 (He.ga K "_law_leads") T.fd_law_leads ["_law_web_here", "_law_one", "_law_other"] (sp_leads K) := by
  refine T.F_law_leads.ok sc_law_leads (fun vs H Q E h => ?_) (fun cdv A outer s H vs Q E hr h => ?_)
  · obtain ⟨_, _, _, _, _, _, rfl, _⟩ := h
    rfl
  · obtain ⟨p, l, d, w, x, y, rfl, hw, ok, hx, hy, q⟩ := h
    refine ⟨_, PSs.nox (pss_one (ps_ret (pe_callB call_isi (by rfl) T.b_isinstance (by decide +kernel) (pa_cons (pe_call (ok_comes T) (hr.mono (by decide)) (by rfl) T.g_comes T.F_comes.kp T.k_comes .nil pass0 (pa_cons (pv 0) (pa_cons (pv 1) (pa_cons (pv 2) pa_nil)))) (pa_cons (pe_glob (v := .ref (He.ga K "Way")) rfl T.g_Way rfl) pa_nil))))), ?_⟩
    have cw := T.cl_Way
    have cb := T.cl_Border
    walk_at "go"
    refine ⟨p, l, d, w, x, y, rfl, hw, ok, hx, hy, fun hk r nl H1 s1 _ _ wa => ?_, fun hk r nl H1 s1 _ _ wa => ?_⟩
    · obtain ⟨dx1, er⟩ := wa.self
      walk_at "go"
      refine i_wayWay xk cw er ?_
      have := q H1 s1
      unfold lds at this
      rw [decide_eq_true hk] at this
      exact this
    · obtain ⟨dx1, er⟩ := wa.self
      walk_at "go"
      refine i_borWay xk cb er ?_
      have := q H1 s1
      unfold lds at this
      rw [decide_eq_false hk] at this
      exact this
theorem kvP_put {pl : List (Str × Nat)} {x : Str} {n : Nat} (h : x ∉ pl.map (·.1)) : putK (kvP pl) (Sum.inr x) (.int (n : Nat)) = kvP (pl ++ [(x, n)]) := by
  unfold putK
  rw [if_neg]
  · unfold kvP
    rw [List.map_append]
    rfl
  · intro q
    obtain ⟨kv, hk, e⟩ := List.any_eq_true.mp q
    obtain ⟨p, hp, rfl⟩ := List.mem_map.mp hk
    have : (Sum.inr p.1 : Key) = Sum.inr x := by simpa using e
    exact h (List.mem_map.mpr ⟨p, hp, Sum.inr.inj this⟩)
theorem ord_new {w : Wb} (ok : Wok w) {i j : Nat} {k : List Str} {x : Str} (hi : (ordE w)[i]? = some k) (hj : k[j]? = some x) : x ∉ (plK 0 ((ordE w).take i) ++ (k.take j).map (fun z => (z, i))).map (·.1) := by
  have O := ord_of ok
  have hx : x ∈ k := List.mem_of_getElem? hj
  rw [List.map_append, plK_keys, List.map_map]
  intro m
  rcases List.mem_append.mp m with m | m
  · obtain ⟨k2, hk2, hx2⟩ := List.mem_flatten.mp m
    obtain ⟨i2, hi2⟩ := List.mem_iff_getElem?.mp hk2
    rw [List.getElem?_take] at hi2
    split at hi2
    · have := O.one _ _ _ _ x hi2 hi hx2 hx
      omega
    · cases hi2
  · obtain ⟨z, hz, e⟩ := List.mem_map.mp m
    have e : z = x := e
    subst e
    obtain ⟨a, ha, ea⟩ := List.mem_take_iff_getElem.mp hz
    obtain ⟨hj1, ej⟩ := List.getElem?_eq_some_iff.mp hj
    obtain ⟨y, hy, rfl, _⟩ := knots_mem ok (O.sub _ (List.mem_of_getElem? hi))
    have nd : (knotOf w y).Nodup := ok.nd.filter _
    have := (List.getElem_inj nd (h₀ := by omega) (h₁ := hj1)).mp (ea.trans ej.symm)
    omega
def sp_places (K : PySem.W.Frag) : Sp := fun vs H Q _ => ∃ p l d w, vs = [.ref p] ∧ WebAt K H p l d w ∧ Wok w ∧ H (tb K) = some (AnyL.TabO (tb K)) ∧ ∀ r H', Same H H' → H r = none → H' r = some (.dK (kvP (placesOf w))) → Q (.ref r) H'
theorem ok_law_places (T : Tx K mg) (J : Js P w K mg base) : FnOk P w K mg base CX0 7 (He.ga K "_law_places") T.fd_law_places ["_law_web_here"] (sp_places K) := by
  refine T.F_law_places.ok sc_law_places (fun vs H Q E h => ?_) (fun cdv A outer s H vs Q E hr h => ?_)
  · obtain ⟨_, _, _, _, rfl, _⟩ := h
    rfl
  · obtain ⟨p, l, d, w, rfl, hw, ok, hT, q⟩ := h
    have hu := hu_of hr
    refine ⟨_, PSs.nox (pss_cons (ps_set (i := 1) sc_law_places.nd rfl (Or.inl rfl) pe_dnewK)
      (pss_cons (ps_for PassesOwn.never rfl (pi_enum (by rfl) T.b_enumerate (pa_cons (pe_call (ok_knots T J) (hr.mono (by decide)) (by rfl) T.g_knots T.F_knots.kp T.k_knots .nil pass0 (pa_cons (pv 0) pa_nil)) pa_nil)) (pg_tup rfl (pgs_cons (pg_name (i := 2) sc_law_places.nd rfl (Or.inl rfl)) (pgs_cons (pg_name (i := 3) sc_law_places.nd rfl (Or.inl rfl)) pgs_nil)))
      (pss_one (ps_for PassesOwn.never rfl (pi_list (pv 3)) (pg_name (i := 4) sc_law_places.nd rfl (Or.inl rfl))
      (pss_one (ps_dput hu (pv 1) (pv 4) (pv 2) rfl)))))
      (pss_one (ps_ret (pv 1))))), ?_⟩
    have OK := ord_of ok
    walk_at "go"
    intro D hD
    have s1 : Same H (upd H D (.dK [])) := Same.new hD
    have eD : (upd H D (.dK [])) D = some (.dK (kvP [])) := upd_same
    generalize upd H D (.dK []) = H1 at s1 eD ⊢
    walk_at "go"
    refine ⟨p, l, d, w, rfl, hw.same s1, ok, s1 _ _ hT, fun r as H2 s2 hr0 _ _ ll => ?_⟩
    walk_at "go"
    refine i_kEnum (SqL.of ll.top) ?_
    have s12 := s1.trans s2
    have frD : H D = none := hD
    refine for_it walk_enum (fun i σ H' => Same H H' ∧ LL H' r as (ordE w) ∧ H' D = some (.dK (kvP (plK 0 ((ordE w).take i)))) ∧ ∃ v2 v3 v4, σ = [some (.ref p), some (.ref D), v2, v3, v4])
      ⟨s12, ll, s2 _ _ eD, none, none, none, rfl⟩ (fun i σ H' _ h => SqL.of h.2.1.top) ?_ ?_
    · rintro i v σ H3 H4 hi ⟨s3, l3, e3, v2, v3, v4, rfl⟩ ⟨T0, u1, u2, rfl, hT0, rfl, hu1, hu2⟩
      rw [List.length_map] at hi
      have hu1 : some (V.int ((i : Nat) : Int)) = some u1 := hu1
      have hu2 : (as.map V.ref)[i]? = some u2 := hu2
      rw [List.getElem?_map, List.getElem?_eq_getElem hi] at hu2
      cases hu1; cases hu2
      obtain ⟨k, ek, eb⟩ := Two.get l3.els (List.getElem?_eq_getElem hi)
      generalize as[i] = b at eb ⊢
      have sT : Same H3 (upd H3 T0 (.tup [.int (i : Nat), .ref b])) := Same.new hT0
      have k16 : k.length ≤ 16 := by
        obtain ⟨y, hy, rfl, _⟩ := knots_mem ok (OK.sub _ (List.mem_of_getElem? ek))
        have := knot_len (w := w) y
        have := ok.le
        omega
      have i16 : i < 16 := Nat.lt_of_lt_of_le (List.getElem?_eq_some_iff.mp ek).1 OK.len
      have fl : (plK 0 ((ordE w).take i)).length ≤ 16 * 16 := by
        have h1 : (plK 0 ((ordE w).take i)).length = ((ordE w).take i).flatten.length := by rw [← plK_keys 0, List.length_map]
        have h2 := flat_len_le (c := 16) (xss := (ordE w).take i) fun z hz => by
          obtain ⟨y, hy, e, _⟩ := knots_mem ok (OK.sub _ (List.mem_of_mem_take hz))
          have := knot_len (w := w) y
          have := ok.le
          rw [e]
          omega
        rw [List.length_take] at h2
        omega
      walk_at "go"
      refine i_gTup (SqT.of upd_same) rfl ?_
      have s4 := s3.trans sT
      have l4 := l3.same sT
      have e4 := sT _ _ e3
      have eb4 := sT _ _ eb
      generalize upd H3 T0 (.tup [.int (i : Nat), .ref b]) = H4 at s4 l4 e4 eb4 ⊢
      walk_at "go"
      refine i_kListI (SqL.of eb4) ?_
      have off : ∀ {H' : Hp} {z : Addr} {o u : HO} {kvs : List (Key × V)}, H' D = some (.dK kvs) → (∀ kvs, o ≠ .dK (kvs : List (Key × V))) → H' z = some o → (upd H' D u) z = some o := fun {H' z o u kvs} e n h => (upd_ne (fun c => by
        rw [c, e] at h
        cases h
        exact n _ rfl)).trans h
      refine for_it walk_list (fun j σ H' => Same H H' ∧ LL H' r as (ordE w) ∧ H' b = some (.lst (k.map V.str)) ∧ H' D = some (.dK (kvP (plK 0 ((ordE w).take i) ++ (k.take j).map fun z => (z, i)))) ∧ ∃ v4, σ = [some (.ref p), some (.ref D), some (.int (i : Nat)), some (.ref b), v4])
        ⟨s4, l4, eb4, by simpa using e4, v4, rfl⟩ (fun j σ H' _ h => SqL.of h.2.2.1) ?_ ?_
      · rintro j v σ H5 H6 hj ⟨s5, l5, eb5, e5, v4, rfl⟩ ⟨rfl, hv⟩
        rw [List.length_map] at hj
        rw [List.getElem?_map, List.getElem?_eq_getElem hj] at hv
        cases hv
        have new := ord_new ok ek (List.getElem?_eq_getElem hj)
        have tk : (k.take (j + 1)).map (fun z => (z, i)) = (k.take j).map (fun z => (z, i)) ++ [(k[j], i)] := by rw [List.take_add_one, List.getElem?_eq_getElem hj, List.map_append]; rfl
        rw [tk, ← List.append_assoc]
        generalize k[j] = x at new ⊢
        walk_at "go"
        refine i_kDPutS e5 (by unfold kvP; rw [List.length_map, List.length_append, List.length_map, List.length_take, sizeLine_eq]; omega) ?_
        rw [kvP_put new]
        refine ⟨Same.mut s5 frD, ⟨off e5 (fun _ => by simp) l5.top, ?_⟩, off e5 (fun _ => by simp) eb5, upd_same, _, rfl⟩
        exact l5.els.mono fun _ _ q => off e5 (fun _ => by simp) q
      · rintro σ H5 ⟨s5, l5, eb5, e5, v4, rfl⟩
        rw [List.length_map, List.take_length] at e5
        have tk : (ordE w).take (i + 1) = (ordE w).take i ++ [k] := by rw [List.take_add_one, ek]; rfl
        have il : ((ordE w).take i).length = i := by rw [List.length_take]; have := (List.getElem?_eq_some_iff.mp ek).1; omega
        have ep : plK 0 ((ordE w).take (i + 1)) = plK 0 ((ordE w).take i) ++ k.map fun z => (z, i) := by
          rw [tk, plK_app, il, Nat.zero_add]
        walk_at "go"
        refine ⟨s5, l5, ?_, _, _, _, rfl⟩
        rw [ep]
        exact e5
    · rintro σ H3 ⟨s3, l3, e3, v2, v3, v4, rfl⟩
      rw [List.length_map, Two.len l3.els, List.take_length] at e3
      walk_at "go"
      exact q D H3 s3 frD e3
end
end K18

set_option Elab.async false
set_option linter.all false
set_option maxRecDepth 100000
set_option maxHeartbeats 3200000
/-! HXst: sorted(set(xs)), xs a list of whole numbers, doubles or not. -/
namespace SSI
open PySem PySem.Spec PyProof.Rows L2
section
variable {prog : Program} {w : World} {A : Around} {E : Value → Shared → Prop} {s : Shared}
/-- the set of a list of whole numbers -/
theorem set_of_ints {l : Addr} {its : Array Value} {xs : List Int} {Q : Value → Shared → Prop} (calm : A.handled = none) (hl : s.heap.IsList l its) (ht : IntsAre its.toList xs) (few : xs.length + 1 < scanBound)
    (q : ∀ (h' : Heap) (tk c : Nat), SetR w h' s.heap.objs.size (fun j => decide (j ∈ xs)) c → c ≤ xs.length → (∀ b o, s.heap.get? b = some o → h'.get? b = some o) → Q (.ref s.heap.objs.size) { s with heap := h', toks := tk }) :
    wpAny (model prog w) A (call (.type "set") [.ref l]) Q E s := by
  have size : its.size = xs.length := (Array.length_toList (xs := its)).symm.trans (IntsAre.length ht)
  obtain ⟨c, tl, m1⟩ := PySem.F.called_set.mro
  have m2 := PySem.F.called_set.made
  have m3 := PySem.F.called_set.sub
  refine wpAny_call (codeAny_of_tree (?_ : wpAny _ _ (callAny (.type "set") _) _ _ _))
  refine wpAny_pure ⟨Code.quiet_builtin _ (by decide +kernel), codeAny_builtin PySem.F.entry_type_call (?_ : _)⟩
  rw [Around.under_plain (weight_type_call_type "set" [.ref l] []) rfl]
  have m4 := PySem.F.called_set.notType
  have m5 := PySem.F.called_set.canCreate
  have m6 := PySem.F.typeCall_set_1 (.ref l)
  repeat (any_goals (first | assumption | wp_step))
  obtain ⟨led, eled⟩ : ∃ b : Bool, b = !w.params.followText "set-order" := ⟨_, rfl⟩
  refine codeAny_mono (code_set_led1 (.ref l) (E := E) (Q₁ := fun made t => made = .ref s.heap.objs.size ∧ t = { s with heap := s.heap.push (emptyS led) }) ⟨rfl, by rw [eled]⟩) fun r t hr => ?_
  rcases r with e | fl
  · exact hr
  rcases fl with made | _ | _ | _
  rotate_left
  all_goals first | exact hr.elim | skip
  obtain ⟨rfl, rfl⟩ := hr
  have at' : (s.heap.push (emptyS led)).get? s.heap.objs.size = some (emptyS led) := Heap.get?_push_size _ rfl
  have ty : Shared.TypeIs { s with heap := s.heap.push (emptyS led) } (.ref s.heap.objs.size) "set" := ⟨_, at', rfl⟩
  have m7 := PySem.F.called_set.init.lookup
  have m8 := PySem.F.called_set.init.bind (.ref s.heap.objs.size)
  repeat (any_goals (first | assumption | wp_step))
  refine codeAny_mono (codeAny_call_builtin (R := wants (fun r t => r = .none ∧ ∃ h' tk c, t = { s with heap := h', toks := tk } ∧ SetR w h' s.heap.objs.size (fun j => decide (j ∈ xs)) c ∧ c ≤ xs.length ∧
      (∀ b o, s.heap.get? b = some o → h'.get? b = some o)) E) PySem.F.called_set.init.plain PySem.F.entry_set_init (check_set_init_1 ty (?_ : _))) fun r t hr => ?_
  · obtain ⟨⟨oc, od, oda, os⟩, ho, hc, n, hd⟩ := hl
    dsimp only at hc hd
    subst hc hd
    have ho2 : (s.heap.push (emptyS led)).get? l = some { cls := .type "list", dict := od, data := .seq its n, slots := os } := Heap.get?_push_of_some _ ho
    have n1 := PySem.F.sub_list_set
    have n2 := PySem.F.sub_list_frozenset
    have n3 : (Value.type "list" == Value.type "dict") = false := by decide
    have hl1 : (s.heap.push (emptyS led)).IsList l its := ⟨_, ho2, rfl, n, rfl⟩
    unfold Builtin.«set.__init__» noKeywords Builtin.Frozenset.updateFrom
    generalize ep : pyIter = pit
    wp_walk
    subst ep
    have lt : l < s.heap.objs.size := Heap.lt_size ho
    have lS : (s.heap.push (emptyS led)).objs.size = s.heap.objs.size + 1 := Heap.size_push ..
    refine wpAny_pyIter_list hl1 (wpAny_bind (wpAny_runValue ?_))
    have key : ∀ (i : Nat) (v : Value), its[i]? = some v → ∃ k t, xs[i]? = some k ∧ v = .int k t := fun i v hv => by
      have lt : i < xs.length := size ▸ (Array.getElem?_eq_some_iff.mp hv).1
      obtain ⟨t, e⟩ := PyProof.Rows.IntsAre.int_at ht i v (by rw [Array.getElem?_toList]; exact hv)
      exact ⟨xs[i], t, List.getElem?_eq_getElem lt, by rw [e, List.getD_eq_getElem?_getD, List.getElem?_eq_getElem lt]; rfl⟩
    have walk := (Walks.list (prog := prog) (w := w) (A := A.in1.in1.in1) (by simp [calm]) (s.heap.push (emptyS led)).objs.size l (by rw [lS]; exact Nat.ne_of_lt (Nat.lt_succ_of_lt lt)) its).toS
    refine set_update_ints walk s.heap.objs.size (by rw [lS]; simp only [List.mem_cons, List.not_mem_nil, or_false, not_or]; exact ⟨Nat.ne_of_lt (Nat.lt_succ_self _), Nat.ne_of_gt lt⟩) xs size few key its.size 0 _ (Nat.sub_zero _) (Nat.zero_le _)
      ⟨⟨_, Heap.get?_push_size _ rfl, rfl, rfl⟩, hl1.push _⟩ ⟨0, Nat.le_refl 0, ?_⟩ (fun t c mv hc hS => ?_)
    rotate_left
    · obtain ⟨h', g', d', tk', os'⟩ := t
      obtain rfl : g' = s.gens := mv.gens
      obtain rfl : d' = s.drawn := mv.drawn
      obtain rfl : os' = s.os := mv.os
      show wpAny (model prog w) _ _ _ _ _
      refine wpAny_pure ?_
      show wpAny (model prog w) _ (ret Value.none) _ _ _
      refine wpAny_pure ⟨rfl, h', tk', c, rfl, hS, size ▸ hc, fun b o eb => mv.heap b o (by
        have hb := Heap.lt_size eb
        rw [lS]; simp only [List.mem_cons, List.not_mem_nil, or_false, not_or]; exact ⟨Nat.ne_of_lt hb, Nat.ne_of_lt (Nat.lt_succ_of_lt hb)⟩) (Heap.get?_push_of_some _ (Heap.get?_push_of_some _ eb))⟩
    · refine setR_new_at ?_
      rw [← eled]
      exact Heap.get?_push_of_some _ at'
  · rcases r with e | fl
    · exact hr
    rcases fl with made | _ | _ | _
    rotate_left
    all_goals first | exact hr.elim | skip
    obtain ⟨rfl, h', tk, c, rfl, hS, hc, keep⟩ := hr
    repeat (any_goals (first | assumption | wp_step))
    exact q _ _ _ hS hc keep
end
section
variable {X : Cx}
/-- sorted(set(xs)) -/
def tSortSet (K : PySem.W.Frag) (ta : TE) : TE := fun σ H Q => ta σ H fun x H1 => ∃ (l : Addr) (xs : List Int), x = .ref l ∧ SqL K H1 l (xs.map V.int) ∧ xs.length < 64 ∧
  ∀ (ys : List Int) (p : Addr) (H2 : Hp), (∀ b o, H1 b = some o → H2 b = some o) → ys.Pairwise (· < ·) → (∀ k, k ∈ ys ↔ k ∈ xs) → H2 p = none → Q (.ref p) (upd H2 p (.lst (ys.map V.int)))
theorem pe_sortSet {a : Expr} {ta : TE} {p p2 q pos : Pos} (hg : Gl X "sorted") (hm : X.mg "sorted" = none) (hg2 : Gl X "set") (hm2 : X.mg "set" = none) (ha : PE X a ta) (hc : X.calm = true := by rfl)
    (na : starEach [a] X.env = (false, eval a X.env) :: starEach [] X.env := by rfl) : PE X (.Call (.Name "sorted" p) [.Call (.Name "set" p2) [a] [] q] [] pos) (tSortSet X.K ta) :=
  ⟨fun pins s σ H Q I h => Call_ (ld_blt I hg hm PyProof.Rows.boot_sorted (PyProof.Rows.callWith_builtin1 (PyProof.Rows.args_cons (Call_ (ld_blt I hg2 hm2 boot_set (PyProof.Rows.callWith_type1 (PyProof.Rows.args_cons
    (thn (ha.run pins s σ H _ I h) fun v s1 ⟨x, H1, I1, r1, q1⟩ => PyProof.Rows.args_nil (by
      obtain ⟨l, xs, rfl, hq, few, q1⟩ := q1
      obtain rfl : v = Value.ref l := r1
      obtain ⟨its, r, pl, hz⟩ := I1.list hq
      refine set_of_ints (its := its.toArray) (I1.ok.hd hc) pl.isList (by simpa using r.ints) (by unfold scanBound; omega) fun h' tk c R hc' hk => PyProof.Rows.args_nil ?_
      have n0 : H1 s1.heap.objs.size = none := I1.hok.fresh (Nat.le_refl _)
      have I2 : Inv X pins σ (upd H1 s1.heap.objs.size (SetO X.w s1.heap.objs.size (fun j => decide (j ∈ xs)) c)) { s1 with heap := h', toks := tk } := I1.laid (t' := tk) (fun b o e => hk b o e) (Nat.le_refl _) (setO_new R)
      exact cr_sortedSet hc pins _ σ _ [.ref _] [.ref _] Q I2 (.cons rfl .nil) ⟨_, _, _, rfl, upd_same, by omega, fun ys p2 pw mem _ hp => q1 ys p2 _ (fun b o e => (upd_ne (fun z => by rw [z, n0] at e; cases e)).trans e) pw (fun k => by rw [mem k]; exact decide_eq_true_iff) hp⟩)) na) na rfl))) rfl) rfl rfl))⟩
theorem i_sortSet {K : PySem.W.Frag} {ta : TE} {σ : L2.St} {H : Hp} {Q : VK} (q : ta σ H fun x H1 => ∃ (l : Addr) (xs : List Int), x = .ref l ∧ SqL K H1 l (xs.map V.int) ∧ xs.length < 64 ∧
  ∀ (ys : List Int) (p : Addr) (H2 : Hp), (∀ b o, H1 b = some o → H2 b = some o) → ys.Pairwise (· < ·) → (∀ k, k ∈ ys ↔ k ∈ xs) → H2 p = none → Q (.ref p) (upd H2 p (.lst (ys.map V.int)))) : tSortSet K ta σ H Q := q
end
end SSI

set_option Elab.async false
set_option linter.all false
set_option maxRecDepth 100000
set_option maxHeartbeats 4000000
namespace K18
open PySem PySem.Spec PyProof.Rows L2 HX WB
local macro_rules | `(tactic| walk_at "side") => `(tactic| first
  | assumption
  | rfl
  | (show (0 : Int) < _; omega)
  | (unfold CDiv; omega)
  | (unfold CMul; omega)
  | (unfold CPow; omega)
  | (rw [sizeLine_eq]; omega)
  | omega)
local macro_rules | `(tactic| walk_at "e") => `(tactic| first
  | ((with_reducible apply i_var); exact rfl)
  | (with_reducible apply i_c)
  | (with_reducible apply i_op)
  | (with_reducible apply i_un)
  | (with_reducible apply i_rI0)
  | ((with_reducible apply i_rI); (case c => walk_at "side"))
  | (with_reducible apply i_rGe)
  | (with_reducible apply i_rGt)
  | (with_reducible apply i_rU)
  | (with_reducible apply i_rEqI)
  | (with_reducible apply i_rNeI)
  | (with_reducible apply i_rEqS)
  | (with_reducible apply i_rNeS)
  | (with_reducible apply i_rEqB)
  | (with_reducible apply i_rNeB)
  | (with_reducible apply i_rIsN)
  | (with_reducible apply i_rNotN)
  | (with_reducible apply i_rInS)
  | (with_reducible apply i_rNotInS)
  | ((with_reducible apply i_catS); (case c => walk_at "side"))
  | (with_reducible apply i_tcb)
  | (with_reducible apply i_nil)
  | (with_reducible apply i_cons)
  | ((with_reducible apply i_lenS); (case c => walk_at "side"))
  | ((with_reducible apply i_lenL); assumption)
  | (with_reducible apply i_abs)
  | (with_reducible apply i_max2)
  | (with_reducible apply i_min2)
  | ((with_reducible apply i_strI); (case c => walk_at "side"))
  | (with_reducible apply i_intB)
  | (with_reducible apply i_test)
  | (with_reducible apply i_tB)
  | (with_reducible apply i_kB)
  | (with_reducible apply i_and)
  | (with_reducible apply i_or)
  | (with_reducible apply i_not)
  | (with_reducible apply i_if)
  | (with_reducible apply i_andV)
  | (with_reducible apply i_orV)
  | (with_reducible apply i_notV)
  | (with_reducible apply i_kAndV)
  | (with_reducible apply i_kOrV)
  | (with_reducible apply i_kNotV)
  | (with_reducible apply i_chain)
  | (with_reducible apply i_kChain)
  | (with_reducible apply i_drop)
  | (with_reducible apply i_ret)
  | (with_reducible apply i_retN)
  | (with_reducible apply i_ifS)
  | (with_reducible apply i_asg)
  | (with_reducible apply i_gName)
  | (with_reducible apply i_for)
  | (with_reducible apply i_lc)
  | (with_reducible apply i_iList)
  | (with_reducible apply i_iTup)
  | (with_reducible apply i_iStr)
  | (with_reducible apply i_kStrI)
  | (with_reducible apply i_lst)
  | (with_reducible apply i_tup)
  | (with_reducible apply i_call)
  | (with_reducible apply i_m1)
  | (with_reducible apply i_kStr)
  | (with_reducible apply i_bm)
  | (with_reducible apply i_bm0)
  | (with_reducible apply i_part)
  | (with_reducible apply i_kInt)
  | (with_reducible apply i_noPart)
  | (with_reducible apply i_sl)
  | (with_reducible apply i_range1)
  | (with_reducible apply i_range2)
  | ((with_reducible apply i_kRng1); (case c => walk_at "side"))
  | ((with_reducible apply i_kRng2); (case c => walk_at "side"))
  | (with_reducible apply i_gCons)
  | (with_reducible apply i_gNil)
  | (with_reducible apply i_gSub)
  | (with_reducible apply i_iZip)
  | (with_reducible apply i_yes)
  | (with_reducible apply i_ift)
  | (with_reducible apply i_iff)
  | (with_reducible apply i_nb))
local macro_rules | `(tactic| walk_at "go") => `(tactic| repeat (first | (with_reducible apply i_seq) | (with_reducible apply i_next) | walk_at "e"))
local macro_rules | `(tactic| walk_at "ge") => `(tactic| repeat walk_at "e")
local macro_rules | `(tactic| walk_at "sz") => `(tactic| first | decide | (rw [sizeLine_eq]; simp; done) | (rw [sizeLine_eq]; omega))
local macro_rules | `(tactic| walk_at "side") => `(tactic| (with_reducible exact WB.most_pos))
local macro_rules | `(tactic| walk_at "e") => `(tactic| first
  | ((with_reducible apply i_isT (b := true)); exact rfl)
  | ((with_reducible apply i_isT (b := false)); exact rfl)
  | (with_reducible apply i_fld)
  | ((with_reducible apply i_kFld); (case h => assumption); (case c1 => assumption); (case c2 => assumption); (case e => first | exact lk_number | exact lk_tail | exact lk_head | exact lk_load | exact lk_oneway | exact lk_points | exact lk_ties | exact lk_given))
  | (with_reducible apply i_sfld)
  | ((with_reducible apply i_kSFld); (case h => first | assumption | exact upd_same); (case c1 => assumption); (case c2 => assumption); (case e => exact Nat.le_of_ble_eq_true rfl))
  | (with_reducible apply i_methC)
  | (with_reducible apply i_make)
  | (with_reducible apply i_fldaug)
  | (with_reducible apply i_vals)
  | (with_reducible apply i_items)
  | (with_reducible apply i_dget)
  | (with_reducible apply i_dput)
  | (with_reducible apply i_din)
  | (with_reducible apply i_dnotin)
  | (with_reducible apply i_ddel)
  | (with_reducible apply i_dc)
  | (with_reducible apply i_enum))
theorem inV_int {x : Int} {ys : List Int} : inV (.int x) (ys.map V.int) = decide (x ∈ ys) := by
  unfold inV
  induction ys with
  | nil => simp
  | cons y r ih =>
    rw [List.map_cons, List.any_cons, ih]
    have e : eqV (.int y) (.int x) = decide (x = y) := by
      by_cases c : x = y
      · subst c; simp [eqV]
      · simp [eqV, c]; exact fun h => c h.symm
    rw [e]
    by_cases c : x = y
    · simp [c]
    · simp [c]
theorem flat_int {ys : List Int} : (ys.map V.int).all flatV = true := by
  rw [List.all_eq_true]
  intro v hv
  obtain ⟨y, _, rfl⟩ := List.mem_map.mp hv
  rfl
theorem shaped_one {xs : List Str} (o : ∀ x ∈ xs, okS x = true) : SeqAt.shaped (AnyL.dS xs) = true := shaped_strs o
theorem i_neStrs {K : PySem.W.Frag} {H : Hp} {Q : VK} {a b : Addr} {xs ys : List Str} (ha : H a = some (.lst (xs.map V.str))) (hb : H b = some (.lst (ys.map V.str))) (o1 : ∀ x ∈ xs, okS x = true) (o2 : ∀ x ∈ ys, okS x = true) (q : Q (.bl (!decide (xs = ys))) H) : rNeD K (.ref a) (.ref b) H Q :=
  ⟨AnyL.dS xs, AnyL.dS ys, .lst (SqL.of ha) (AnyL.dp_dS xs), .lst (SqL.of hb) (AnyL.dp_dS ys), shaped_one o1, shaped_one o2, by rw [AnyL.eqv_dS]; exact q⟩
theorem i_eqStrs {K : PySem.W.Frag} {H : Hp} {Q : VK} {a b : Addr} {xs ys : List Str} (ha : H a = some (.lst (xs.map V.str))) (hb : H b = some (.lst (ys.map V.str))) (o1 : ∀ x ∈ xs, okS x = true) (o2 : ∀ x ∈ ys, okS x = true) (q : Q (.bl (decide (xs = ys))) H) : rEqD K (.ref a) (.ref b) H Q :=
  ⟨AnyL.dS xs, AnyL.dS ys, .lst (SqL.of ha) (AnyL.dp_dS xs), .lst (SqL.of hb) (AnyL.dp_dS ys), shaped_one o1, shaped_one o2, by rw [AnyL.eqv_dS]; exact q⟩
section
variable {P : Program} {w : World} {K : PySem.W.Frag} {mg : Str → Option Value} {base : Heap}
def sp_pair (K : PySem.W.Frag) : Sp := fun vs H Q _ => ∃ p l d w D x y, vs = [.ref p, .ref D, .str x, .str y] ∧ WebAt K H p l d w ∧ Wok w ∧ H D = some (.dK (kvP (placesOf w))) ∧ x ∈ w.ps ∧ y ∈ w.ps ∧ ∀ H', Same H H' → Q (.bl true) H'
theorem ok_law_pair_right (T : Tx K mg) (xk : extra K = true) : FnOk P w K mg base CX0 7 (He.ga K "_law_pair_right") T.fd_law_pair_right ["_law_web_here", "_law_at", "_law_one", "_law_other"] (sp_pair K) := by
  refine T.F_law_pair_right.ok sc_law_pair_right (fun vs H Q E h => ?_) (fun cdv A outer s H vs Q E hr h => ?_)
  · obtain ⟨_, _, _, _, _, _, _, rfl, _⟩ := h
    rfl
  · obtain ⟨p, l, d, w, D, x, y, rfl, hw, ok, hD, hx, hy, q⟩ := h
    have hu := hu_of hr
    refine ⟨_, PSs.nox (pss_cons (ps_set (i := 4) sc_law_pair_right.nd rfl (Or.inl rfl) (pe_call (ok_law_leads T xk) (hr.mono (by decide)) (by rfl) T.g_law_leads T.F_law_leads.kp T.k_law_leads .nil pass0 (pa_cons (pv 0) (pa_cons (pv 2) (pa_cons (pv 3) pa_nil)))))
      (pss_cons (ps_set (i := 5) sc_law_pair_right.nd rfl (Or.inl rfl) (pe_call (ok_law_leads T xk) (hr.mono (by decide)) (by rfl) T.g_law_leads T.F_law_leads.kp T.k_law_leads .nil pass0 (pa_cons (pv 0) (pa_cons (pv 3) (pa_cons (pv 2) pa_nil)))))
      (pss_cons (ps_if (PW.pt (pw_or (pt_cmpR op_ne (pe_and (pv 4) (pe_one (pv 5))) (pe_cmpR op_eq (pe_dget hu (pv 1) (pv 2) (fun _ _ => rfl)) (pe_dget hu (pv 1) (pv 3) (fun _ _ => rfl)) (nomark _)) (nomark _)) (pw_or1 (PW.pt (pw_and (pt_val (pv 4)) (pw_and1 (pt_cmpR op_gt (pe_dget hu (pv 1) (pv 2) (fun _ _ => rfl)) (pe_dget hu (pv 1) (pv 3) (fun _ _ => rfl)) (nomark _)))))))) (pss_one (ps_ret pe_bl)) pss_nil)
      (C8.pss_cut (ps_if (PW.pt (pw_and (pt_cmpR op_ne (pv 2) (pv 3) (nomark _)) (pw_and1 (pt_cmpR op_ne (pe_callB call_isi (by rfl) T.b_isinstance (by decide +kernel) (pa_cons (pe_call (ok_ring_through T xk) (hr.mono (by decide)) (by rfl) T.g_ring_through T.F_ring_through.kp T.k_ring_through .nil pass0 (pa_cons (pv 0) (pa_cons (pv 2) (pa_cons (pv 3) pa_nil)))) (pa_cons (pe_glob (v := .ref (He.ga K "Ring")) rfl T.g_Ring rfl) pa_nil))) (pe_and (pv 4) (pe_one (pv 5))) (nomark _))))) (pss_one (ps_ret pe_bl)) pss_nil)
      (pss_cons (ps_if (pt_val (pv 4)) (pss_one (ps_ret pe_bl)) pss_nil)
      (pss_cons (ps_set (i := 6) sc_law_pair_right.nd rfl (Or.inr rfl) (pe_call (ok_comes T) (hr.mono (by decide)) (by rfl) T.g_comes T.F_comes.kp T.k_comes .nil pass0 (pa_cons (pv 0) (pa_cons (pv 2) (pa_cons (pv 3) pa_nil)))))
      (pss_cons (ps_if (PW.pt (pw_or (pt_not (pt_val (pe_callB call_isi (by rfl) T.b_isinstance (by decide +kernel) (pa_cons (pv 6) (pa_cons (pe_glob (v := .ref (He.ga K "Border")) rfl T.g_Border rfl) pa_nil))))) (pw_or (pt_cmpR op_notIn_seq (pv 2) (pe_fld (pv 6) rfl) (by rfl)) (pw_or1 (pt_cmpR op_in_seq (pv 3) (pe_fld (pv 6) rfl) (by rfl)))))) (pss_one (ps_ret pe_bl)) pss_nil)
      (pss_cons (ps_set (i := 7) sc_law_pair_right.nd rfl (Or.inr rfl) (SSI.pe_sortSet (by rfl) T.b_sorted (by rfl) T.b_set (pe_lc (own := [("_law_name", 9)]) (by rfl) sc_law_pair_right.nd (pi_list (pe_fld (pv 6) rfl)) (blkOk_by (own := [("_law_name", 9)]) (N := N_law_pair_right) (sc := defScope s_law_pair_right) (by decide +kernel)) (fun _ _ _ _ _ => (pg_name (i := 9) sc_law_pair_right.nd rfl (Or.inl rfl))) (fun _ _ _ _ _ => pts_nil) (fun _ _ _ _ _ => (pe_dget hu (pv 1) (pv 9) (fun _ _ => rfl))))))
      (pss_cons (ps_if (pt_cmpR (op_neD hr.units) (pe_lc (own := [("_law_name", 9)]) (by rfl) sc_law_pair_right.nd (pi_list (pe_meth0 (pv 0) T.cl_Web T.m_Web_points (ok_Web_points T) (hr.mono (by decide)) T.k_Web_points .nil pass0)) (blkOk_by (own := [("_law_name", 9)]) (N := N_law_pair_right) (sc := defScope s_law_pair_right) (by decide +kernel)) (fun _ _ _ _ _ => (pg_name (i := 9) sc_law_pair_right.nd rfl (Or.inl rfl))) (fun _ _ _ _ _ => (pts_one (pt_cmpR op_ne (pe_cmpR (op_in_seqK K rfl) (pe_dget hu (pv 1) (pv 9) (fun _ _ => rfl)) (pv 7) (by rfl)) (pe_cmpR (op_in_seqK K rfl) (pv 9) (pe_fldK K rfl (pv 6) rfl) (by rfl)) (nomark _)))) (fun _ _ _ _ _ => (pv 9))) (pe_lst pa_nil) (nomark _)) (pss_one (ps_ret pe_bl)) pss_nil)
      (pss_cons (ps_for PassesOwn.never rfl (pi_list (pe_meth0 (pv 0) T.cl_Web T.m_Web_ties (ok_Web_ties T) (hr.mono (by decide)) T.k_Web_ties .nil pass0)) (pg_name (i := 8) sc_law_pair_right.nd rfl (Or.inl rfl))
      (C8.pss_cut (ps_if (PW.pt (pw_and (pt_cmpR op_in_seq (pe_fld (pv 8) rfl) (pe_fld (pv 6) rfl) (by rfl)) (pw_and1 (pt_cmpR op_notIn_seq (pe_fld (pv 8) rfl) (pe_fld (pv 6) rfl) (by rfl))))) (pss_one (ps_ret pe_bl)) pss_nil)
      (pss_one (ps_if (PW.pt (pw_and (pt_not (pt_val (pe_fld (pv 8) rfl))) (pw_and1 (pt_cmpR op_ne (pe_cmpR op_in_seq (pe_fld (pv 8) rfl) (pe_fld (pv 6) rfl) (by rfl)) (pe_cmpR op_in_seq (pe_fld (pv 8) rfl) (pe_fld (pv 6) rfl) (by rfl)) (nomark _))))) (pss_one (ps_ret pe_bl)) pss_nil))))
      (pss_one (ps_ret pe_bl)))))))))))), ?_⟩
    have cw := T.cl_Way
    have cb := T.cl_Border
    have cr := T.cl_Ring
    have nb := T.na_Border_names
    have l16 := ok.le
    have gx := at_val ok hx
    have gy := at_val ok hy
    have pb := pair_both ok hx hy
    walk_at "go"
    refine ⟨p, l, d, w, x, y, rfl, hw, ok, hx, hy, fun H1 s1 => ?_⟩
    walk_at "go"
    refine ⟨p, l, d, w, y, x, rfl, hw.same s1, ok, hy, hx, fun H2 s2 => ?_⟩
    have s12 := s1.trans s2
    have hD2 := s12 _ _ hD
    walk_at "go"
    cases hb1 : lds w x y with
    | true =>
      rw [hb1, Bool.true_and] at pb
      have hk : y ∈ keysC (came (freeS w.ts) x) := of_decide_eq_true hb1
      rw [if_pos rfl]
      walk_at "go"
      refine i_kDGetS hD2 gx ?_
      walk_at "go"
      refine i_kDGetS hD2 gy ?_
      walk_at "go"
      rw [if_pos (decide_eq_true pb)]
      walk_at "go"
      refine i_kDGetS hD2 gx ?_
      walk_at "go"
      refine i_kDGetS hD2 gy ?_
      walk_at "go"
      refine i_dec (fun c => absurd c (pair_le ok hx hb1)) (fun _ => ?_)
      walk_at "go"
      refine ⟨fun σ' H' => Same H H' ∧ σ' = [some (.ref p), some (.ref D), some (.str x), some (.str y), some (.bl true), some (.bl (lds w y x)), none, none, none, none], ?_, ?_⟩
      · walk_at "go"
        refine i_dec (fun _ => ?_) (fun hne => ?_)
        · exact ⟨s12, rfl⟩
        · walk_at "go"
          refine ⟨p, l, d, w, x, y, rfl, hw.same s12, ok, hx, hy, hne, fun h => absurd hk h, fun _ hk2 r nl H3 s3 _ _ wa => ?_, fun _ hk2 r nl H3 s3 _ _ wa => ?_⟩
          · obtain ⟨dx3, er⟩ := wa.self
            have b2 : lds w y x = false := decide_eq_false hk2
            walk_at "go"
            refine i_borRing xk cb er ?_
            walk_at "go"
            rw [b2, if_pos (decide_eq_true rfl)]
            exact ⟨s12.trans s3, rfl⟩
          · obtain ⟨dx3, er⟩ := wa.self
            have b2 : lds w y x = true := decide_eq_true hk2
            walk_at "go"
            refine i_ringRing xk cr er ?_
            walk_at "go"
            rw [b2, if_pos (decide_eq_true rfl)]
            exact ⟨s12.trans s3, rfl⟩
      · rintro σ' H3 ⟨s3, rfl⟩
        walk_at "go"
        exact q _ s3
    | false =>
      rw [hb1, Bool.false_and] at pb
      have hk : y ∉ keysC (came (freeS w.ts) x) := of_decide_eq_false hb1
      rw [if_neg Bool.false_ne_true]
      walk_at "go"
      refine i_kDGetS hD2 gx ?_
      walk_at "go"
      refine i_kDGetS hD2 gy ?_
      walk_at "go"
      rw [if_pos (decide_eq_true pb)]
      walk_at "go"
      refine ⟨fun σ' H' => Same H H' ∧ σ' = [some (.ref p), some (.ref D), some (.str x), some (.str y), some (.bl false), some (.bl (lds w y x)), none, none, none, none], ?_, ?_⟩
      · walk_at "go"
        refine i_dec (fun _ => ?_) (fun hne => ?_)
        · exact ⟨s12, rfl⟩
        · walk_at "go"
          refine ⟨p, l, d, w, x, y, rfl, hw.same s12, ok, hx, hy, hne, fun _ r nl H3 s3 _ _ wa => ?_, fun h => absurd h hk, fun h => absurd h hk⟩
          obtain ⟨dx3, er⟩ := wa.self
          walk_at "go"
          refine i_borRing xk cb er ?_
          walk_at "go"
          rw [if_pos (decide_eq_true rfl)]
          exact ⟨s12.trans s3, rfl⟩
      · rintro σ' H3 ⟨s3, rfl⟩
        walk_at "go"
        refine ⟨p, l, d, w, x, y, rfl, hw.same s3, ok, hx, hy, fun h => absurd h hk, fun _ r nl H4 s4 _ _ wa => ?_⟩
        obtain ⟨⟨dx4, er⟩, el⟩ := wa
        have el : H4 nl = some (.lst ((farOf w x).map V.str)) := el
        have hxf : x ∈ farOf w x := far_mem.mpr ⟨hx, rc_self ok hx⟩
        have hyf : y ∉ farOf w x := fun m => hk (far_mem.mp m).2
        walk_at "go"
        refine i_borBor xk cb er ?_
        walk_at "go"
        refine i_kFld er cb nb rfl ?_
        refine i_inS (SqL.of el) ?_
        rw [decide_eq_true hxf]
        show kB _ (.bl false) _
        walk_at "go"
        refine i_kFld er cb nb rfl ?_
        refine i_inS (SqL.of el) ?_
        rw [decide_eq_false hyf]
        show kB _ (.bl false) _
        have fl : (farOf w x).length ≤ 16 := by
          have : (farOf w x).length ≤ w.ps.length := List.length_filter_le _ _
          omega
        have fin : ∀ z ∈ farOf w x, z ∈ w.ps := fun z hz => (far_mem.mp hz).1
        have s04 := s3.trans s4
        have hD4 := s04 _ _ hD
        walk_at "go"
        refine SSI.i_sortSet ?_
        walk_at "go"
        refine i_kFld er cb nb rfl ?_
        walk_at "go"
        refine i_kListI (SqL.of el) ?_
        intro E hE
        refine lc_it walk_list (fun i H' => Same H4 H' ∧ H' E = some (.lst ((((farOf w x).take i).map fun z => ((atOf w z : Nat) : Int)).map V.int)))
          ⟨Same.new hE, by rw [upd_same]; rfl⟩ (fun i H' _ h => SqL.of (h.1 _ _ el)) ?_ ?_
        · rintro i v H5 H6 hi ⟨s5, eE⟩ ⟨rfl, hv⟩
          rw [List.length_map] at hi
          rw [List.getElem?_map, List.getElem?_eq_getElem hi] at hv
          cases hv
          have tk : (farOf w x).take (i + 1) = (farOf w x).take i ++ [(farOf w x)[i]] := by rw [List.take_add_one, List.getElem?_eq_getElem hi]; rfl
          have gz := at_val ok (fin _ (List.getElem_mem hi))
          rw [tk]
          generalize (farOf w x)[i] = z at gz ⊢
          walk_at "go"
          refine ⟨rfl, ?_⟩
          walk_at "go"
          refine i_kDGetS (s5 _ _ hD4) gz ?_
          refine ⟨_, eE, by rw [List.length_map, List.length_map, List.length_take, sizeLine_eq]; omega, Same.mut s5 hE, ?_⟩
          rw [upd_same]
          simp
        rintro H5 ⟨s5, eE⟩
        rw [List.length_map, List.take_length] at eE
        refine ⟨E, _, rfl, SqL.of eE, by rw [List.length_map]; omega, fun ys z H6 s6 pw mem hz => ?_⟩
        have s7 : Same H6 (upd H6 z (.lst (ys.map V.int))) := Same.new hz
        have ez : (upd H6 z (.lst (ys.map V.int))) z = some (.lst (ys.map V.int)) := upd_same
        have s47 : Same H4 (upd H6 z (.lst (ys.map V.int))) := (s5.trans (fun b o e => s6 b o e)).trans s7
        generalize upd H6 z (.lst (ys.map V.int)) = H7 at s7 ez s47 ⊢
        have s07 := s04.trans s47
        obtain ⟨dxw, ep⟩ := (hw.same s07).self
        walk_at "go"
        refine i_kMethC ep rfl ?_
        walk_at "go"
        refine ⟨p, l, d, w, rfl, hw.same s07, fun nm hnm => ?_⟩
        have s8 : Same H7 (upd H7 nm (.lst (w.ps.map V.str))) := Same.new hnm
        have enm : (upd H7 nm (.lst (w.ps.map V.str))) nm = some (.lst (w.ps.map V.str)) := upd_same
        generalize upd H7 nm (.lst (w.ps.map V.str)) = H8 at s8 enm ⊢
        have s08 := s07.trans s8
        have s48 := s47.trans s8
        walk_at "go"
        refine i_kListI (SqL.of enm) ?_
        intro F hF
        refine lc_it walk_list (fun i H' => Same H8 H' ∧ H' F = some (.lst []))
          ⟨Same.new hF, upd_same⟩ (fun i H' _ h => SqL.of (h.1 _ _ enm)) ?_ ?_
        · rintro i v H9 H10 hi ⟨s9, eF⟩ ⟨rfl, hv⟩
          rw [List.length_map] at hi
          rw [List.getElem?_map, List.getElem?_eq_getElem hi] at hv
          cases hv
          have hv1 := List.getElem_mem hi
          generalize w.ps[i] = v at hv1 ⊢
          have gv := at_val ok hv1
          have s89 := s48.trans s9
          walk_at "go"
          refine ⟨rfl, ?_⟩
          walk_at "go"
          refine i_kDGetS ((s08.trans s9) _ _ hD) gv ?_
          walk_at "go"
          refine ⟨_, _, rfl, .inl (SqL.of ((s8.trans s9) _ _ ez)), rfl, flat_int, ?_⟩
          rw [if_neg Bool.false_ne_true, inV_int]
          walk_at "go"
          refine i_kFld (s89 _ _ er) cb nb rfl ?_
          refine i_inS (SqL.of (s89 _ _ el)) ?_
          have e : decide ((atOf w v : Int) ∈ ys) = decide (v ∈ farOf w x) := decide_eq_decide.mpr (by rw [mem]; exact far_whole ok hx hv1)
          rw [e, if_neg Bool.false_ne_true]
          walk_at "go"
          rw [if_pos (decide_eq_true rfl)]
          exact ⟨s9, eF⟩
        · rintro H9 ⟨s9, eF⟩
          walk_at "go"
          refine ⟨by walk_at "sz", fun g hg => ?_⟩
          have s10 : Same H9 (upd H9 g (.lst [])) := Same.new hg
          refine i_neStrs (xs := []) (ys := []) (s10 _ _ eF) upd_same (by simp) (by simp) ?_
          rw [decide_eq_true rfl]
          show kB _ (.bl false) _
          generalize upd H9 g (.lst []) = H10 at s10 ⊢
          have s010 := (s08.trans s9).trans s10
          have s410 := (s48.trans s9).trans s10
          obtain ⟨dxv, epv⟩ := (hw.same s010).self
          have c1 := T.cl_Tie
          have c3 := T.na_Tie_tail
          have c4 := T.na_Tie_head
          have c5 := T.na_Tie_is_oneway
          walk_at "go"
          refine i_kMethC epv rfl ?_
          walk_at "go"
          refine ⟨p, l, d, w, rfl, hw.same s010, ok.tl, fun tl as H11 s11 _ etl has => ?_⟩
          walk_at "go"
          refine i_kListI (SqL.of etl) ?_
          have s411 := s410.trans s11
          refine for_it walk_list (fun i σ H' => Same H11 H' ∧ ∃ v8, σ = [some (.ref p), some (.ref D), some (.str x), some (.str y), some (.bl false), some (.bl (lds w y x)), some (.ref r), some (.ref z), v8, none])
            ⟨Same.refl _, none, rfl⟩ (fun i σ H' _ h => SqL.of (h.1 _ _ etl)) ?_ ?_
          · rintro i v σ H12 H13 hi ⟨s12, v8, rfl⟩ ⟨rfl, hv⟩
            rw [List.length_map] at hi
            rw [List.getElem?_map, List.getElem?_eq_getElem hi] at hv
            cases hv
            obtain ⟨⟨n, t⟩, et, ta⟩ := Two.get has (List.getElem?_eq_getElem hi)
            have hm := List.mem_of_getElem? et
            generalize as[i] = b at ta ⊢
            obtain ⟨dy, ta2⟩ := ta.same s12
            have er2 := (s411.trans s12) _ _ er
            have el2 := (s411.trans s12) _ _ el
            have f1 := far_tie ok hx hm
            have f2 := far_back ok hx hm
            walk_at "go"
            refine ⟨fun σ' H' => Same H11 H' ∧ σ' = [some (.ref p), some (.ref D), some (.str x), some (.str y), some (.bl false), some (.bl (lds w y x)), some (.ref r), some (.ref z), some (.ref b), none], ?_, ?_⟩
            · walk_at "go"
              refine i_kFld er2 cb nb rfl ?_
              refine i_inS (SqL.of el2) ?_
              walk_at "go"
              refine i_dec (fun m => ?_) (fun _ => ?_)
              · walk_at "go"
                refine i_kFld er2 cb nb rfl ?_
                refine i_inS (SqL.of el2) ?_
                rw [decide_eq_true (f1 m)]
                show kB _ (.bl false) _
                walk_at "go"
                exact ⟨s12, rfl⟩
              · walk_at "go"
                exact ⟨s12, rfl⟩
            · rintro σ' H14 ⟨s14, rfl⟩
              obtain ⟨dz, ta4⟩ := ta.same s14
              have er4 := (s411.trans s14) _ _ er
              have el4 := (s411.trans s14) _ _ el
              walk_at "go"
              show if t.o = true then _ else _
              cases ho : t.o with
              | true =>
                rw [if_pos rfl, if_neg Bool.false_ne_true]
                walk_at "go"
                exact ⟨s14, _, rfl⟩
              | false =>
                rw [if_neg Bool.false_ne_true]
                walk_at "go"
                refine i_kFld er4 cb nb rfl ?_
                refine i_inS (SqL.of el4) ?_
                walk_at "go"
                refine i_kFld er4 cb nb rfl ?_
                refine i_inS (SqL.of el4) ?_
                have e : decide (t.t ∈ farOf w x) = decide (t.h ∈ farOf w x) := decide_eq_decide.mpr ⟨f1, f2 ho⟩
                rw [e]
                walk_at "go"
                rw [if_pos (decide_eq_true rfl)]
                walk_at "go"
                exact ⟨s14, _, rfl⟩
          · rintro σ H12 ⟨s12, v8, rfl⟩
            walk_at "go"
            exact q _ ((s010.trans s11).trans s12)
end
end K18

set_option Elab.async false
set_option linter.all false
set_option maxRecDepth 100000
set_option maxHeartbeats 2000000
/-! HXsd: sorted(d) of a dict whose keys are texts. -/
namespace SDX
open PySem PySem.Spec PyProof.Rows L2 HX
section
variable {X : Cx}
def rSortedDS : List V → Hp → VK → Prop := fun xs H Q => ∃ (a : Addr) (kvs : List (Key × V)) (ks : List Str), xs = [.ref a] ∧ Rd H a (.dK kvs) ∧ kvs.map (·.1) = ks.map Sum.inr ∧ ks.length < 64 ∧
    ∀ (ys : List Str) (p : Addr), ys.Perm ks → sortedS ys = true → H p = none → Q (.ref p) (upd H p (.lst (ys.map V.str)))
theorem call_sortedDS (hcalm : X.calm = true) : CallR X (.builtin "sorted") rSortedDS := by
  intro pins s σ H xs us Q I r q
  obtain ⟨a, kvs, ks, ex, hd, hks, h64, q⟩ := q
  subst ex
  obtain ⟨u, eu, rx⟩ := vals1 r
  subst eu
  cases rx
  obtain ⟨z, lo, vs, rel, dd⟩ := dk_rd I.hok hd
  obtain ⟨ep, hat⟩ := dd.dictAt
  have hkeys : vs.map (·.1) = ks.map Sum.inr := rel.keys.symm.trans hks
  have hl : vs.length = ks.length := by
    have e := congrArg List.length hkeys
    rw [List.length_map, List.length_map] at e
    exact e
  have h16 : vs.length ≤ sizeLine := by rw [hl, sizeLine_eq]; omega
  refine Calls.call_function_entry PyProof.Rows.kind_sorted PyProof.Rows.plain_sorted PyProof.Rows.entry_sorted (PyProof.Rows.args_sorted1 _) ?_
  unfold Builtin.«sorted»
  refine wpAny_bind (m := checkCount "sorted" 1 1 _) (wpAny_pure ?_)
  refine wpAny_bind (PySem.W.kdu_collect (A := X.A.in1) (PySem.W.kdl_dict (knd := mixKind X.prog X.w) (kvs := vs) (ep := ep) lo) (I.ok.hd hcalm) hat h16 fun h' tk acc hk hacc => ?_)
  have hal : acc.toList.length = ks.length := by rw [Array.length_toList, hacc.1, hl]
  have hS : StrsAre acc.toList ks := L2.strs_at hal fun j v e => by
    obtain ⟨k, x, e1, e2⟩ := hacc.2 j v (by rw [← Array.getElem?_toList]; exact e)
    have e3 : (vs.map (·.1))[j]? = some k := by rw [List.getElem?_map, e1]; rfl
    rw [hkeys, List.getElem?_map] at e3
    cases e4 : ks[j]? with
    | none => rw [e4] at e3; cases e3
    | some y =>
      rw [e4] at e3
      have e5 : Sum.inr y = k := Option.some.inj e3
      subst e5
      rcases keyIs_shape (show keyIs (Sum.inr y) v = true from e2) with ⟨i, t, ek, ev⟩ | ⟨z, t, ek, ev⟩
      · cases ek
      · cases ek
        exact ⟨y, t, rfl, ev⟩
  have I1 : Inv X pins σ H { s with heap := h', toks := tk } := I.kept hk
  refine wpAny_bind (wpAny_newList ?_ (by rw [hal, sizeLine_eq]; omega))
  have hoL : (h'.push (seqObj "list" acc.toList.toArray 0)).get? h'.objs.size = some (seqObj "list" acc.toList.toArray 0) := Heap.get?_push_size _ rfl
  show wpAny _ _ _ _ _ { s with heap := h'.push (seqObj "list" acc.toList.toArray 0), toks := tk }
  refine wpAny_bind (wpAny_holding (wpAny_call_entry PyProof.Rows.slot_list_sort ⟨_, hoL, rfl⟩ PyProof.Rows.entry_list_sort
    (list_sort_treeK (s := { s with heap := h'.push (seqObj "list" acc.toList.toArray 0), toks := tk }) strKind_oneLt hoL hS.keysOf (fun v₁ v₂ rest e => keyKind_strs (by rw [← e]; exact hS)) (by rw [hal]; exact h64) fun st' hp hs => ?_) (PyProof.Rows.args_list_sort _)))
  obtain ⟨ys, g1, g2, g3⟩ := sorted_out_str hS hp hs
  obtain ⟨e', he'⟩ := PyProof.Rows.sortedHeap_at (vs := acc.toList) (out := (arrOf st').map (·.2)) hoL
  have hlen : (ys.map V.str).length ≤ sizeLine := by
    rw [List.length_map, g2.length_eq]
    exact Nat.le_trans (Nat.le_of_lt h64) (by decide)
  refine ⟨_, rfl, ?_⟩
  refine wpAny_pure ⟨_, rfl, .ref h'.objs.size, upd H h'.objs.size (.lst (ys.map V.str)), I1.laid (t' := tk) (fun b u e => ?_) (Nat.le_refl _)
    (show ObjOk X.prog X.w _ _ _ (.lst (ys.map V.str)) from ⟨hlen, ((arrOf st').map (·.2)).toList, e', vals_of_strs g1, by rw [Array.toArray_toList]; exact he'⟩), rfl, q ys _ g2 g3 (I1.hok.fresh (Nat.le_refl _))⟩
  have hb : b < h'.objs.size := Heap.lt_size e
  rw [PyProof.Rows.sortedHeap_old (Nat.ne_of_lt hb) (by rw [size_push']; exact Nat.lt_succ_of_lt hb)]
  exact Heap.get?_push_of_some _ e
end
/-! ### texts in order: the order is one -/
theorem rising_pw : ∀ (p : Str) (l : List Str), risingS p l = true → (p :: l).Pairwise fun a b => a.cps.toList ≤ b.cps.toList
  | p, [], _ => by simp
  | p, x :: r, h => by
    have h : (!ltCps x.cps.toList p.cps.toList && risingS x r) = true := h
    rw [Bool.and_eq_true, ltCps_eq] at h
    have h1 : p.cps.toList ≤ x.cps.toList := by
      have : ¬ x.cps.toList < p.cps.toList := by simpa using h.1
      exact List.not_lt.mp this
    have ih := rising_pw x r h.2
    refine List.pairwise_cons.mpr ⟨fun y hy => ?_, ih⟩
    rcases List.mem_cons.mp hy with rfl | hy
    · exact h1
    · exact List.le_trans h1 ((List.pairwise_cons.mp ih).1 y hy)
theorem sorted_same {xs ys : List Str} (p : xs.Perm ys) (h1 : sortedS xs = true) (h2 : sortedS ys = true) : xs = ys := by
  have pw : ∀ l : List Str, sortedS l = true → l.Pairwise fun a b => a.cps.toList ≤ b.cps.toList := fun l h => by
    cases l with
    | nil => exact .nil
    | cons x r => exact rising_pw x r h
  refine List.Perm.eq_of_pairwise (fun a b _ _ h1 h2 => ?_) (pw xs h1) (pw ys h2) p
  have e : a.cps.toList = b.cps.toList := List.le_antisymm h1 h2
  obtain ⟨a⟩ := a
  obtain ⟨b⟩ := b
  simpa using e
theorem units65 {k : Nat} {A : Around} (r : Room k A) : A.units + 65 < cLine := by have := r.un; omega
end SDX

set_option Elab.async false
set_option linter.all false
set_option maxRecDepth 100000
set_option maxHeartbeats 4000000
namespace K18
open PySem PySem.Spec PyProof.Rows L2 HX WB
local macro_rules | `(tactic| walk_at "side") => `(tactic| first
  | assumption
  | rfl
  | (show (0 : Int) < _; omega)
  | (unfold CDiv; omega)
  | (unfold CMul; omega)
  | (unfold CPow; omega)
  | (rw [sizeLine_eq]; omega)
  | omega)
local macro_rules | `(tactic| walk_at "e") => `(tactic| first
  | ((with_reducible apply i_var); exact rfl)
  | (with_reducible apply i_c)
  | (with_reducible apply i_op)
  | (with_reducible apply i_un)
  | (with_reducible apply i_rI0)
  | ((with_reducible apply i_rI); (case c => walk_at "side"))
  | (with_reducible apply i_rGe)
  | (with_reducible apply i_rGt)
  | (with_reducible apply i_rU)
  | (with_reducible apply i_rEqI)
  | (with_reducible apply i_rNeI)
  | (with_reducible apply i_rEqS)
  | (with_reducible apply i_rNeS)
  | (with_reducible apply i_rEqB)
  | (with_reducible apply i_rNeB)
  | (with_reducible apply i_rIsN)
  | (with_reducible apply i_rNotN)
  | (with_reducible apply i_rInS)
  | (with_reducible apply i_rNotInS)
  | ((with_reducible apply i_catS); (case c => walk_at "side"))
  | (with_reducible apply i_tcb)
  | (with_reducible apply i_nil)
  | (with_reducible apply i_cons)
  | ((with_reducible apply i_lenS); (case c => walk_at "side"))
  | ((with_reducible apply i_lenL); assumption)
  | (with_reducible apply i_abs)
  | (with_reducible apply i_max2)
  | (with_reducible apply i_min2)
  | ((with_reducible apply i_strI); (case c => walk_at "side"))
  | (with_reducible apply i_intB)
  | (with_reducible apply i_test)
  | (with_reducible apply i_tB)
  | (with_reducible apply i_kB)
  | (with_reducible apply i_and)
  | (with_reducible apply i_or)
  | (with_reducible apply i_not)
  | (with_reducible apply i_if)
  | (with_reducible apply i_andV)
  | (with_reducible apply i_orV)
  | (with_reducible apply i_notV)
  | (with_reducible apply i_kAndV)
  | (with_reducible apply i_kOrV)
  | (with_reducible apply i_kNotV)
  | (with_reducible apply i_chain)
  | (with_reducible apply i_kChain)
  | (with_reducible apply i_drop)
  | (with_reducible apply i_ret)
  | (with_reducible apply i_retN)
  | (with_reducible apply i_ifS)
  | (with_reducible apply i_asg)
  | (with_reducible apply i_gName)
  | (with_reducible apply i_for)
  | (with_reducible apply i_lc)
  | (with_reducible apply i_iList)
  | (with_reducible apply i_iTup)
  | (with_reducible apply i_iStr)
  | (with_reducible apply i_kStrI)
  | (with_reducible apply i_lst)
  | (with_reducible apply i_tup)
  | (with_reducible apply i_call)
  | (with_reducible apply i_m1)
  | (with_reducible apply i_kStr)
  | (with_reducible apply i_bm)
  | (with_reducible apply i_bm0)
  | (with_reducible apply i_part)
  | (with_reducible apply i_kInt)
  | (with_reducible apply i_noPart)
  | (with_reducible apply i_sl)
  | (with_reducible apply i_range1)
  | (with_reducible apply i_range2)
  | ((with_reducible apply i_kRng1); (case c => walk_at "side"))
  | ((with_reducible apply i_kRng2); (case c => walk_at "side"))
  | (with_reducible apply i_gCons)
  | (with_reducible apply i_gNil)
  | (with_reducible apply i_gSub)
  | (with_reducible apply i_iZip)
  | (with_reducible apply i_yes)
  | (with_reducible apply i_ift)
  | (with_reducible apply i_iff)
  | (with_reducible apply i_nb))
local macro_rules | `(tactic| walk_at "go") => `(tactic| repeat (first | (with_reducible apply i_seq) | (with_reducible apply i_next) | walk_at "e"))
local macro_rules | `(tactic| walk_at "ge") => `(tactic| repeat walk_at "e")
local macro_rules | `(tactic| walk_at "sz") => `(tactic| first | decide | (rw [sizeLine_eq]; simp; done) | (rw [sizeLine_eq]; omega))
local macro_rules | `(tactic| walk_at "side") => `(tactic| (with_reducible exact WB.most_pos))
local macro_rules | `(tactic| walk_at "e") => `(tactic| first
  | ((with_reducible apply i_isT (b := true)); exact rfl)
  | ((with_reducible apply i_isT (b := false)); exact rfl)
  | (with_reducible apply i_fld)
  | ((with_reducible apply i_kFld); (case h => assumption); (case c1 => assumption); (case c2 => assumption); (case e => first | exact lk_number | exact lk_tail | exact lk_head | exact lk_load | exact lk_oneway | exact lk_points | exact lk_ties | exact lk_given))
  | (with_reducible apply i_sfld)
  | ((with_reducible apply i_kSFld); (case h => first | assumption | exact upd_same); (case c1 => assumption); (case c2 => assumption); (case e => exact Nat.le_of_ble_eq_true rfl))
  | (with_reducible apply i_methC)
  | (with_reducible apply i_make)
  | (with_reducible apply i_fldaug)
  | (with_reducible apply i_vals)
  | (with_reducible apply i_items)
  | (with_reducible apply i_dget)
  | (with_reducible apply i_dput)
  | (with_reducible apply i_din)
  | (with_reducible apply i_dnotin)
  | (with_reducible apply i_ddel)
  | (with_reducible apply i_dc)
  | (with_reducible apply i_enum))
theorem ord_nd {w : Wb} (ok : Wok w) : (ordE w).flatten.Nodup := by
  have O := ord_of ok
  refine List.pairwise_flatten.mpr ⟨fun k hk => ?_, List.pairwise_iff_getElem.mpr fun i j hi hj hij x hx y hy e => ?_⟩
  · obtain ⟨z, hz, rfl, _⟩ := knots_mem ok (O.sub _ hk)
    exact ok.nd.filter _
  · subst e
    have := O.one i j _ _ x (List.getElem?_eq_getElem hi) (List.getElem?_eq_getElem hj) hx hy
    omega
theorem ord_perm {w : Wb} (ok : Wok w) : ((placesOf w).map (·.1)).Perm w.ps := by
  rw [plK_keys]
  exact (List.perm_ext_iff_of_nodup (ord_nd ok) ok.nd).mpr fun x => ord_flat ok
theorem kvP_keys (pl : List (Str × Nat)) : (kvP pl).map (·.1) = (pl.map (·.1)).map Sum.inr := by
  unfold kvP
  rw [List.map_map, List.map_map]
  rfl
section
variable {P : Program} {w : World} {K : PySem.W.Frag} {mg : Str → Option Value} {base : Heap}
def sp_right (K : PySem.W.Frag) : Sp := fun vs H Q _ => ∃ p l d w, vs = [.ref p] ∧ WebAt K H p l d w ∧ Wok w ∧ H (tb K) = some (AnyL.TabO (tb K)) ∧ ∀ H', Same H H' → Q (.bl true) H'
theorem ok_law_right (T : Tx K mg) (J : Js P w K mg base) (xk : extra K = true) : FnOk P w K mg base CX0 8 (He.ga K "_law_right") T.fd_law_right ["_law_web_here"] (sp_right K) := by
  refine T.F_law_right.ok sc_law_right (fun vs H Q E h => ?_) (fun cdv A outer s H vs Q E hr h => ?_)
  · obtain ⟨_, _, _, _, rfl, _⟩ := h
    rfl
  · obtain ⟨p, l, d, w, rfl, hw, ok, hT, q⟩ := h
    have hu := hu_of hr
    refine ⟨_, PSs.nox (pss_cons (ps_set (i := 1) sc_law_right.nd rfl (Or.inl rfl) (pe_meth0 (pv 0) T.cl_Web T.m_Web_points (ok_Web_points T) (hr.mono (by decide)) T.k_Web_points .nil pass0))
      (pss_cons (ps_set (i := 2) sc_law_right.nd rfl (Or.inr rfl) (pe_call (ok_law_places T J) (hr.mono (by decide)) (by rfl) T.g_law_places T.F_law_places.kp T.k_law_places .nil pass0 (pa_cons (pv 0) pa_nil)))
      (pss_cons (ps_if (pt_cmpR (op_neD hr.units) (pe_callB (SDX.call_sortedDS rfl) (by rfl) T.b_sorted (by decide +kernel) (pa_cons (pv 2) pa_nil)) (pe_callB cr_sortedS (by rfl) T.b_sorted (by decide +kernel) (pa_cons (pv 1) pa_nil)) (nomark _)) (pss_one (ps_ret pe_bl)) pss_nil)
      (pss_cons (ps_for PassesOwn.never rfl (pi_list (pv 1)) (pg_name (i := 3) sc_law_right.nd rfl (Or.inr rfl))
      (pss_one (ps_if (pt_not (pt_val (pe_callB (cr_all rfl) (by rfl) T.b_all (by decide +kernel) (pa_cons (pe_lc (own := [("_law_other", 5)]) (by rfl) sc_law_right.nd (pi_list (pv 1)) (blkOk_by (own := [("_law_other", 5)]) (N := N_law_right) (sc := defScope s_law_right) (by decide +kernel)) (fun _ _ _ _ _ => (pg_name (i := 5) sc_law_right.nd rfl (Or.inl rfl))) (fun _ _ _ _ _ => pts_nil) (fun _ _ _ _ _ => (pe_call (ok_law_pair_right T xk) (hr.mono (by decide)) (by rfl) T.g_law_pair_right T.F_law_pair_right.kp T.k_law_pair_right .nil pass0 (pa_cons (pv 0) (pa_cons (pv 2) (pa_cons (pv 3) (pa_cons (pv 5) pa_nil))))))) pa_nil)))) (pss_one (ps_ret pe_bl)) pss_nil)))
      (pss_cons (ps_set (i := 4) sc_law_right.nd rfl (Or.inl rfl) (pe_call (ok_starts T J) (hr.mono (by decide)) (by rfl) T.g_starts T.F_starts.kp T.k_starts .nil pass0 (pa_cons (pv 0) pa_nil)))
      (pss_cons (ps_for PassesOwn.never rfl (pi_list (pv 1)) (pg_name (i := 5) sc_law_right.nd rfl (Or.inr rfl))
      (pss_cons (ps_if (pt_cmpR (op_eqD hr.units) (pe_lc (own := [("_law_one", 3)]) (by rfl) sc_law_right.nd (pi_list (pv 4)) (blkOk_by (own := [("_law_one", 3)]) (N := N_law_right) (sc := defScope s_law_right) (by decide +kernel)) (fun _ _ _ _ _ => (pg_name (i := 3) sc_law_right.nd rfl (Or.inl rfl))) (fun _ _ _ _ _ => (pts_one (pt_val (pe_call (ok_law_leads T xk) (hr.mono (by decide)) (by rfl) T.g_law_leads T.F_law_leads.kp T.k_law_leads .nil pass0 (pa_cons (pv 0) (pa_cons (pv 3) (pa_cons (pv 5) pa_nil))))))) (fun _ _ _ _ _ => (pv 3))) (pe_lst pa_nil) (nomark _)) (pss_one (ps_ret pe_bl)) pss_nil)
      (pss_cons (ps_setLc (i := 6) (own := [("_law_one", 3)]) (by rfl) sc_law_right.nd rfl rfl (sw_true rfl rfl rfl (by decide +kernel)) (pi_list (pv 1)) (blkOk_by (own := [("_law_one", 3)]) (N := N_law_right) (sc := defScope s_law_right) (by decide +kernel)) (fun _ _ _ _ _ => (pg_name (i := 3) sc_law_right.nd rfl (Or.inl rfl))) (fun _ _ _ _ _ => (pts_one (PW.pt (pw_and (pt_cmpR op_ne (pe_dget hu (pv 2) (pv 3) (fun _ _ => rfl)) (pe_dget hu (pv 2) (pv 5) (fun _ _ => rfl)) (nomark _)) (pw_and1 (pt_val (pe_call (ok_law_leads T xk) (hr.mono (by decide)) (by rfl) T.g_law_leads T.F_law_leads.kp T.k_law_leads .nil pass0 (pa_cons (pv 0) (pa_cons (pv 3) (pa_cons (pv 5) pa_nil)))))))))) (fun _ _ _ _ _ => (pv 3)))
      (pss_one (ps_if (pt_cmpR op_ne (pe_cmpR op_in_seq (pv 5) (pv 4) (by rfl)) (pe_and (pe_cmpR (op_eqD hr.units) (pv 6) (pe_lst pa_nil) (nomark _)) (pe_one (pe_cmpR op_eq (pe_ix ix_list (pe_lc (own := [("_law_one", 3)]) (by rfl) sc_law_right.nd (pi_list (pv 1)) (blkOk_by (own := [("_law_one", 3)]) (N := N_law_right) (sc := defScope s_law_right) (by decide +kernel)) (fun _ _ _ _ _ => (pg_name (i := 3) sc_law_right.nd rfl (Or.inl rfl))) (fun _ _ _ _ _ => (pts_one (pt_cmpR op_eq (pe_dget hu (pv 2) (pv 3) (fun _ _ => rfl)) (pe_dget hu (pv 2) (pv 5) (fun _ _ => rfl)) (nomark _)))) (fun _ _ _ _ _ => (pv 3))) pe_int (fun _ _ => rfl)) (pv 5) (nomark _)))) (nomark _)) (pss_one (ps_ret pe_bl)) pss_nil)))))
      (pss_one (ps_ret pe_bl)))))))), ?_⟩
    have l16 := ok.le
    obtain ⟨dx, ep⟩ := hw.self
    walk_at "go"
    refine i_kMethC ep rfl ?_
    walk_at "go"
    refine ⟨p, l, d, w, rfl, hw, fun nm hnm => ?_⟩
    have s1 : Same H (upd H nm (.lst (w.ps.map V.str))) := Same.new hnm
    have enm : (upd H nm (.lst (w.ps.map V.str))) nm = some (.lst (w.ps.map V.str)) := upd_same
    generalize upd H nm (.lst (w.ps.map V.str)) = H1 at s1 enm ⊢
    walk_at "go"
    refine ⟨p, l, d, w, rfl, hw.same s1, ok, s1 _ _ hT, fun D H2 s2 hD0 eD => ?_⟩
    have s12 := s1.trans s2
    have enm2 := s2 _ _ enm
    have pm := ord_perm ok
    walk_at "go"
    refine ⟨D, kvP (placesOf w), (placesOf w).map (·.1), rfl, .of eD, kvP_keys _, by rw [pm.length_eq]; omega, fun ys z pm1 sd1 hz => ?_⟩
    have s3 : Same H2 (upd H2 z (.lst (ys.map V.str))) := Same.new hz
    have ez : (upd H2 z (.lst (ys.map V.str))) z = some (.lst (ys.map V.str)) := upd_same
    generalize upd H2 z (.lst (ys.map V.str)) = H3 at s3 ez ⊢
    walk_at "go"
    refine ⟨nm, w.ps, rfl, SqL.of (s3 _ _ enm2), by omega, fun ys2 z2 pm2 sd2 hz2 => ?_⟩
    have s4 : Same H3 (upd H3 z2 (.lst (ys2.map V.str))) := Same.new hz2
    have ey : ys = ys2 := SDX.sorted_same ((pm1.trans pm).trans pm2.symm) sd1 sd2
    refine i_neStrs (s4 _ _ ez) upd_same (fun x hx => nm_ok (ok.nm x ((pm1.trans pm).mem_iff.mp hx))) (fun x hx => nm_ok (ok.nm x (pm2.mem_iff.mp hx))) ?_
    rw [decide_eq_true ey]
    show kB _ (.bl false) _
    generalize upd H3 z2 (.lst (ys2.map V.str)) = H4 at s4 ⊢
    have s24 := s3.trans s4
    have s04 := s12.trans s24
    have enm4 := s24 _ _ enm2
    have eD4 := s24 _ _ eD
    walk_at "go"
    refine i_kListI (SqL.of enm4) ?_
    refine for_it walk_list (fun i σ H' => Same H4 H' ∧ ∃ v3, σ = [some (.ref p), some (.ref nm), some (.ref D), v3, none, none, none])
      ⟨Same.refl _, none, rfl⟩ (fun i σ H' _ h => SqL.of (h.1 _ _ enm4)) ?_ ?_
    · rintro i v σ H5 H6 hi ⟨s5, v3, rfl⟩ ⟨rfl, hv⟩
      rw [List.length_map] at hi
      rw [List.getElem?_map, List.getElem?_eq_getElem hi] at hv
      cases hv
      have hx := List.getElem_mem hi
      generalize w.ps[i] = x at hx ⊢
      walk_at "go"
      refine i_kListI (SqL.of (s5 _ _ enm4)) ?_
      intro E hE
      refine lc_it walk_list (fun j H' => Same H6 H' ∧ H' E = some (.lst ((List.replicate j true).map V.bl)))
        ⟨Same.new hE, by rw [upd_same]; rfl⟩ (fun j H' _ h => SqL.of (h.1 _ _ (s5 _ _ enm4))) ?_ ?_
      · rintro j v H7 H8 hj ⟨s7, eE⟩ ⟨rfl, hv⟩
        rw [List.length_map] at hj
        rw [List.getElem?_map, List.getElem?_eq_getElem hj] at hv
        cases hv
        have hy := List.getElem_mem hj
        generalize w.ps[j] = y at hy ⊢
        have s57 := s5.trans s7
        walk_at "go"
        refine ⟨rfl, ?_⟩
        walk_at "go"
        refine ⟨p, l, d, w, D, x, y, rfl, hw.same (s04.trans s57), ok, s57 _ _ eD4, hx, hy, fun H9 s9 => ?_⟩
        refine ⟨_, s9 _ _ eE, by rw [List.length_map, List.length_replicate, sizeLine_eq]; omega, Same.mut (s7.trans s9) hE, ?_⟩
        rw [upd_same, List.replicate_succ', List.map_append]
        rfl
      · rintro H7 ⟨s7, eE⟩
        rw [List.length_map] at eE
        have al : (List.replicate w.ps.length true).all id = true := by simp
        walk_at "go"
        refine ⟨E, _, rfl, SqL.of eE, ?_⟩
        rw [al]
        walk_at "go"
        exact ⟨s5.trans s7, _, rfl⟩
    · rintro σ H5 ⟨s5, v3, rfl⟩
      have s05 := s04.trans s5
      walk_at "go"
      refine ⟨p, l, d, w, rfl, hw.same s05, ok, s05 _ _ hT, fun r H6 s6 hr0 er => ?_⟩
      have s46 := s5.trans s6
      have s06 := s04.trans s46
      have enm6 := s46 _ _ enm4
      have eD6 := s46 _ _ eD4
      have stl : (startsOf w).length ≤ 16 := by
        rw [starts_eq ok]
        have : (w.ps.filter (lawStart w)).length ≤ w.ps.length := List.length_filter_le _ _
        omega
      walk_at "go"
      refine i_kListI (SqL.of enm6) ?_
      refine for_it walk_list (fun i σ H' => Same H6 H' ∧ ∃ v5 v6, σ = [some (.ref p), some (.ref nm), some (.ref D), v3, some (.ref r), v5, v6])
        ⟨Same.refl _, none, none, rfl⟩ (fun i σ H' _ h => SqL.of (h.1 _ _ enm6)) ?_ ?_
      · rintro i v σ H7 H8 hi ⟨s7, v5, v6, rfl⟩ ⟨rfl, hv⟩
        rw [List.length_map] at hi
        rw [List.getElem?_map, List.getElem?_eq_getElem hi] at hv
        cases hv
        have hx := List.getElem_mem hi
        generalize w.ps[i] = x at hx ⊢
        have gx := at_val ok hx
        have er7 := s7 _ _ er
        have s07 := s06.trans s7
        walk_at "go"
        refine i_kListI (SqL.of er7) ?_
        intro E hE
        refine lc_it walk_list (fun j H' => Same H8 H' ∧ H' E = some (.lst ((((startsOf w).take j).filter fun z => lds w z x).map V.str)))
          ⟨Same.new hE, by rw [upd_same]; rfl⟩ (fun j H' _ h => SqL.of (h.1 _ _ er7)) ?_ ?_
        · rintro j v H9 H10 hj ⟨s9, eE⟩ ⟨rfl, hv⟩
          rw [List.length_map] at hj
          rw [List.getElem?_map, List.getElem?_eq_getElem hj] at hv
          cases hv
          have tk : (startsOf w).take (j + 1) = (startsOf w).take j ++ [(startsOf w)[j]] := by rw [List.take_add_one, List.getElem?_eq_getElem hj]; rfl
          have hy := start_in ok (List.getElem_mem hj)
          have l3 := List.length_filter_le (fun z => lds w z x) ((startsOf w).take j)
          rw [List.length_take] at l3
          rw [tk, List.filter_append, List.map_append]
          generalize (startsOf w)[j] = y at hy ⊢
          walk_at "go"
          refine ⟨rfl, ?_⟩
          walk_at "go"
          refine ⟨p, l, d, w, y, x, rfl, hw.same (s07.trans s9), ok, hy, hx, fun H11 s11 => ?_⟩
          have s911 := s9.trans s11
          have eE11 := s11 _ _ eE
          walk_at "go"
          cases c : lds w y x with
          | true =>
            rw [if_pos rfl]
            walk_at "go"
            refine ⟨_, eE11, by rw [List.length_map, sizeLine_eq]; omega, Same.mut s911 hE, ?_⟩
            rw [upd_same, List.filter_cons, if_pos c]
            rfl
          | false =>
            rw [if_neg Bool.false_ne_true]
            refine ⟨s911, ?_⟩
            rw [eE11, List.filter_cons, if_neg (by rw [c]; decide), List.filter_nil, List.map_nil, List.append_nil]
        rintro H9 ⟨s9, eE⟩
        rw [List.length_map, List.take_length] at eE
        have ne : ¬ ((startsOf w).filter fun z => lds w z x) = [] := fun e => by
          obtain ⟨z, hz, rz⟩ := start_there ok w.ps.length x hx (List.length_filter_le _ _)
          have : z ∈ (startsOf w).filter fun z => lds w z x := List.mem_filter.mpr ⟨hz, (lds_iff ok (start_in ok hz)).mpr rz⟩
          rw [e] at this
          cases this
        walk_at "go"
        refine ⟨by walk_at "sz", fun g hg => ?_⟩
        have s10 : Same H9 (upd H9 g (.lst [])) := Same.new hg
        refine i_eqStrs (ys := []) (s10 _ _ eE) upd_same (fun y hy => nm_ok (ok.nm _ (start_in ok (List.mem_filter.mp hy).1))) (by simp) ?_
        rw [decide_eq_false ne]
        generalize upd H9 g (.lst []) = H10 at s10 ⊢
        have s810 := s9.trans s10
        have s010 := s07.trans s810
        have enm10 := (s7.trans s810) _ _ enm6
        have eD10 := (s7.trans s810) _ _ eD6
        have er10 := s810 _ _ er7
        walk_at "go"
        refine i_kListI (SqL.of enm10) ?_
        intro F hF
        refine lc_it walk_list (fun j H' => Same H10 H' ∧ H' F = some (.lst (((w.ps.take j).filter fun z => !decide ((atOf w z : Int) = (atOf w x : Int)) && lds w z x).map V.str)))
          ⟨Same.new hF, by rw [upd_same]; rfl⟩ (fun j H' _ h => SqL.of (h.1 _ _ enm10)) ?_ ?_
        · rintro j v H11 H12 hj ⟨s11, eF⟩ ⟨rfl, hv⟩
          rw [List.length_map] at hj
          rw [List.getElem?_map, List.getElem?_eq_getElem hj] at hv
          cases hv
          have tk : w.ps.take (j + 1) = w.ps.take j ++ [w.ps[j]] := by rw [List.take_add_one, List.getElem?_eq_getElem hj]; rfl
          have hy := List.getElem_mem hj
          have l3 := List.length_filter_le (fun z => !decide ((atOf w z : Int) = (atOf w x : Int)) && lds w z x) (w.ps.take j)
          rw [List.length_take] at l3
          rw [tk, List.filter_append, List.map_append]
          generalize w.ps[j] = y at hy ⊢
          have gy := at_val ok hy
          walk_at "go"
          refine ⟨rfl, ?_⟩
          walk_at "go"
          refine i_kDGetS (s11 _ _ eD10) gy ?_
          walk_at "go"
          refine i_kDGetS (s11 _ _ eD10) gx ?_
          walk_at "go"
          refine i_dec (fun c => ?_) (fun c => ?_)
          · refine ⟨s11, ?_⟩
            rw [eF, List.filter_cons, if_neg (by rw [decide_eq_true c]; simp), List.filter_nil, List.map_nil, List.append_nil]
          · walk_at "go"
            refine ⟨p, l, d, w, y, x, rfl, hw.same (s010.trans s11), ok, hy, hx, fun H13 s13 => ?_⟩
            have s1113 := s11.trans s13
            have eF13 := s13 _ _ eF
            walk_at "go"
            cases c2 : lds w y x with
            | true =>
              rw [if_pos rfl]
              walk_at "go"
              refine ⟨_, eF13, by rw [List.length_map, sizeLine_eq]; omega, Same.mut s1113 hF, ?_⟩
              rw [upd_same, List.filter_cons, if_pos (by rw [decide_eq_false c, c2]; rfl)]
              rfl
            | false =>
              rw [if_neg Bool.false_ne_true]
              refine ⟨s1113, ?_⟩
              rw [eF13, List.filter_cons, if_neg (by rw [c2, Bool.and_false]; decide), List.filter_nil, List.map_nil, List.append_nil]
        rintro H11 ⟨s11, eF⟩
        rw [List.length_map, List.take_length] at eF
        have eF : H11 F = some (.lst ((behind w x).map V.str)) := eF
        have s811 := s810.trans s11
        have told := start_told ok hx
        walk_at "go"
        refine i_inS (SqL.of (s811 _ _ er7)) ?_
        rw [if_neg Bool.false_ne_true]
        walk_at "go"
        refine ⟨by walk_at "sz", fun g2 hg2 => ?_⟩
        have s12 : Same H11 (upd H11 g2 (.lst [])) := Same.new hg2
        refine i_eqStrs (ys := []) (s12 _ _ eF) upd_same (fun y hy => nm_ok (ok.nm _ (List.mem_filter.mp hy).1)) (by simp) ?_
        generalize upd H11 g2 (.lst []) = H12 at s12 ⊢
        have s1012 := s11.trans s12
        have enm12 := s1012 _ _ enm10
        have eD12 := s1012 _ _ eD10
        by_cases cb : behind w x = []
        · rw [decide_eq_true cb, Bool.true_and] at told
          rw [decide_eq_true cb]
          walk_at "go"
          refine i_kListI (SqL.of enm12) ?_
          intro G hG
          refine lc_it walk_list (fun j H' => Same H12 H' ∧ H' G = some (.lst (((w.ps.take j).filter fun z => decide ((atOf w z : Int) = (atOf w x : Int))).map V.str)))
            ⟨Same.new hG, by rw [upd_same]; rfl⟩ (fun j H' _ h => SqL.of (h.1 _ _ enm12)) ?_ ?_
          · rintro j v H13 H14 hj ⟨s13, eG⟩ ⟨rfl, hv⟩
            rw [List.length_map] at hj
            rw [List.getElem?_map, List.getElem?_eq_getElem hj] at hv
            cases hv
            have tk : w.ps.take (j + 1) = w.ps.take j ++ [w.ps[j]] := by rw [List.take_add_one, List.getElem?_eq_getElem hj]; rfl
            have hy := List.getElem_mem hj
            have l3 := List.length_filter_le (fun z => decide ((atOf w z : Int) = (atOf w x : Int))) (w.ps.take j)
            rw [List.length_take] at l3
            rw [tk, List.filter_append, List.map_append]
            generalize w.ps[j] = y at hy ⊢
            have gy := at_val ok hy
            walk_at "go"
            refine ⟨rfl, ?_⟩
            walk_at "go"
            refine i_kDGetS (s13 _ _ eD12) gy ?_
            walk_at "go"
            refine i_kDGetS (s13 _ _ eD12) gx ?_
            walk_at "go"
            refine i_dec (fun c => ?_) (fun c => ?_)
            · walk_at "go"
              refine ⟨_, eG, by rw [List.length_map, sizeLine_eq]; omega, Same.mut s13 hG, ?_⟩
              rw [upd_same, List.filter_cons, if_pos (decide_eq_true c)]
              rfl
            · refine ⟨s13, ?_⟩
              rw [eG, List.filter_cons, if_neg (by rw [decide_eq_false c]; decide), List.filter_nil, List.map_nil, List.append_nil]
          rintro H13 ⟨s13, eG⟩
          rw [List.length_map, List.take_length] at eG
          have eG : H13 G = some (.lst ((beside w x).map V.str)) := eG
          obtain ⟨a0, ar, ea⟩ : ∃ a0 ar, beside w x = a0 :: ar := by
            have : x ∈ beside w x := List.mem_filter.mpr ⟨hx, decide_eq_true rfl⟩
            cases c : beside w x with
            | nil => rw [c] at this; cases this
            | cons a0 ar => exact ⟨a0, ar, rfl⟩
          walk_at "go"
          refine i_ixL (SqL.of eG) (j := 0) (v := .str a0) (atI_nat (j := 0) (by rw [ea]; rfl)) ?_
          walk_at "go"
          have e : decide (x ∈ startsOf w) = decide (a0 = x) := by
            rw [told, ea, List.head?_cons]
            exact decide_eq_decide.mpr ⟨fun h => Option.some.inj h, fun h => by rw [h]⟩
          rw [if_pos (decide_eq_true e)]
          walk_at "go"
          exact ⟨(s7.trans s811).trans (s12.trans s13), _, _, rfl⟩
        · rw [decide_eq_false cb, Bool.false_and] at told
          rw [decide_eq_false cb]
          walk_at "go"
          rw [if_pos (decide_eq_true told)]
          walk_at "go"
          exact ⟨(s7.trans s811).trans s12, _, _, rfl⟩
      · rintro σ H7 ⟨s7, v5, v6, rfl⟩
        walk_at "go"
        exact q _ (s06.trans s7)
end
end K18

set_option Elab.async false
set_option linter.all false
set_option maxRecDepth 100000
set_option maxHeartbeats 4000000
namespace K18
open PySem PySem.Spec PyProof.Rows L2 HX WB
open TL (tl)
local macro_rules | `(tactic| walk_at "side") => `(tactic| first
  | assumption
  | rfl
  | (show (0 : Int) < _; omega)
  | (unfold CDiv; omega)
  | (unfold CMul; omega)
  | (unfold CPow; omega)
  | (rw [sizeLine_eq]; omega)
  | omega)
local macro_rules | `(tactic| walk_at "e") => `(tactic| first
  | ((with_reducible apply i_var); exact rfl)
  | (with_reducible apply i_c)
  | (with_reducible apply i_op)
  | (with_reducible apply i_un)
  | (with_reducible apply i_rI0)
  | ((with_reducible apply i_rI); (case c => walk_at "side"))
  | (with_reducible apply i_rGe)
  | (with_reducible apply i_rGt)
  | (with_reducible apply i_rU)
  | (with_reducible apply i_rEqI)
  | (with_reducible apply i_rNeI)
  | (with_reducible apply i_rEqS)
  | (with_reducible apply i_rNeS)
  | (with_reducible apply i_rEqB)
  | (with_reducible apply i_rNeB)
  | (with_reducible apply i_rIsN)
  | (with_reducible apply i_rNotN)
  | (with_reducible apply i_rInS)
  | (with_reducible apply i_rNotInS)
  | ((with_reducible apply i_catS); (case c => walk_at "side"))
  | (with_reducible apply i_tcb)
  | (with_reducible apply i_nil)
  | (with_reducible apply i_cons)
  | ((with_reducible apply i_lenS); (case c => walk_at "side"))
  | ((with_reducible apply i_lenL); assumption)
  | (with_reducible apply i_abs)
  | (with_reducible apply i_max2)
  | (with_reducible apply i_min2)
  | ((with_reducible apply i_strI); (case c => walk_at "side"))
  | (with_reducible apply i_intB)
  | (with_reducible apply i_test)
  | (with_reducible apply i_tB)
  | (with_reducible apply i_kB)
  | (with_reducible apply i_and)
  | (with_reducible apply i_or)
  | (with_reducible apply i_not)
  | (with_reducible apply i_if)
  | (with_reducible apply i_andV)
  | (with_reducible apply i_orV)
  | (with_reducible apply i_notV)
  | (with_reducible apply i_kAndV)
  | (with_reducible apply i_kOrV)
  | (with_reducible apply i_kNotV)
  | (with_reducible apply i_chain)
  | (with_reducible apply i_kChain)
  | (with_reducible apply i_drop)
  | (with_reducible apply i_ret)
  | (with_reducible apply i_retN)
  | (with_reducible apply i_ifS)
  | (with_reducible apply i_asg)
  | (with_reducible apply i_gName)
  | (with_reducible apply i_for)
  | (with_reducible apply i_lc)
  | (with_reducible apply i_iList)
  | (with_reducible apply i_iTup)
  | (with_reducible apply i_iStr)
  | (with_reducible apply i_kStrI)
  | (with_reducible apply i_lst)
  | (with_reducible apply i_tup)
  | (with_reducible apply i_call)
  | (with_reducible apply i_m1)
  | (with_reducible apply i_kStr)
  | (with_reducible apply i_bm)
  | (with_reducible apply i_bm0)
  | (with_reducible apply i_part)
  | (with_reducible apply i_kInt)
  | (with_reducible apply i_noPart)
  | (with_reducible apply i_sl)
  | (with_reducible apply i_range1)
  | (with_reducible apply i_range2)
  | ((with_reducible apply i_kRng1); (case c => walk_at "side"))
  | ((with_reducible apply i_kRng2); (case c => walk_at "side"))
  | (with_reducible apply i_gCons)
  | (with_reducible apply i_gNil)
  | (with_reducible apply i_gSub)
  | (with_reducible apply i_iZip)
  | (with_reducible apply i_yes)
  | (with_reducible apply i_ift)
  | (with_reducible apply i_iff)
  | (with_reducible apply i_nb))
local macro_rules | `(tactic| walk_at "go") => `(tactic| repeat (first | (with_reducible apply i_seq) | (with_reducible apply i_next) | walk_at "e"))
local macro_rules | `(tactic| walk_at "ge") => `(tactic| repeat walk_at "e")
local macro_rules | `(tactic| walk_at "sz") => `(tactic| first | decide | (rw [sizeLine_eq]; simp; done) | (rw [sizeLine_eq]; omega))
local macro_rules | `(tactic| walk_at "side") => `(tactic| (with_reducible exact WB.most_pos))
local macro_rules | `(tactic| walk_at "e") => `(tactic| first
  | ((with_reducible apply i_isT (b := true)); exact rfl)
  | ((with_reducible apply i_isT (b := false)); exact rfl)
  | (with_reducible apply i_fld)
  | ((with_reducible apply i_kFld); (case h => assumption); (case c1 => assumption); (case c2 => assumption); (case e => first | exact lk_number | exact lk_tail | exact lk_head | exact lk_load | exact lk_oneway | exact lk_points | exact lk_ties | exact lk_given))
  | (with_reducible apply i_sfld)
  | ((with_reducible apply i_kSFld); (case h => first | assumption | exact upd_same); (case c1 => assumption); (case c2 => assumption); (case e => exact Nat.le_of_ble_eq_true rfl))
  | (with_reducible apply i_methC)
  | (with_reducible apply i_make)
  | (with_reducible apply i_fldaug)
  | (with_reducible apply i_vals)
  | (with_reducible apply i_items)
  | (with_reducible apply i_dget)
  | (with_reducible apply i_dput)
  | (with_reducible apply i_din)
  | (with_reducible apply i_dnotin)
  | (with_reducible apply i_ddel)
  | (with_reducible apply i_dc)
  | (with_reducible apply i_enum))
section
variable {P : Program} {w : World} {K : PySem.W.Frag} {mg : Str → Option Value} {base : Heap}
theorem SqL.move {K : PySem.W.Frag} {H H' : Hp} {a : Addr} {xs : List V} (h : SqL K H a xs) (c : ∀ o, H a = some o → H' a = some o) : SqL K H' a xs := by
  rcases h with (h | ⟨ob, h⟩) | h
  · exact .inl (.inl (c _ h))
  · exact .inl (.inr ⟨ob, c _ h⟩)
  · exact .inr h
theorem SqL.same {K : PySem.W.Frag} {H H' : Hp} {a : Addr} {xs : List V} (h : SqL K H a xs) (m : Same H H') : SqL K H' a xs := SqL.move h fun o e => m _ _ e
theorem SqL.keep {K : PySem.W.Frag} {H H' : Hp} {a p l d : Addr} {w : Wb} {xs : List V} (h : SqL K H a xs) (hw : WebAt K H p l d w) (k : Keep H H' p l d) (n : a ≠ l) : SqL K H' a xs := by
  obtain ⟨dx, ep⟩ := hw.self
  obtain ⟨kvs, ed, _⟩ := hw.ties
  have off : ∀ {o : HO}, H a = some o → (o = .lst xs ∨ ∃ ob, o = .frz ob (.lst xs)) → H' a = some o := fun {o} e c => by
    refine k a o ?_ n ?_ e
    · rintro rfl
      rw [ep] at e
      cases e
      rcases c with c | ⟨_, c⟩ <;> cases c
    · rintro rfl
      rw [ed] at e
      cases e
      rcases c with c | ⟨_, c⟩ <;> cases c
  rcases h with (h | ⟨ob, h⟩) | h
  · exact .inl (.inl (off h (.inl rfl)))
  · exact .inl (.inr ⟨ob, off h (.inr ⟨ob, rfl⟩)⟩)
  · exact .inr h
theorem cell_at {ns : List Int} {k : Int} (h0 : 0 ≤ k) (h : 0 < (ns.length : Int)) : ∃ v : Int, atI (ns.map V.int) (k % (ns.length : Int)) = some (.int v) := by
  have h1 : 0 ≤ k % (ns.length : Int) := Int.emod_nonneg _ (by omega)
  have h2 : k % (ns.length : Int) < (ns.length : Int) := Int.emod_lt_of_pos _ h
  obtain ⟨j, e⟩ := Int.eq_ofNat_of_zero_le h1
  rw [e]
  have hj : j < ns.length := by omega
  exact ⟨ns[j], atI_nat (by rw [List.getElem?_map, List.getElem?_eq_getElem hj]; rfl)⟩
def sp_number (K : PySem.W.Frag) : Sp := fun vs H Q _ => ∃ (a : Addr) (ns : List Int) (k : Int), vs = [.ref a, .int k] ∧ 0 ≤ k ∧ k ≤ 1000 ∧ SqL K H a (ns.map V.int) ∧ ns.length ≤ 64 ∧ ∀ n : Int, 0 ≤ n → n < 2147483629 → Q (.int n) H
theorem ok_law_number (T : Tx K mg) : FnOk P w K mg base CX0 1 (He.ga K "_law_number") T.fd_law_number ["_law_script", "_law_k"] (sp_number K) := by
  refine T.F_law_number.ok sc_law_number (fun vs H Q E h => ?_) (fun cdv A outer s H vs Q E hr h => ?_)
  · obtain ⟨a, ns, k, rfl, _⟩ := h
    rfl
  · obtain ⟨a, ns, k, rfl, k0, k1, hS, hl, q⟩ := h
    refine ⟨_, PSs.nox (pss_cons (ps_set (i := 2) sc_law_number.nd rfl (Or.inl rfl) pe_int)
      (C8.pss_cut (ps_if (pt_cmpR op_gt (pe_callB x_lenL (by rfl) T.b_len (by decide +kernel) (pa_cons (pv 0) pa_nil)) pe_int (nomark _)) (pss_one (ps_set (i := 2) sc_law_number.nd rfl (Or.inl rfl) (pe_ix ix_list (pv 0) (pe_op op_mod (pv 1) (pe_callB x_lenL (by rfl) T.b_len (by decide +kernel) (pa_cons (pv 0) pa_nil))) (fun _ _ => rfl)))) pss_nil)
      (pss_cons (ps_set (i := 3) sc_law_number.nd rfl (Or.inl rfl) (pe_op op_add (pv 1) pe_int))
      (pss_one (ps_ret (pe_op op_mod (pe_op op_mul (pe_op op_mod (pe_op op_add (pe_op op_mul (pe_op op_mod (pv 2) pe_int) pe_int) (pe_op op_mul (pe_op op_mul (pv 3) (pv 3)) pe_int)) pe_int) pe_int) pe_int)))))), ?_⟩
    walk_at "go"
    refine ⟨fun σ' H' => H' = H ∧ ∃ c : Int, σ' = [some (.ref a), some (.int k), some (.int c), none], ?_, ?_⟩
    · walk_at "go"
      rw [List.length_map]
      refine i_dec (fun h1 => ?_) (fun h1 => ?_)
      · have hl2 : (ns.map V.int).length = ns.length := List.length_map _
        walk_at "go"
        rw [List.length_map]
        obtain ⟨v, e⟩ := cell_at (ns := ns) k0 h1
        refine i_ixL hS e ?_
        walk_at "go"
        exact ⟨rfl, _, rfl⟩
      · walk_at "go"
        exact ⟨rfl, _, rfl⟩
    · rintro σ' H' ⟨rfl, c, rfl⟩
      walk_at "go"
      refine q _ ?_ ?_ <;> omega
def sp_load (K : PySem.W.Frag) : Sp := fun vs H Q _ => ∃ (a : Addr) (ns : List Int) (k : Int), vs = [.ref a, .int k] ∧ 0 ≤ k ∧ k ≤ 1000 ∧ SqL K H a (ns.map V.int) ∧ ns.length ≤ 64 ∧
  ∀ (n : Int) H', 0 ≤ n → n ≤ most → Same H H' → Q (.int n) H'
theorem pow60 : (10 : Int) ^ (60 : Int).toNat = most := by decide +kernel
theorem most200 : most + 2000000 < 2 ^ 200 := by decide +kernel
theorem pow7 : ((7 : Int) ^ (61 : Int).toNat).natAbs < 2 ^ 172 := by decide +kernel
theorem ok_law_load (T : Tx K mg) : FnOk P w K mg base CX0 2 (He.ga K "_law_load") T.fd_law_load ["_law_script", "_law_k"] (sp_load K) := by
  refine T.F_law_load.ok sc_law_load (fun vs H Q E h => ?_) (fun cdv A outer s H vs Q E hr h => ?_)
  · obtain ⟨a, ns, k, rfl, _⟩ := h
    rfl
  · obtain ⟨a, ns, k, rfl, k0, k1, hS, hl, q⟩ := h
    refine ⟨_, PSs.nox (pss_cons (ps_set (i := 2) sc_law_load.nd rfl (Or.inl rfl) pe_int)
      (C8.pss_cut (ps_if (pt_cmpR op_gt (pe_callB x_lenL (by rfl) T.b_len (by decide +kernel) (pa_cons (pv 0) pa_nil)) pe_int (nomark _)) (pss_one (ps_set (i := 2) sc_law_load.nd rfl (Or.inl rfl) (pe_ix ix_list (pv 0) (pe_op op_mod (pv 1) (pe_callB x_lenL (by rfl) T.b_len (by decide +kernel) (pa_cons (pv 0) pa_nil))) (fun _ _ => rfl)))) pss_nil)
      (pss_cons (ps_set (i := 3) sc_law_load.nd rfl (Or.inl rfl) (pe_op op_mod (pe_op op_mulW (pe_op op_add (pe_op op_add (pe_op op_mod (pv 2) (pe_op op_pow pe_int pe_int)) pe_int) (pe_op op_mul (pv 1) (pv 1))) (pe_op op_pow pe_int pe_int)) (pe_op op_add (pe_op op_pow pe_int pe_int) pe_int)))
      (pss_one (ps_ret (pe_ix ix_list (pe_lst (pa_cons pe_int (pa_cons pe_int (pa_cons (pv 3) (pa_cons (pe_op op_pow pe_int pe_int) (pa_cons (pe_op op_mod (pv 3) pe_int) (pa_cons pe_int pa_nil))))))) (pe_op op_mod (pe_op op_fdiv (pe_call (ok_law_number T) (hr.mono (by decide)) (by rfl) T.g_law_number T.F_law_number.kp T.k_law_number .nil pass0 (pa_cons (pv 0) (pa_cons (pv 1) pa_nil))) pe_int) pe_int) (fun _ _ => rfl))))))), ?_⟩
    walk_at "go"
    refine ⟨fun σ' H' => H' = H ∧ ∃ c : Int, σ' = [some (.ref a), some (.int k), some (.int c), none], ?_, ?_⟩
    · walk_at "go"
      rw [List.length_map]
      refine i_dec (fun h1 => ?_) (fun h1 => ?_)
      · have hl2 : (ns.map V.int).length = ns.length := List.length_map _
        walk_at "go"
        rw [List.length_map]
        obtain ⟨v, e⟩ := cell_at (ns := ns) k0 h1
        refine i_ixL hS e ?_
        walk_at "go"
        exact ⟨rfl, _, rfl⟩
      · walk_at "go"
        exact ⟨rfl, _, rfl⟩
    · rintro σ' H' ⟨rfl, c, rfl⟩
      have kk : 0 ≤ k * k ∧ k * k ≤ 1000000 := ⟨Int.mul_nonneg k0 k0, by
        have := Int.mul_le_mul k1 k1 k0 (by omega)
        simpa using this⟩
      have m1 := most200
      have m2 : (1 : Int) ≤ most := by decide +kernel
      walk_at "go"
      rw [pow60]
      have z0 : 0 ≤ c % most := Int.emod_nonneg _ (by omega)
      have z1 : c % most < most := Int.emod_lt_of_pos _ (by omega)
      refine i_rI ?_ (wide_mul (a := 200) (b := 172) (by
        have e : (2 : Int) ^ 200 = ((2 ^ 200 : Nat) : Int) := by decide +kernel
        rw [e] at m1
        generalize (2 ^ 200 : Nat) = B at m1 ⊢
        omega) pow7 (by decide) (by decide) (by decide))
      generalize (c % most + 1 + k * k) * 7 ^ (61 : Int).toNat = z
      clear m1
      walk_at "go"
      rw [pow60]
      have g0 : 0 ≤ z % (most + 1) := Int.emod_nonneg _ (by omega)
      have g1 : z % (most + 1) < most + 1 := Int.emod_lt_of_pos _ (by omega)
      generalize z % (most + 1) = gr at g0 g1
      walk_at "go"
      refine ⟨by walk_at "sz", fun p hp => ?_⟩
      walk_at "go"
      refine ⟨a, ns, k, rfl, k0, k1, SqL.move hS fun o e => (upd_ne (ne_of_none e hp)).trans e, hl, fun n n0 n1 => ?_⟩
      walk_at "go"
      have hi : n / 31 % 6 = 0 ∨ n / 31 % 6 = 1 ∨ n / 31 % 6 = 2 ∨ n / 31 % 6 = 3 ∨ n / 31 % 6 = 4 ∨ n / 31 % 6 = 5 := by omega
      have s1 : ∀ o, Same H' (upd H' p o) := fun o => Same.new hp
      rcases hi with hi | hi | hi | hi | hi | hi <;> rw [hi]
      · exact i_ixL (SqL.of upd_same) rfl (q _ _ (by omega) (by omega) (s1 _))
      · exact i_ixL (SqL.of upd_same) rfl (q _ _ (by omega) (by omega) (s1 _))
      · exact i_ixL (SqL.of upd_same) rfl (q _ _ g0 (by omega) (s1 _))
      · exact i_ixL (SqL.of upd_same) rfl (q _ _ (by omega) (by omega) (s1 _))
      · exact i_ixL (SqL.of upd_same) rfl (q _ _ (by omega) (by omega) (s1 _))
      · exact i_ixL (SqL.of upd_same) rfl (q _ _ (by omega) (by omega) (s1 _))
def sp_web (K : PySem.W.Frag) : Sp := fun vs H Q _ => ∃ (a : Addr) (ps : List Str), vs = [.ref a] ∧ H a = some (.lst (ps.map V.str)) ∧ ps.Nodup ∧ (∀ x ∈ ps, isNm x = true) ∧ ps.length ≤ 16 ∧
  ∀ p l d H', Same H H' → H p = none → H l = none → H d = none → WebAt K H' p l d ⟨ps, [], 0⟩ → Q (.ref p) H'
theorem ok_law_web (T : Tx K mg) : FnOk P w K mg base CX0 6 (He.ga K "_law_web") T.fd_law_web ["_law_names_here"] (sp_web K) := by
  refine T.F_law_web.ok sc_law_web (fun vs H Q E h => ?_) (fun cdv A outer s H vs Q E hr h => ?_)
  · obtain ⟨_, _, rfl, _⟩ := h
    rfl
  · obtain ⟨a, ps, rfl, ha, nd, nm, l16, q⟩ := h
    refine ⟨_, PSs.nox (pss_cons (ps_set (i := 1) sc_law_web.nd rfl (Or.inl rfl) (pe_make0 T.mk_Web (ok_Web_init T) (hr.mono (by decide)) (by rfl) T.g_Web T.k_Web_init .nil pass0))
      (pss_cons (ps_for PassesOwn.never rfl (pi_list (pv 0)) (pg_name (i := 2) sc_law_web.nd rfl (Or.inl rfl))
      (pss_one (ps_expr (pe_meth (pv 1) T.cl_Web T.m_Web_put_point (ok_Web_put_point T) (hr.mono (by decide)) T.k_Web_put_point .nil pass0 (pa_cons (pv 2) pa_nil)))))
      (pss_one (ps_ret (pv 1))))), ?_⟩
    walk_at "go"
    intro x dx hx hdx hne
    refine ⟨x, dx, rfl, upd_same, fun l d hl0 hd0 n0 => ⟨rfl, ?_⟩⟩
    have s1 : Same H (upd (upd H dx (.own x)) x (.ins (He.ga K "Web") dx [])) := Same.mut (Same.new hdx) hx
    have s2 : Same H (upd (upd (upd (upd (upd H dx (.own x)) x (.ins (He.ga K "Web") dx [])) l (.lst [])) d (.dK [])) x (.ins (He.ga K "Web") dx (webFs l d 0))) := Same.mut (Same.mut (Same.mut s1 (s1.free hl0)) (s1.free hd0)) hx
    have b0 : WebAt K (upd (upd (upd (upd (upd H dx (.own x)) x (.ins (He.ga K "Web") dx [])) l (.lst [])) d (.dK [])) x (.ins (He.ga K "Web") dx (webFs l d 0))) x l d wb0 := by
      have nl : l ≠ x := fun e => by rw [e, upd_same] at hl0; cases hl0
      have nd : d ≠ x := fun e => by rw [e, upd_same] at hd0; cases hd0
      exact ⟨⟨dx, upd_same⟩, (upd_ne nl).trans ((upd_ne n0).trans upd_same), ⟨[], (upd_ne nd).trans upd_same, .nil⟩⟩
    have fl := s1.free hl0
    have fd := s1.free hd0
    generalize upd (upd (upd (upd (upd H dx (.own x)) x (.ins (He.ga K "Web") dx [])) l (.lst [])) d (.dK [])) x (.ins (He.ga K "Web") dx (webFs l d 0)) = H1 at s2 b0 ⊢
    have ha1 := s2 _ _ ha
    obtain ⟨na1, na2, na3⟩ : a ≠ x ∧ a ≠ l ∧ a ≠ d := ⟨fun e => (by rw [← e, ha] at hx; cases hx), fun e => (by rw [← e, ha] at fl; cases fl), fun e => (by rw [← e, ha] at fd; cases fd)⟩
    walk_at "go"
    refine i_kListI (SqL.of ha1) ?_
    refine for_it walk_list (fun i σ H' => WebAt K H' x l d ⟨ps.take i, [], 0⟩ ∧ Keep H1 H' x l d ∧ ∃ v, σ = [some (.ref a), some (.ref x), v])
      ⟨b0, Keep.rfl, none, rfl⟩ (fun i σ H' _ h => SqL.of (h.2.1 _ _ na1 na2 na3 ha1)) ?_ ?_
    · rintro i v σ H2 H3 hi ⟨b2, k2, v0, rfl⟩ ⟨rfl, hv⟩
      rw [List.length_map] at hi
      rw [List.getElem?_map, List.getElem?_eq_getElem hi] at hv
      cases hv
      have hni : ¬ ps[i] ∈ ps.take i := by
        intro m
        obtain ⟨k, hk, ek⟩ := List.mem_take_iff_getElem.mp m
        have := (List.getElem_inj nd (h₀ := by omega) (h₁ := hi)).mp ek
        omega
      have tk : ps.take (i + 1) = ps.take i ++ [ps[i]] := by rw [List.take_add_one, List.getElem?_eq_getElem hi]; rfl
      have hn := nm _ (List.getElem_mem hi)
      obtain ⟨dx2, ep2⟩ := b2.self
      walk_at "go"
      refine i_kMethC ep2 rfl ?_
      walk_at "go"
      refine ⟨x, l, d, _, _, rfl, b2, hni, hn, by show (ps.take i).length < 16; rw [List.length_take]; omega, fun H4 b4 k4 => ?_⟩
      refine ⟨?_, k2.trans k4 (.inl rfl), _, rfl⟩
      rw [tk]; exact b4
    · rintro σ H2 ⟨b2, k2, v0, rfl⟩
      rw [List.length_map, List.take_length] at b2
      walk_at "go"
      exact q x l d H2 (fun b o e => k2 b o (ne_of_none e hx) (ne_of_none e fl) (ne_of_none e fd) (s2 b o e)) hx fl fd b2
end
end K18

set_option Elab.async false
set_option linter.all false
set_option maxRecDepth 100000
set_option maxHeartbeats 4000000
namespace K18
open PySem PySem.Spec PyProof.Rows L2 HX WB
open TL (tl)
local macro_rules | `(tactic| walk_at "side") => `(tactic| first
  | assumption
  | rfl
  | (show (0 : Int) < _; omega)
  | (unfold CDiv; omega)
  | (unfold CMul; omega)
  | (unfold CPow; omega)
  | (rw [sizeLine_eq]; omega)
  | omega)
local macro_rules | `(tactic| walk_at "e") => `(tactic| first
  | ((with_reducible apply i_var); exact rfl)
  | (with_reducible apply i_c)
  | (with_reducible apply i_op)
  | (with_reducible apply i_un)
  | (with_reducible apply i_rI0)
  | ((with_reducible apply i_rI); (case c => walk_at "side"))
  | (with_reducible apply i_rGe)
  | (with_reducible apply i_rGt)
  | (with_reducible apply i_rU)
  | (with_reducible apply i_rEqI)
  | (with_reducible apply i_rNeI)
  | (with_reducible apply i_rEqS)
  | (with_reducible apply i_rNeS)
  | (with_reducible apply i_rEqB)
  | (with_reducible apply i_rNeB)
  | (with_reducible apply i_rIsN)
  | (with_reducible apply i_rNotN)
  | (with_reducible apply i_rInS)
  | (with_reducible apply i_rNotInS)
  | ((with_reducible apply i_catS); (case c => walk_at "side"))
  | (with_reducible apply i_tcb)
  | (with_reducible apply i_nil)
  | (with_reducible apply i_cons)
  | ((with_reducible apply i_lenS); (case c => walk_at "side"))
  | ((with_reducible apply i_lenL); assumption)
  | (with_reducible apply i_abs)
  | (with_reducible apply i_max2)
  | (with_reducible apply i_min2)
  | ((with_reducible apply i_strI); (case c => walk_at "side"))
  | (with_reducible apply i_intB)
  | (with_reducible apply i_test)
  | (with_reducible apply i_tB)
  | (with_reducible apply i_kB)
  | (with_reducible apply i_and)
  | (with_reducible apply i_or)
  | (with_reducible apply i_not)
  | (with_reducible apply i_if)
  | (with_reducible apply i_andV)
  | (with_reducible apply i_orV)
  | (with_reducible apply i_notV)
  | (with_reducible apply i_kAndV)
  | (with_reducible apply i_kOrV)
  | (with_reducible apply i_kNotV)
  | (with_reducible apply i_chain)
  | (with_reducible apply i_kChain)
  | (with_reducible apply i_drop)
  | (with_reducible apply i_ret)
  | (with_reducible apply i_retN)
  | (with_reducible apply i_ifS)
  | (with_reducible apply i_asg)
  | (with_reducible apply i_gName)
  | (with_reducible apply i_for)
  | (with_reducible apply i_lc)
  | (with_reducible apply i_iList)
  | (with_reducible apply i_iTup)
  | (with_reducible apply i_iStr)
  | (with_reducible apply i_kStrI)
  | (with_reducible apply i_lst)
  | (with_reducible apply i_tup)
  | (with_reducible apply i_call)
  | (with_reducible apply i_m1)
  | (with_reducible apply i_kStr)
  | (with_reducible apply i_bm)
  | (with_reducible apply i_bm0)
  | (with_reducible apply i_part)
  | (with_reducible apply i_kInt)
  | (with_reducible apply i_noPart)
  | (with_reducible apply i_sl)
  | (with_reducible apply i_range1)
  | (with_reducible apply i_range2)
  | ((with_reducible apply i_kRng1); (case c => walk_at "side"))
  | ((with_reducible apply i_kRng2); (case c => walk_at "side"))
  | (with_reducible apply i_gCons)
  | (with_reducible apply i_gNil)
  | (with_reducible apply i_gSub)
  | (with_reducible apply i_iZip)
  | (with_reducible apply i_yes)
  | (with_reducible apply i_ift)
  | (with_reducible apply i_iff)
  | (with_reducible apply i_nb))
local macro_rules | `(tactic| walk_at "go") => `(tactic| repeat (first | (with_reducible apply i_seq) | (with_reducible apply i_next) | walk_at "e"))
local macro_rules | `(tactic| walk_at "ge") => `(tactic| repeat walk_at "e")
local macro_rules | `(tactic| walk_at "sz") => `(tactic| first | decide | (rw [sizeLine_eq]; simp; done) | (rw [sizeLine_eq]; omega))
local macro_rules | `(tactic| walk_at "side") => `(tactic| (with_reducible exact WB.most_pos))
local macro_rules | `(tactic| walk_at "e") => `(tactic| first
  | ((with_reducible apply i_isT (b := true)); exact rfl)
  | ((with_reducible apply i_isT (b := false)); exact rfl)
  | (with_reducible apply i_fld)
  | ((with_reducible apply i_kFld); (case h => assumption); (case c1 => assumption); (case c2 => assumption); (case e => first | exact lk_number | exact lk_tail | exact lk_head | exact lk_load | exact lk_oneway | exact lk_points | exact lk_ties | exact lk_given))
  | (with_reducible apply i_sfld)
  | ((with_reducible apply i_kSFld); (case h => first | assumption | exact upd_same); (case c1 => assumption); (case c2 => assumption); (case e => exact Nat.le_of_ble_eq_true rfl))
  | (with_reducible apply i_methC)
  | (with_reducible apply i_make)
  | (with_reducible apply i_fldaug)
  | (with_reducible apply i_vals)
  | (with_reducible apply i_items)
  | (with_reducible apply i_dget)
  | (with_reducible apply i_dput)
  | (with_reducible apply i_din)
  | (with_reducible apply i_dnotin)
  | (with_reducible apply i_ddel)
  | (with_reducible apply i_dc)
  | (with_reducible apply i_enum))
local macro_rules | `(tactic| walk_at "e") => `(tactic| first | (with_reducible apply i_m1) | (with_reducible apply i_kStr))
abbrev sg (c : Nat) : Str := ⟨#[c]⟩
/-- all signs are letters up to w -/
def Low (z : Str) : Prop := ∀ c ∈ tl z, 97 ≤ c ∧ c ≤ 119
/-- a name without y and z -/
def Old (z : Str) : Prop := isNm z = true ∧ ∀ c ∈ tl z, c ≤ 120
theorem nm_of {z : Str} (h : Low z) (l1 : 1 ≤ z.length) (l2 : z.length ≤ 12) : Old z := by
  refine ⟨?_, fun c hc => by have := h c hc; omega⟩
  unfold isNm
  simp only [Bool.and_eq_true, decide_eq_true_eq, List.all_eq_true]
  exact ⟨⟨l1, l2⟩, fun c hc => by have := h c hc; omega⟩
theorem low_app {x y : Str} (h : Low x) (g : Low y) : Low (x ++ y) := fun c hc => by
  rw [TL.tl_append] at hc
  exact (List.mem_append.mp hc).elim (h c) (g c)
theorem low_sg {c : Nat} (h : 97 ≤ c ∧ c ≤ 119) : Low (sg c) := fun d hd => by
  have : d = c := by simpa [tl] using hd
  rw [this]; exact h
theorem tl_cut (z : Str) (lo hi : Option Int) : tl (cutS z lo hi) = (((tl z).drop (HT.sIx z.length 0 lo)).take (HT.sIx z.length z.length hi - HT.sIx z.length 0 lo)) := rfl
theorem low_cut {z : Str} (h : Low z) (lo hi : Option Int) : Low (cutS z lo hi) := fun c hc => by
  rw [tl_cut] at hc
  exact h c (List.mem_of_mem_drop (List.mem_of_mem_take hc))
theorem len_tl' (z : Str) : z.length = (tl z).length := rfl
theorem tl_join0 (cs : List Nat) : tl (Txt.join "" (cs.map sg)) = cs := by
  rw [TL.join_eq, TL.tl_join]
  have e : tl ("" : Str) = [] := by decide +kernel
  rw [e, TX.joinL_nil, List.map_map]
  induction cs with
  | nil => rfl
  | cons c r ih => simp only [List.map_cons, List.flatten_cons, ih]; rfl
theorem sIx_pos {n d : Nat} {k : Int} (h : 0 ≤ k) : HT.sIx n d (some k) = min k.toNat n := by
  show (if k < 0 then (k + (n : Int)).toNat else min k.toNat n) = _
  rw [if_neg (by omega)]
theorem lettersW : ("abcdefghijklmnopqrstuvw" : Str).cps.toList = List.range' 97 23 := by decide +kernel
theorem letter_at {j : Int} (h0 : 0 ≤ j) (h1 : j < 23) : atI ("abcdefghijklmnopqrstuvw" : Str).cps.toList j = some (97 + j.toNat) := by
  rw [lettersW]
  obtain ⟨k, rfl⟩ := Int.eq_ofNat_of_zero_le h0
  refine atI_nat ?_
  rw [List.getElem?_range' (by omega)]
  simp
theorem letters_len : ("abcdefghijklmnopqrstuvw" : Str).length ≤ sizeLine := by
  rw [sizeLine_eq]; decide +kernel
/-- the sign put in -/
def sc (n : Int) (j : Nat) : Nat := 97 + ((n / 2000 + 5 * (0 + (j : Int))) % 23).toNat
def nmj (n : Int) (A C : Str) (j : Nat) : Str := A ++ sg (sc n j) ++ C
theorem nmj_inj {n : Int} {A C : Str} {i j : Nat} (hi : i < 16) (hj : j < 16) (e : nmj n A C i = nmj n A C j) : i = j := by
  have e1 := congrArg tl e
  unfold nmj at e1
  rw [TL.tl_append, TL.tl_append, TL.tl_append, TL.tl_append] at e1
  have e2 := List.append_cancel_left (List.append_cancel_right e1)
  have e3 : sc n i = sc n j := by
    have : [sc n i] = [sc n j] := e2
    exact (List.cons.inj this).1
  unfold sc at e3
  omega
theorem names_nd {n : Int} {A C : Str} {m : Nat} (hm : m ≤ 16) : ((List.range m).map (nmj n A C)).Nodup := by
  refine List.pairwise_map.mpr ?_
  refine (List.pairwise_lt_range (n := m)).imp_of_mem fun {a b} ha hb hab e => ?_
  have h1 := List.mem_range.mp ha
  have h2 := List.mem_range.mp hb
  have := nmj_inj (by omega) (by omega) e
  omega
/-- the first signs of a text -/
def pre (B : Str) (j : Nat) : Str := cutS B none (some (0 + (j : Int) + 1))
theorem pre_len {B : Str} (hB : B.length = 12) {j : Nat} (h : j < 12) : (pre B j).length = j + 1 := by
  unfold pre
  rw [len_tl', tl_cut, sIx_pos (by omega)]
  show (((tl B).drop 0).take (min (0 + (j : Int) + 1).toNat B.length - 0)).length = _
  rw [List.length_take, List.drop_zero, hB]
  have : (tl B).length = 12 := hB
  omega
theorem pres_nd {B : Str} (hB : B.length = 12) {m : Nat} (hm : m ≤ 12) : ((List.range m).map (pre B)).Nodup := by
  refine List.pairwise_map.mpr ?_
  refine (List.pairwise_lt_range (n := m)).imp_of_mem fun {a b} ha hb hab e => ?_
  have h1 := List.mem_range.mp ha
  have h2 := List.mem_range.mp hb
  have := congrArg Str.length e
  rw [pre_len hB (by omega), pre_len hB (by omega)] at this
  omega
section
variable {P : Program} {w : World} {K : PySem.W.Frag} {mg : Str → Option Value} {base : Heap}
def sp_names : Sp := fun vs H Q _ => ∃ (n m : Int), vs = [.int n, .int m] ∧ 0 ≤ n ∧ 2 ≤ m ∧ m ≤ 16 ∧ ∀ a ps H', Same H H' → H a = none → H' a = some (.lst ((ps : List Str).map V.str)) → ps.Nodup → ps.length = m.toNat → (∀ x ∈ ps, Old x) → Q (.ref a) H'
theorem ok_law_names (T : Tx K mg) : FnOk P w K mg base CX0 1 (He.ga K "_law_names") T.fd_law_names ["_law_number_here", "_law_many"] sp_names := by
  refine T.F_law_names.ok sc_law_names (fun vs H Q E h => ?_) (fun cdv A outer s H vs Q E hr h => ?_)
  · obtain ⟨_, _, rfl, _⟩ := h
    rfl
  · obtain ⟨n, m, rfl, n0, m0, m1, q⟩ := h
    refine ⟨_, PSs.nox (pss_cons (ps_set (i := 2) sc_law_names.nd rfl (Or.inr rfl) pe_str)
      (pss_cons (ps_set (i := 3) sc_law_names.nd rfl (Or.inr rfl) (pe_op op_add pe_int (pe_op op_mod (pv 0) pe_int)))
      (pss_cons (ps_set (i := 4) sc_law_names.nd rfl (Or.inr rfl) (x_join pe_str (pe_lc (own := [("_law_j", 8)]) (by rfl) sc_law_names.nd (pi_range1 rfl T.b_range (pa_cons pe_int pa_nil)) (blkOk_by (own := [("_law_j", 8)]) (N := N_law_names) (sc := defScope s_law_names) (by decide +kernel)) (fun _ _ _ _ _ => (pg_name (i := 8) sc_law_names.nd rfl (Or.inl rfl))) (fun _ _ _ _ _ => pts_nil) (fun _ _ _ _ _ => (pe_ix ix_str (pv 2) (pe_op op_mod (pe_op op_add (pe_op op_fdiv (pv 0) pe_int) (pe_op op_mul (pv 3) (pv 8))) pe_int) (fun _ _ => rfl))))))
      (C8.pss_cut (ps_if (PW.pt (pw_and (pt_cmpR op_eq (pe_op op_mod (pe_op op_fdiv (pv 0) pe_int) pe_int) pe_int (nomark _)) (pw_and1 (pt_cmpR op_lt (pv 1) pe_int (nomark _))))) (pss_one (ps_ret (pe_lc (own := [("_law_k", 9)]) (by rfl) sc_law_names.nd (pi_range1 rfl T.b_range (pa_cons (pv 1) pa_nil)) (blkOk_by (own := [("_law_k", 9)]) (N := N_law_names) (sc := defScope s_law_names) (by decide +kernel)) (fun _ _ _ _ _ => (pg_name (i := 9) sc_law_names.nd rfl (Or.inl rfl))) (fun _ _ _ _ _ => pts_nil) (fun _ _ _ _ _ => (pe_slice sl_str (pv 4) po_none (po_some (pe_op op_add (pv 9) pe_int))))))) pss_nil)
      (pss_cons (ps_set (i := 5) sc_law_names.nd rfl (Or.inr rfl) (pe_slice sl_str (pv 4) po_none (po_some (pe_op op_mod (pv 0) pe_int))))
      (pss_cons (ps_set (i := 6) sc_law_names.nd rfl (Or.inr rfl) (pe_op op_mod (pe_op op_fdiv (pv 0) pe_int) (pe_op op_add (pe_callB x_lenS (by rfl) T.b_len (by decide +kernel) (pa_cons (pv 5) pa_nil)) pe_int)))
      (pss_cons (ps_setLc (i := 7) (own := [("_law_k", 9)]) (by rfl) sc_law_names.nd rfl rfl (sw_true rfl rfl rfl (by decide +kernel)) (pi_range1 rfl T.b_range (pa_cons (pv 1) pa_nil)) (blkOk_by (own := [("_law_k", 9)]) (N := N_law_names) (sc := defScope s_law_names) (by decide +kernel)) (fun _ _ _ _ _ => (pg_name (i := 9) sc_law_names.nd rfl (Or.inl rfl))) (fun _ _ _ _ _ => pts_nil) (fun _ _ _ _ _ => (pe_ix ix_str (pv 2) (pe_op op_mod (pe_op op_add (pe_op op_fdiv (pv 0) pe_int) (pe_op op_mul pe_int (pv 9))) pe_int) (fun _ _ => rfl))))
      (pss_one (ps_ret (pe_lc (own := [("_law_sign", 10)]) (by rfl) sc_law_names.nd (pi_list (pv 7)) (blkOk_by (own := [("_law_sign", 10)]) (N := N_law_names) (sc := defScope s_law_names) (by decide +kernel)) (fun _ _ _ _ _ => (pg_name (i := 10) sc_law_names.nd rfl (Or.inl rfl))) (fun _ _ _ _ _ => pts_nil) (fun _ _ _ _ _ => (pe_op x_catS (pe_op x_catS (pe_slice sl_str (pv 5) po_none (po_some (pv 6))) (pv 10)) (pe_slice sl_str (pv 5) (po_some (pv 6)) po_none))))))))))))), ?_⟩
    walk_at "go"
    intro D hD
    refine lc_it walk_range (fun i H' => Same H H' ∧ ∃ cs : List Nat, H' D = some (.lst ((cs.map sg).map V.str)) ∧ cs.length = i ∧ ∀ c ∈ cs, 97 ≤ c ∧ c ≤ 119)
      ⟨Same.new hD, [], upd_same, rfl, by simp⟩ (fun _ _ _ _ => trivial) ?_ ?_
    · rintro i v H2 H3 hi ⟨s2, cs, eD, hl, hc⟩ ⟨rfl, rfl⟩
      have hi12 : i < 12 := hi
      walk_at "go"
      refine ⟨rfl, ?_⟩
      walk_at "go"
      generalize (n / 7 + (3 + n % 5) * (0 + (i : Int))) = z
      have hz0 : 0 ≤ z % 23 := by omega
      have hz1 : z % 23 < 23 := by omega
      refine i_ixS ?_ letters_len (letter_at hz0 hz1)
      refine ⟨_, eD, ?_, Same.mut s2 hD, cs ++ [97 + (z % 23).toNat], ?_, by simp [hl], ?_⟩
      · rw [List.length_map, List.length_map, sizeLine_eq]; omega
      · rw [upd_same, List.map_append, List.map_append]; rfl
      · intro d hd
        rcases List.mem_append.mp hd with h | h
        · exact hc d h
        · rw [List.mem_singleton.mp h]; omega
    · rintro H1 ⟨s1, cs, eD, hl, hc⟩
      have hl12 : cs.length = 12 := hl
      refine i_join (SqL.of eD) ?_ ?_
      · rw [List.length_map, hl12]
        have : ((cs.map sg).map fun x => x.length).sum = cs.length := by
          rw [List.map_map]
          have e : ((fun x : Str => x.length) ∘ sg) = fun _ => 1 := rfl
          rw [e, List.map_const', List.sum_replicate_nat]; omega
        rw [this, hl12]
        decide +kernel
      have hBt := tl_join0 cs
      have hBl : (Txt.join "" (cs.map sg)).length = 12 := by rw [len_tl', hBt]; exact hl12
      have hB : Low (Txt.join "" (cs.map sg)) := fun d hd => hc d (by rwa [hBt] at hd)
      generalize Txt.join "" (cs.map sg) = B at hBl hB
      walk_at "go"
      refine ⟨fun σ' H' => H' = H1 ∧ σ' = [some (.int n), some (.int m), some (.str "abcdefghijklmnopqrstuvw"), some (.int (3 + n % 5)), some (.str B), none, none, none, none, none, none], ?_, ?_⟩
      · walk_at "go"
        refine i_dec (fun _ => ?_) (fun _ => ?_)
        · walk_at "go"
          refine i_dec (fun h13 => ?_) (fun _ => ?_)
          · walk_at "go"
            intro D4 hD4
            refine lc_it walk_range (fun i H' => Same H1 H' ∧ H' D4 = some (.lst (((List.range i).map (pre B)).map V.str)))
              ⟨Same.new hD4, by rw [upd_same]; rfl⟩ (fun _ _ _ _ => trivial) ?_ ?_
            · rintro i v H4 H5 hi ⟨s4, eD4⟩ ⟨rfl, rfl⟩
              have hi12 : i < m.toNat := by simpa using hi
              walk_at "go"
              refine ⟨rfl, ?_⟩
              walk_at "go"
              refine i_slS (by rw [hBl, sizeLine_eq]; decide) ?_
              refine ⟨_, eD4, ?_, Same.mut s4 hD4, ?_⟩
              · rw [List.length_map, List.length_map, List.length_range, sizeLine_eq]; omega
              · rw [upd_same, List.range_succ, List.map_append, List.map_append]; rfl
            · rintro H4 ⟨s4, eD4⟩
              have e : (m - 0).toNat = m.toNat := by rw [Int.sub_zero]
              walk_at "go"
              refine q D4 ((List.range m.toNat).map (pre B)) H4 (s1.trans s4) (s1.free hD4) ?_ (pres_nd hBl (by omega)) (by simp) (fun x hx => ?_)
              · first | exact eD4 | (rw [← e]; exact eD4)
              · obtain ⟨j, hj, rfl⟩ := List.mem_map.mp hx
                have hj2 := List.mem_range.mp hj
                have := pre_len hBl (j := j) (by omega)
                exact nm_of (low_cut hB _ _) (by omega) (by omega)
          · walk_at "go"
            exact ⟨rfl, rfl⟩
        · walk_at "go"
          exact ⟨rfl, rfl⟩
      rintro _ H1 ⟨rfl, rfl⟩
      walk_at "go"
      refine i_slS (by rw [hBl, sizeLine_eq]; decide) ?_
      have hFl : (cutS B none (some (n % 8))).length ≤ 7 := by
        rw [len_tl', tl_cut, sIx_pos (by omega), List.length_take]
        show min (min (n % 8).toNat B.length - 0) _ ≤ 7
        omega
      have hF := low_cut hB none (some (n % 8))
      generalize cutS B none (some (n % 8)) = F at hFl hF
      walk_at "go"
      have ha0 : 0 ≤ n / 200 % ((F.length : Int) + 1) := Int.emod_nonneg _ (by omega)
      generalize n / 200 % ((F.length : Int) + 1) = at0 at ha0 ⊢
      intro D2 hD2
      refine lc_it walk_range (fun i H' => Same H1 H' ∧ H' D2 = some (.lst (((List.range i).map fun j => sg (sc n j)).map V.str)))
        ⟨Same.new hD2, by rw [upd_same]; rfl⟩ (fun _ _ _ _ => trivial) ?_ ?_
      · rintro i v H2 H3 hi ⟨s2, eD2⟩ ⟨rfl, rfl⟩
        have hi22 : i < m.toNat := by simpa using hi
        walk_at "go"
        refine ⟨rfl, ?_⟩
        walk_at "go"
        refine i_ixS ?_ letters_len (letter_at (by omega) (by omega))
        refine ⟨_, eD2, ?_, Same.mut s2 hD2, ?_⟩
        · rw [List.length_map, List.length_map, List.length_range, sizeLine_eq]; omega
        · rw [upd_same, List.range_succ, List.map_append, List.map_append]; rfl
      · rintro H2 ⟨s2, eD2⟩
        have e : (m - 0).toNat = m.toNat := by rw [Int.sub_zero]
        have eD2 : H2 D2 = some (.lst (((List.range m.toNat).map fun j => sg (sc n j)).map V.str)) := by first | exact eD2 | (rw [← e]; exact eD2)
        walk_at "go"
        refine i_kListI (SqL.of eD2) ?_
        intro D3 hD3
        have hAl : (cutS F none (some at0)).length ≤ F.length := by
          rw [len_tl', tl_cut, List.length_take, List.length_drop]
          have : (tl F).length = F.length := rfl
          omega
        have hCl : (cutS F (some at0) none).length ≤ F.length := by
          rw [len_tl', tl_cut, List.length_take, List.length_drop]
          have : (tl F).length = F.length := rfl
          omega
        have hA := low_cut hF none (some at0)
        have hC := low_cut hF (some at0) none
        have hFs : F.length ≤ sizeLine := by rw [sizeLine_eq]; omega
        refine lc_it walk_list (fun i H' => Same H2 H' ∧ H' D3 = some (.lst (((List.range i).map (nmj n (cutS F none (some at0)) (cutS F (some at0) none))).map V.str)))
          ⟨Same.new hD3, by rw [upd_same]; rfl⟩ (fun i H' _ h => SqL.of (h.1 _ _ eD2)) ?_ ?_
        · rintro i v H4 H5 hi ⟨s4, eD3⟩ ⟨rfl, hv⟩
          rw [List.length_map, List.length_map, List.length_range] at hi
          have hv2 : v = .str (sg (sc n i)) := by
            rw [List.getElem?_map, List.getElem?_map, List.getElem?_range hi] at hv
            cases hv; rfl
          subst hv2
          walk_at "go"
          refine ⟨rfl, ?_⟩
          walk_at "go"
          refine i_slS hFs ?_
          walk_at "go"
          refine i_catS ?_ (by rw [sizeLine_eq]; show (cutS F none (some at0)).length + 1 ≤ _; omega)
          walk_at "go"
          refine i_slS hFs ?_
          refine i_catS ?_ (by rw [sizeLine_eq, TX.len_app]; show (cutS F none (some at0)).length + 1 + (cutS F (some at0) none).length ≤ _; omega)
          refine ⟨_, eD3, ?_, Same.mut s4 hD3, ?_⟩
          · rw [List.length_map, List.length_map, List.length_range, sizeLine_eq]; omega
          · rw [upd_same, List.range_succ, List.map_append, List.map_append]; rfl
        · rintro H3 ⟨s3, eD3⟩
          rw [List.length_map, List.length_map, List.length_range] at eD3
          walk_at "go"
          refine q D3 _ H3 ((s1.trans s2).trans s3) (s1.free (s2.free hD3)) eD3 (names_nd (by omega)) (by simp) (fun x hx => ?_)
          obtain ⟨j, hj, rfl⟩ := List.mem_map.mp hx
          have hj22 := List.mem_range.mp hj
          have hl : (nmj n (cutS F none (some at0)) (cutS F (some at0) none) j).length = (cutS F none (some at0)).length + 1 + (cutS F (some at0) none).length := by
            unfold nmj
            rw [TX.len_app, TX.len_app]; rfl
          have hsum : (cutS F none (some at0)).length + (cutS F (some at0) none).length ≤ F.length := by
            rw [len_tl', len_tl' (cutS F (some at0) none), tl_cut, tl_cut, sIx_pos ha0, sIx_pos ha0]
            show (((tl F).drop 0).take (min at0.toNat F.length - 0)).length + (((tl F).drop (min at0.toNat F.length)).take (F.length - min at0.toNat F.length)).length ≤ F.length
            rw [List.length_take, List.length_take, List.length_drop, List.length_drop]
            have : (tl F).length = F.length := rfl
            omega
          refine nm_of (low_app (low_app hA (low_sg ?_)) hC) (by omega) (by omega)
          unfold sc; omega
end
end K18

set_option Elab.async false
set_option linter.all false
set_option maxRecDepth 100000
set_option maxHeartbeats 4000000
namespace K18
open PySem PySem.Spec PyProof.Rows L2 HX WB
open TL (tl)
local macro_rules | `(tactic| walk_at "side") => `(tactic| first
  | assumption
  | rfl
  | (show (0 : Int) < _; omega)
  | (unfold CDiv; omega)
  | (unfold CMul; omega)
  | (unfold CPow; omega)
  | (rw [sizeLine_eq]; omega)
  | omega)
local macro_rules | `(tactic| walk_at "e") => `(tactic| first
  | ((with_reducible apply i_var); exact rfl)
  | (with_reducible apply i_c)
  | (with_reducible apply i_op)
  | (with_reducible apply i_un)
  | (with_reducible apply i_rI0)
  | ((with_reducible apply i_rI); (case c => walk_at "side"))
  | (with_reducible apply i_rGe)
  | (with_reducible apply i_rGt)
  | (with_reducible apply i_rU)
  | (with_reducible apply i_rEqI)
  | (with_reducible apply i_rNeI)
  | (with_reducible apply i_rEqS)
  | (with_reducible apply i_rNeS)
  | (with_reducible apply i_rEqB)
  | (with_reducible apply i_rNeB)
  | (with_reducible apply i_rIsN)
  | (with_reducible apply i_rNotN)
  | (with_reducible apply i_rInS)
  | (with_reducible apply i_rNotInS)
  | ((with_reducible apply i_catS); (case c => walk_at "side"))
  | (with_reducible apply i_tcb)
  | (with_reducible apply i_nil)
  | (with_reducible apply i_cons)
  | ((with_reducible apply i_lenS); (case c => walk_at "side"))
  | ((with_reducible apply i_lenL); assumption)
  | (with_reducible apply i_abs)
  | (with_reducible apply i_max2)
  | (with_reducible apply i_min2)
  | ((with_reducible apply i_strI); (case c => walk_at "side"))
  | (with_reducible apply i_intB)
  | (with_reducible apply i_test)
  | (with_reducible apply i_tB)
  | (with_reducible apply i_kB)
  | (with_reducible apply i_and)
  | (with_reducible apply i_or)
  | (with_reducible apply i_not)
  | (with_reducible apply i_if)
  | (with_reducible apply i_andV)
  | (with_reducible apply i_orV)
  | (with_reducible apply i_notV)
  | (with_reducible apply i_kAndV)
  | (with_reducible apply i_kOrV)
  | (with_reducible apply i_kNotV)
  | (with_reducible apply i_chain)
  | (with_reducible apply i_kChain)
  | (with_reducible apply i_drop)
  | (with_reducible apply i_ret)
  | (with_reducible apply i_retN)
  | (with_reducible apply i_ifS)
  | (with_reducible apply i_asg)
  | (with_reducible apply i_gName)
  | (with_reducible apply i_for)
  | (with_reducible apply i_lc)
  | (with_reducible apply i_iList)
  | (with_reducible apply i_iTup)
  | (with_reducible apply i_iStr)
  | (with_reducible apply i_kStrI)
  | (with_reducible apply i_lst)
  | (with_reducible apply i_tup)
  | (with_reducible apply i_call)
  | (with_reducible apply i_m1)
  | (with_reducible apply i_kStr)
  | (with_reducible apply i_bm)
  | (with_reducible apply i_bm0)
  | (with_reducible apply i_part)
  | (with_reducible apply i_kInt)
  | (with_reducible apply i_noPart)
  | (with_reducible apply i_sl)
  | (with_reducible apply i_range1)
  | (with_reducible apply i_range2)
  | ((with_reducible apply i_kRng1); (case c => walk_at "side"))
  | ((with_reducible apply i_kRng2); (case c => walk_at "side"))
  | (with_reducible apply i_gCons)
  | (with_reducible apply i_gNil)
  | (with_reducible apply i_gSub)
  | (with_reducible apply i_iZip)
  | (with_reducible apply i_yes)
  | (with_reducible apply i_ift)
  | (with_reducible apply i_iff)
  | (with_reducible apply i_nb))
local macro_rules | `(tactic| walk_at "go") => `(tactic| repeat (first | (with_reducible apply i_seq) | (with_reducible apply i_next) | walk_at "e"))
local macro_rules | `(tactic| walk_at "ge") => `(tactic| repeat walk_at "e")
local macro_rules | `(tactic| walk_at "sz") => `(tactic| first | decide | (rw [sizeLine_eq]; simp; done) | (rw [sizeLine_eq]; omega))
local macro_rules | `(tactic| walk_at "side") => `(tactic| (with_reducible exact WB.most_pos))
local macro_rules | `(tactic| walk_at "e") => `(tactic| first
  | ((with_reducible apply i_isT (b := true)); exact rfl)
  | ((with_reducible apply i_isT (b := false)); exact rfl)
  | (with_reducible apply i_fld)
  | ((with_reducible apply i_kFld); (case h => assumption); (case c1 => assumption); (case c2 => assumption); (case e => first | exact lk_number | exact lk_tail | exact lk_head | exact lk_load | exact lk_oneway | exact lk_points | exact lk_ties | exact lk_given))
  | (with_reducible apply i_sfld)
  | ((with_reducible apply i_kSFld); (case h => first | assumption | exact upd_same); (case c1 => assumption); (case c2 => assumption); (case e => exact Nat.le_of_ble_eq_true rfl))
  | (with_reducible apply i_methC)
  | (with_reducible apply i_make)
  | (with_reducible apply i_fldaug)
  | (with_reducible apply i_vals)
  | (with_reducible apply i_items)
  | (with_reducible apply i_dget)
  | (with_reducible apply i_dput)
  | (with_reducible apply i_din)
  | (with_reducible apply i_dnotin)
  | (with_reducible apply i_ddel)
  | (with_reducible apply i_dc)
  | (with_reducible apply i_enum))
theorem at_mod {α : Type} (f : α → V) {xs : List α} {z m : Int} (hm : m = (xs.length : Int)) (h : 0 < m) : ∃ x i, xs[i]? = some x ∧ z % m = ((i : Nat) : Int) ∧ atI (xs.map f) (z % m) = some (f x) := by
  have h1 : 0 ≤ z % m := Int.emod_nonneg _ (by omega)
  have h2 : z % m < m := Int.emod_lt_of_pos _ h
  obtain ⟨j, e⟩ := Int.eq_ofNat_of_zero_le h1
  have hj : j < xs.length := by omega
  exact ⟨xs[j], j, List.getElem?_eq_getElem hj, e, by rw [e]; exact atI_nat (by rw [List.getElem?_map, List.getElem?_eq_getElem hj]; rfl)⟩
theorem mod_ne {q s m : Int} (h1 : 1 ≤ s) (h2 : s < m) : (q + s) % m ≠ q % m := by
  intro e
  have e2 := Int.emod_eq_emod_iff_emod_sub_eq_zero.mp e
  have e3 : q + s - q = s := by omega
  rw [e3, Int.emod_eq_of_lt (by omega) h2] at e2
  omega
theorem pick_sub {α : Type} (xs : List α) : ∀ (js : List Nat) (m : Nat), js.Pairwise (· < ·) → (∀ j ∈ js, m ≤ j) → (js.filterMap (xs[·]?)).Sublist (xs.drop m)
  | [], m, _, _ => List.nil_sublist _
  | j :: js, m, h, hm => by
    obtain ⟨h1, h2⟩ := List.pairwise_cons.mp h
    have hj := hm j (List.mem_cons_self ..)
    have ih := pick_sub xs js (j + 1) h2 (fun i hi => h1 i hi)
    have up : (xs.drop j).Sublist (xs.drop m) := List.drop_sublist_drop_left _ hj
    rw [List.filterMap_cons]
    rcases Nat.lt_or_ge j xs.length with c | c
    · rw [List.getElem?_eq_getElem c]
      refine List.Sublist.trans ?_ up
      rw [List.drop_eq_getElem_cons c]
      exact ih.cons₂ _
    · rw [List.getElem?_eq_none_iff.mpr c]
      exact ih.trans ((List.drop_sublist_drop_left _ (Nat.le_succ j)).trans up)
theorem picked_ints {ms : List Int} {ys : List V} (h : Picked (ms.map V.int) ys) : ∃ ns : List Int, ys = ns.map V.int ∧ ns.Sublist ms := by
  obtain ⟨js, hj, rfl⟩ := h
  refine ⟨js.filterMap (ms[·]?), ?_, by simpa using pick_sub ms js 0 hj (fun _ _ => Nat.zero_le _)⟩
  rw [List.map_filterMap]
  congr 1
  funext j
  rw [List.getElem?_map]
def xs (m : Nat) : Str := repS "x" m
theorem tl_xs (m : Nat) : tl (xs m) = List.replicate m 120 := by
  show (repS "x" m).cps.toList = _
  rw [repS_tl]
  have e : ("x" : Str).cps.toList = [120] := by decide +kernel
  rw [e]
  induction m with
  | zero => rfl
  | succ m ih => rw [List.replicate_succ, List.flatten_cons, ih, List.replicate_succ]; rfl
theorem xs_len (m : Nat) : (xs m).length = m := by
  rw [len_tl', tl_xs, List.length_replicate]
theorem xs_old {m : Nat} (h1 : 1 ≤ m) (h2 : m ≤ 12) : Old (xs m) := by
  have hc : ∀ c ∈ tl (xs m), c = 120 := fun c hc => by
    rw [tl_xs] at hc
    exact (List.mem_replicate.mp hc).2
  refine ⟨?_, fun c h => by have := hc c h; omega⟩
  unfold isNm
  rw [xs_len]
  simp only [Bool.and_eq_true, decide_eq_true_eq, List.all_eq_true]
  exact ⟨⟨h1, h2⟩, fun c h => by have := hc c h; omega⟩
/-- the ties that end at a point, by their numbers -/
def mine (ts : Ts) (x : Str) : List Int := (ts.filter fun nt => decide (nt.2.t = x ∨ nt.2.h = x)).map (·.1)
theorem mine_sub (ts : Ts) (x : Str) : (mine ts x).Sublist (ts.map (·.1)) := List.Sublist.map _ (List.filter_sublist ..)
theorem rise_nd {ts : Ts} (h : Rise ts) : (ts.map (·.1)).Nodup := List.pairwise_map.mpr (h.imp fun {a b} c e => by omega)
/-- a deed's web -/
structure Nice (w : Wb) : Prop where
  ok : Wok w
  two : 2 ≤ w.ps.length
  old : ∀ x ∈ w.ps, Old x
theorem once2 {c : Prop} [Decidable c] {t : TT} {σ : L2.St} {H : Hp} {A B : Hp → Prop} (hB : B H) (h : c → B H → t σ H fun b H1 => if b = true then A H1 else B H1) :
    if decide c = true then t σ H (fun b H1 => if b = true then A H1 else B H1) else (if false = true then A H else B H) := i_dec (fun e => h e hB) (fun _ => iteF hB)
/-- the script, beside a web -/
def Sc (K : PySem.W.Frag) (H : Hp) (a : Addr) (xs : List V) (l : Addr) : Prop := (Rd H a (.lst xs) ∧ a ≠ l) ∨ ∃ (o : Obj) (its : Array Value) (n : Nat), K.lookup a = some o ∧ o.cls = .type "list" ∧ o.dict = none ∧ o.data = .seq its n ∧ its.size ≤ sizeLine ∧ Vals xs its.toList
theorem Sc.sq {K : PySem.W.Frag} {H : Hp} {a l : Addr} {xs : List V} (h : Sc K H a xs l) : SqL K H a xs := h.imp And.left id
theorem Sc.of {K : PySem.W.Frag} {H : Hp} {a l : Addr} {xs : List V} (h : SqL K H a xs) (f : H l = none) : Sc K H a xs l := h.imp (fun r => ⟨r, by
  rcases r with r | ⟨o, r⟩
  · exact ne_of_none r f
  · exact ne_of_none r f⟩) id
theorem Sc.same {K : PySem.W.Frag} {H H' : Hp} {a l : Addr} {xs : List V} (h : Sc K H a xs l) (m : Same H H') : Sc K H' a xs l := by
  rcases h with ⟨r | ⟨ob, r⟩, n⟩ | h
  · exact .inl ⟨.inl (m _ _ r), n⟩
  · exact .inl ⟨.inr ⟨ob, m _ _ r⟩, n⟩
  · exact .inr h
theorem Sc.keep {K : PySem.W.Frag} {H H' : Hp} {a p l d : Addr} {w : Wb} {xs : List V} (h : Sc K H a xs l) (hw : WebAt K H p l d w) (k : Keep H H' p l d) : Sc K H' a xs l := by
  obtain ⟨dx, ep⟩ := hw.self
  obtain ⟨kvs, ed, _⟩ := hw.ties
  rcases h with ⟨r | ⟨ob, r⟩, n⟩ | h
  · exact .inl ⟨.inl (k a _ (fun e => (by rw [e, ep] at r; cases r)) n (fun e => (by rw [e, ed] at r; cases r)) r), n⟩
  · exact .inl ⟨.inr ⟨ob, k a _ (fun e => (by rw [e, ep] at r; cases r)) n (fun e => (by rw [e, ed] at r; cases r)) r⟩, n⟩
  · exact .inr h
section
variable {P : Program} {w : World} {K : PySem.W.Frag} {mg : Str → Option Value} {base : Heap}
def deedQ (K : PySem.W.Frag) (H : Hp) (Q : VK) (p l d : Addr) (w : Wb) : Prop := ∀ H' d' w', WebAt K H' p l d' w' → Nice w' → w'.g ≤ w.g + 1 → Keep H H' p l d → (d' = d ∨ H d' = none) → Q .non H'
def sp_deed (K : PySem.W.Frag) : Sp := fun vs H Q _ => ∃ p l d w a ns k, vs = [.ref p, .ref a, .int k, .int 9] ∧ 0 ≤ k ∧ k ≤ 100 ∧ SqL K H a ((ns : List Int).map V.int) ∧ ns.length ≤ 64 ∧ WebAt K H p l d w ∧ Nice w ∧ deedQ K H Q p l d w
theorem ok_law_deed (T : Tx K mg) : FnOk P w K mg base CX0 6 (He.ga K "_law_deed") T.fd_law_deed ["_law_web_here", "_law_script", "_law_k", "_law_most"] (sp_deed K) := by
  refine T.F_law_deed.ok sc_law_deed (fun vs H Q E h => ?_) (fun cdv A outer s H vs Q E hr h => ?_)
  · obtain ⟨_, _, _, _, _, _, _, rfl, _⟩ := h
    rfl
  · obtain ⟨p, l, d, w, a, ns, k, rfl, k0, k1, hS, hl, hw, nice, q⟩ := h
    obtain ⟨ok, two, old⟩ := nice
    obtain ⟨dx, ep⟩ := hw.self
    refine ⟨_, PSs.nox (pss_cons (ps_set (i := 4) sc_law_deed.nd rfl (Or.inl rfl) (pe_call (ok_law_number T) (hr.mono (by decide)) (by rfl) T.g_law_number T.F_law_number.kp T.k_law_number .nil pass0 (pa_cons (pv 1) (pa_cons (pv 2) pa_nil))))
      (pss_cons (ps_set (i := 5) sc_law_deed.nd rfl (Or.inl rfl) (pe_meth0 (pv 0) T.cl_Web T.m_Web_points (ok_Web_points T) (hr.mono (by decide)) T.k_Web_points .nil pass0))
      (pss_cons (ps_set (i := 6) sc_law_deed.nd rfl (Or.inl rfl) (pe_meth0 (pv 0) T.cl_Web T.m_Web_ties (ok_Web_ties T) (hr.mono (by decide)) T.k_Web_ties .nil pass0))
      (pss_cons (ps_set (i := 7) sc_law_deed.nd rfl (Or.inr rfl) (pe_ix ix_list (pv 5) (pe_op op_mod (pe_op op_fdiv (pv 4) pe_int) (pe_callB x_lenL (by rfl) T.b_len (by decide +kernel) (pa_cons (pv 5) pa_nil))) (fun _ _ => rfl)))
      (pss_cons (ps_set (i := 8) sc_law_deed.nd rfl (Or.inl rfl) (pe_callB x_lenL (by rfl) T.b_len (by decide +kernel) (pa_cons (pv 5) pa_nil)))
      (pss_cons (ps_set (i := 9) sc_law_deed.nd rfl (Or.inl rfl) (pe_op op_add pe_int (pe_op op_mod (pe_op op_fdiv (pv 4) pe_int) (pe_op op_sub (pv 8) pe_int))))
      (pss_cons (ps_set (i := 10) sc_law_deed.nd rfl (Or.inl rfl) (pe_ix ix_list (pv 5) (pe_op op_mod (pe_op op_add (pe_op op_fdiv (pv 4) pe_int) (pv 9)) (pv 8)) (fun _ _ => rfl)))
      (pss_cons (ps_set (i := 11) sc_law_deed.nd rfl (Or.inl rfl) (pe_op op_mod (pe_op op_fdiv (pv 4) pe_int) pe_int))
      (pss_one (ps_if (PW.pt (pw_and (pt_cmpR op_eq (pv 11) pe_int (nomark _)) (pw_and1 (pt_cmpR op_gt (pe_callB x_lenL (by rfl) T.b_len (by decide +kernel) (pa_cons (pv 6) pa_nil)) pe_int (nomark _))))) (pss_one (ps_expr (pe_meth (pv 0) T.cl_Web T.m_Web_drop_tie (ok_Web_drop_tie T) (hr.mono (by decide)) T.k_Web_drop_tie .nil pass0 (pa_cons (pe_fld (pe_ix ix_list (pv 6) (pe_op op_mod (pe_op op_fdiv (pv 4) pe_int) (pe_callB x_lenL (by rfl) T.b_len (by decide +kernel) (pa_cons (pv 6) pa_nil))) (fun _ _ => rfl)) rfl) pa_nil)))) (pss_one (ps_if (PW.pt (pw_and (pt_cmpR op_eq (pv 11) pe_int (nomark _)) (pw_and (pt_cmpR op_gt (pe_callB x_lenL (by rfl) T.b_len (by decide +kernel) (pa_cons (pv 5) pa_nil)) pe_int (nomark _)) (pw_and1 (pt_cmpR op_gt (pe_callB x_lenL (by rfl) T.b_len (by decide +kernel) (pa_cons (pv 6) pa_nil)) pe_int (nomark _)))))) (pss_one (ps_expr (pe_meth (pv 0) T.cl_Web T.m_Web_join (ok_Web_join T) (hr.mono (by decide)) T.k_Web_join .nil pass0 (pa_cons (pv 7) (pa_cons (pv 10) pa_nil))))) (pss_one (ps_if (PW.pt (pw_and (pt_cmpR op_eq (pv 11) pe_int (nomark _)) (pw_and (pt_cmpR op_lt (pe_callB x_lenL (by rfl) T.b_len (by decide +kernel) (pa_cons (pv 5) pa_nil)) (pv 3) (nomark _)) (pw_and1 (pt_cmpR op_notIn_seq (pe_op op_repS pe_str (pe_op op_add (pe_op op_mod (pv 2) pe_int) pe_int)) (pv 5) (by rfl)))))) (pss_cons (ps_setLc (i := 12) (own := [("_law_tie", 13)]) (by rfl) sc_law_deed.nd rfl rfl (sw_true rfl rfl rfl (by decide +kernel)) (pi_list (pv 6)) (blkOk_by (own := [("_law_tie", 13)]) (N := N_law_deed) (sc := defScope s_law_deed) (by decide +kernel)) (fun _ _ _ _ _ => (pg_name (i := 13) sc_law_deed.nd rfl (Or.inl rfl))) (fun _ _ _ _ _ => (pts_one (PW.pt (pw_or (pt_cmpR op_eq (pe_fldK K rfl (pv 13) rfl) (pv 7) (nomark _)) (pw_or1 (pt_cmpR op_eq (pe_fldK K rfl (pv 13) rfl) (pv 7) (nomark _))))))) (fun _ _ _ _ _ => (pe_fldK K rfl (pv 13) rfl)))
      (pss_one (ps_expr (pe_meth (pv 0) T.cl_Web T.m_Web_part (ok_Web_part T) (hr.mono (by decide)) T.k_Web_part .nil pass0 (pa_cons (pv 7) (pa_cons (pe_op op_repS pe_str (pe_op op_add (pe_op op_mod (pv 2) pe_int) pe_int)) (pa_cons (pe_stepLo (pv 12) (pe_op op_mod (pe_op op_fdiv (pv 4) pe_int) pe_int) pe_int) pa_nil))))))) (pss_one (ps_if (pt_cmpR op_lt (pe_callB x_lenL (by rfl) T.b_len (by decide +kernel) (pa_cons (pv 6) pa_nil)) pe_int (nomark _)) (pss_one (ps_expr (pe_meth (pv 0) T.cl_Web T.m_Web_put_tie (ok_Web_put_tie T) (hr.mono (by decide)) (T.k_Web_put_tie_2).choose_spec.2 (T.k_Web_put_tie_2).choose_spec.1 pass0 (pa_cons (pv 7) (pa_cons (pv 10) (pa_cons (pe_call (ok_law_load T) (hr.mono (by decide)) (by rfl) T.g_law_load T.F_law_load.kp T.k_law_load .nil pass0 (pa_cons (pv 1) (pa_cons (pv 2) pa_nil))) (pa_cons (pe_cmpR op_gt (pe_op op_mod (pe_op op_fdiv (pv 4) pe_int) pe_int) pe_int (nomark _)) pa_nil))))))) pss_nil)))))))))))))))), ?_⟩
    have l16 := ok.le
    have l48 := ok.tl
    walk_at "go"
    refine ⟨a, ns, k, rfl, k0, by omega, hS, hl, fun n n0 n1 => ?_⟩
    walk_at "go"
    refine i_kMethC ep rfl ?_
    walk_at "go"
    refine ⟨p, l, d, w, rfl, hw, fun b hb => ?_⟩
    have s1 : Same H (upd H b (.lst (w.ps.map V.str))) := Same.new hb
    have eb : (upd H b (.lst (w.ps.map V.str))) b = some (.lst (w.ps.map V.str)) := upd_same
    generalize upd H b (.lst (w.ps.map V.str)) = H1 at s1 eb ⊢
    have hw1 := hw.same s1
    obtain ⟨dx1, ep1⟩ := hw1.self
    walk_at "go"
    refine i_kMethC ep1 rfl ?_
    walk_at "go"
    refine ⟨p, l, d, w, rfl, hw1, l48, fun t as H2 s2 ht et tl => ?_⟩
    have eb2 := s2 _ _ eb
    have s12 := s1.trans s2
    have hw2 := hw.same s12
    obtain ⟨dx2, ep2⟩ := hw2.self
    have hbL : SqL K H2 b (w.ps.map V.str) := SqL.of eb2
    have htL : SqL K H2 t (as.map V.ref) := SqL.of et
    have alen := Two.len tl
    have lp : (w.ps.map V.str).length = w.ps.length := List.length_map _
    have lt : (as.map V.ref).length = as.length := List.length_map _
    walk_at "go"
    rw [lp]
    obtain ⟨x, i, ei, emi, ati⟩ := at_mod V.str (xs := w.ps) (z := n / 7) rfl (by omega)
    refine i_ixL hbL ati ?_
    walk_at "go"
    rw [lp]
    have r0 : 0 ≤ n / 100 % ((w.ps.length : Int) - 1) := Int.emod_nonneg _ (by omega)
    have r1 : n / 100 % ((w.ps.length : Int) - 1) < (w.ps.length : Int) - 1 := Int.emod_lt_of_pos _ (by omega)
    generalize n / 100 % ((w.ps.length : Int) - 1) = r at r0 r1 ⊢
    walk_at "go"
    obtain ⟨y, j, ej, emj, atj⟩ := at_mod V.str (xs := w.ps) (z := n / 7 + (1 + r)) rfl (by omega)
    refine i_ixL hbL atj ?_
    have hxm := List.mem_of_getElem? ei
    have hym := List.mem_of_getElem? ej
    have hij : j ≠ i := fun e => mod_ne (q := n / 7) (s := 1 + r) (m := (w.ps.length : Int)) (by omega) (by omega) (by rw [emi, emj, e])
    have hne : x ≠ y := fun e => by
      subst e
      obtain ⟨hi, e1⟩ := List.getElem?_eq_some_iff.mp ei
      obtain ⟨hj, e2⟩ := List.getElem?_eq_some_iff.mp ej
      exact hij ((List.getElem_inj ok.nd).mp (e2.trans e1.symm))
    clear ati atj emi emj hij
    have fnl : ∀ {d' : Addr}, H2 d' = none → H d' = none := fun h => s12.free h
    have k2 : Keep H H2 p l d := Keep.of s12
    have hS2 := SqL.same hS s12
    walk_at "go"
    have d1 := T.cl_Tie
    have d2 := T.na_Tie_number
    have d3 := T.na_Tie_tail
    have d4 := T.na_Tie_head
    refine once2 ?_ (fun c0 hB => ?_)
    · walk_at "go"
      refine once2 ?_ (fun c1 hB => ?_)
      · walk_at "go"
        refine once2 ?_ (fun c2 hB => ?_)
        · walk_at "go"
          rw [lt, alen]
          refine i_dec (fun h40 => ?_) (fun _ => ?_)
          · walk_at "go"
            refine i_kMethC ep2 rfl ?_
            walk_at "go"
            refine ⟨a, ns, k, rfl, k0, by omega, hS2, hl, fun c H3 c0 c1 s3 => ?_⟩
            walk_at "go"
            refine ⟨p, l, d, w, ⟨x, y, c, _⟩, rfl, hw2.same s3, ok, hxm, hym, hne, c0, c1, by omega, fun H4 h1 h2 => ?_⟩
            walk_at "go"
            exact q H4 d _ h1 ⟨ok.tie hxm hym hne c0 c1 (by omega), two, old⟩ (Int.le_refl _) ((k2.trans (Keep.of s3) (.inl rfl)).trans h2 (.inl rfl)) (.inl rfl)
          · walk_at "go"
            exact q H2 d w hw2 ⟨ok, two, old⟩ (by omega) k2 (.inl rfl)
        · walk_at "go"
          rw [lp]
          refine i_dec (fun h14 => ?_) (fun _ => hB)
          walk_at "go"
          refine i_rRepS (by omega) (by omega) (by decide +kernel) (by decide +kernel) ?_
          walk_at "go"
          refine i_inS hbL ?_
          have hz := xs_old (m := (k % 12 + 1).toNat) (by omega) (by omega)
          have ez : repS ("x" : Str) (k % 12 + 1).toNat = xs (k % 12 + 1).toNat := rfl
          rw [ez]
          generalize hzz : xs (k % 12 + 1).toNat = z at hz
          show kB _ (.bl (!decide (z ∈ w.ps))) _
          apply i_kB
          refine i_ndec (fun hni => ?_) (fun _ => hB)
          clear hB
          walk_at "go"
          refine i_kListI htL ?_
          intro D hD
          refine lc_it walk_list (fun m H' => Same H2 H' ∧ H' D = some (.lst ((mine (w.ts.take m) x).map V.int)))
            ⟨Same.new hD, by rw [upd_same]; rfl⟩ (fun i H' _ h => SqL.of (h.1 _ _ et)) ?_ ?_
          · rintro i v H3 H4 hi ⟨s3, eD⟩ ⟨rfl, hv⟩
            rw [lt] at hi
            rw [List.getElem?_map, List.getElem?_eq_getElem hi] at hv
            cases hv
            obtain ⟨⟨m, u⟩, eu, ta⟩ := Two.get tl (List.getElem?_eq_getElem hi)
            obtain ⟨dy, ta3⟩ := ta.same s3
            have tk : w.ts.take (i + 1) = w.ts.take i ++ [(m, u)] := by rw [List.take_add_one, eu]; rfl
            have ml : (mine (w.ts.take i) x).length ≤ 48 := by
              have := (mine_sub (w.ts.take i) x).length_le
              rw [List.length_map, List.length_take] at this
              omega
            have yes : (u.t = x ∨ u.h = x) → mine (w.ts.take i ++ [(m, u)]) x = mine (w.ts.take i) x ++ [m] := fun c => by
              unfold mine
              rw [List.filter_append, List.filter_cons, if_pos (decide_eq_true c), List.map_append]; rfl
            have no : ¬ (u.t = x ∨ u.h = x) → mine (w.ts.take i ++ [(m, u)]) x = mine (w.ts.take i) x := fun c => by
              unfold mine
              rw [List.filter_append, List.filter_cons, if_neg (by simpa using c), List.filter_nil, List.append_nil]
            rw [tk]
            walk_at "go"
            refine ⟨rfl, ?_⟩
            walk_at "go"
            refine i_dec (fun e1 => ?_) (fun e1 => ?_)
            · walk_at "go"
              refine ⟨_, eD, by rw [List.length_map, sizeLine_eq]; omega, Same.mut s3 hD, ?_⟩
              rw [upd_same, yes (.inl e1), List.map_append]; rfl
            · walk_at "go"
              refine i_dec (fun e2 => ?_) (fun e2 => ?_)
              · walk_at "go"
                refine ⟨_, eD, by rw [List.length_map, sizeLine_eq]; omega, Same.mut s3 hD, ?_⟩
                rw [upd_same, yes (.inr e2), List.map_append]; rfl
              · refine ⟨s3, ?_⟩
                rw [no (fun c => c.elim e1 e2)]; exact eD
          · rintro H3 ⟨s3, eD⟩
            rw [lt, alen, List.take_length] at eD
            have hw3 := hw2.same s3
            obtain ⟨dx3, ep3⟩ := hw3.self
            walk_at "go"
            refine i_kMethC ep3 rfl ?_
            walk_at "go"
            refine i_rRepS (by omega) (by omega) (by decide +kernel) (by decide +kernel) ?_
            walk_at "go"
            refine i_stepLo ?_
            walk_at "go"
            refine i_kStepLo (SqL.of eD) (by decide) fun a2 ys pk ha2 => ?_
            obtain ⟨gs, rfl, sub⟩ := picked_ints pk
            rw [ez, hzz]
            have s4 : Same H3 (upd H3 a2 (.lst (gs.map V.int))) := Same.new ha2
            have sub2 := sub.trans (mine_sub w.ts x)
            have gl : gs.length ≤ 48 := by
              have := sub2.length_le
              rw [List.length_map] at this
              omega
            obtain ⟨f1, f2, f3⟩ := wb_free hw3 ha2
            refine ⟨p, l, d, w, x, z, a2, gs, rfl, hw3.same s4, ok, hxm, hni, hz.1, by omega, upd_same, f2, (rise_nd ok.rise).sublist sub2, gl, fun g hg => ?_, fun H5 h1 h2 => ?_⟩
            · obtain ⟨⟨m, u⟩, hm, rfl⟩ := List.mem_map.mp (sub.mem hg)
              obtain ⟨hm1, hm2⟩ := List.mem_filter.mp hm
              exact ⟨u, tget_of ok.rise hm1, by simpa using hm2⟩
            walk_at "go"
            refine q H5 d _ h1 ⟨ok.part hni hz.1 (by omega), ?_, fun v hv => ?_⟩ (by show w.g ≤ w.g + 1; omega) ((k2.trans (Keep.of (s3.trans s4)) (.inl rfl)).trans h2 (.inl rfl)) (.inl rfl)
            · show 2 ≤ (w.ps ++ [z]).length
              rw [List.length_append]; omega
            · rcases List.mem_append.mp hv with hv | hv
              · exact old v hv
              · rw [List.mem_singleton.mp hv]; exact hz
      · walk_at "go"
        rw [lp]
        refine i_dec (fun h3 => ?_) (fun _ => hB)
        walk_at "go"
        refine i_dec (fun h5 => ?_) (fun _ => hB)
        clear hB
        walk_at "go"
        refine i_kMethC ep2 rfl ?_
        walk_at "go"
        refine ⟨p, l, d, w, x, y, rfl, hw2, ok, hxm, hym, hne, fun H' d' hd h1 h2 => ?_⟩
        walk_at "go"
        refine q H' d' _ h1 ⟨ok.join hxm hym hne, ?_, fun z hz => old z (List.mem_of_mem_erase hz)⟩ (by show w.g ≤ w.g + 1; omega) (k2.trans h2 (.inl rfl)) (hd.imp id fnl)
        show 2 ≤ (w.ps.erase y).length
        rw [List.length_erase_of_mem hym]
        omega
    · walk_at "go"
      rw [lt]
      refine i_dec (fun h3 => ?_) (fun _ => hB)
      clear hB
      walk_at "go"
      refine i_kMethC ep2 rfl ?_
      walk_at "go"
      rw [lt]
      obtain ⟨b5, i5, e5, _, at5⟩ := at_mod V.ref (xs := as) (z := n / 40000) rfl (by omega)
      refine i_ixL htL at5 ?_
      obtain ⟨⟨m, u⟩, eu, dy, ta⟩ := Two.get tl e5
      walk_at "go"
      refine ⟨p, l, d, w, m, u, rfl, hw2, tget_of ok.rise (List.mem_of_getElem? eu), fun H' h1 h2 => ?_⟩
      walk_at "go"
      exact q H' d _ h1 ⟨ok.untie m, two, old⟩ (by show w.g ≤ w.g + 1; omega) (k2.trans h2 (.inl rfl)) (.inl rfl)
end
end K18

/-! HXc: `in` over a list or a dict, dicts compared whose values are the same objects. -/
set_option Elab.async false
set_option linter.all false
set_option maxRecDepth 100000
set_option maxHeartbeats 2000000
namespace HX
open PySem PySem.Spec PyProof.Rows L2
section
variable {X : Cx}
/-- y in xs, xs a list, a tuple or a dict -/
def rInLD (K : PySem.W.Frag) : R2 := fun x y H Q => rIn K false x y H Q ∨ ∃ a o, y = .ref a ∧ DGet H a x o ∧ Q (.bl o.isSome) H
theorem op_inLD (K : PySem.W.Frag) (hK : X.K = K) (hu : X.A.units + 1 < cLine) : OpR X (compareOp .In) (rInLD K) := by
  subst hK
  intro pins s σ H x y v u Q I rx ry h
  rcases h with h | ⟨a, o, rfl, g, q⟩
  · exact op_in_seq pins s σ H x y v u Q I rx ry h
  · obtain rfl : u = Value.ref a := ry
    exact d_in hu I g rx fun s3 I3 => ⟨.bl o.isSome, H, I3, rfl, q⟩
/-- the same object, or plain -/
def sameB : V → Bool
  | .ref _ => true
  | v => flatB v
theorem hits_same {κ : Type} [DecidableEq κ] {A : Around} {s : Shared} {kvs : List (κ × V)} {vb : List (κ × Value)} (rb : KV kvs vb) {ks : List (κ × V)} {va : List (κ × Value)} (ra : KV ks va) :
    (∀ p ∈ ks, valV kvs p.1 = some p.2 ∧ sameB p.2 = true) → PySem.W.KeqHits A s vb va true := by
  unfold KV at ra
  induction ra with
  | nil => intro _; exact .nil
  | @cons p q ps qs h t ih =>
    intro hp
    obtain ⟨h1, h2⟩ := h
    obtain ⟨e, f⟩ := hp p List.mem_cons_self
    have rr : RelO (some p.2) (valueAt vb p.1) := by rw [← e]; exact rb.val p.1
    obtain ⟨y, hy, ry⟩ := rr.some_of
    obtain ⟨k, v⟩ := q
    have h1' : p.1 = k := h1
    rw [h1'] at hy
    show PySem.W.KeqHits A s vb ((k, v) :: qs) (true && true)
    refine .hit hy ?_ (ih fun p' hm => hp p' (List.mem_cons_of_mem _ hm))
    cases hv : p.2 with
    | ref a =>
      rw [hv] at h2 ry
      obtain rfl : v = Value.ref a := h2
      obtain rfl : y = Value.ref a := ry
      exact SeqAt.EqAt.same _
    | _ => exact eqAt_same h2 ry (by rw [hv] at f ⊢; exact f)
def rEqDI : R2 := fun x y H Q => ∃ a b ks ls, x = .ref a ∧ y = .ref b ∧ H a = some (.dK ks) ∧ H b = some (.dK ls) ∧ ks.length = ls.length ∧ (∀ p ∈ ks, valV ls p.1 = some p.2 ∧ sameB p.2 = true) ∧ Q (.bl true) H
theorem op_eqDI (hu : X.A.units < cLine) : OpR X (compareOp .Eq) rEqDI := by
  intro pins s σ H x y v u Q I rx ry h
  obtain ⟨a, b, ks, ls, rfl, rfl, ea, eb, hlen, hp, q⟩ := h
  obtain rfl : v = Value.ref a := rx
  obtain rfl : u = Value.ref b := ry
  obtain ⟨_, ya, va, ra, da⟩ := (show ObjOk X.prog X.w H s.heap a (.dK ks) from I.hok a _ ea)
  obtain ⟨_, yb, vb, rb, db⟩ := (show ObjOk X.prog X.w H s.heap b (.dK ls) from I.hok b _ eb)
  have hl : va.length = vb.length := by rw [← ra.length, ← rb.length]; exact hlen
  exact PySem.W.keq_eq (knd := mixKind X.prog X.w) (r := true) ya yb da db hu (fun _ => hits_same rb ra hp) (fin_bl I q (by simp [hl]))
end
/-! ### a dict's keys, the dict locked -/
section
variable {H : Hp} {a : Addr} {kvs : List (Key × V)} {o : Obj} {σ : L2.St} {td : TE} {R : It → Hp → Prop} {Q : VK} {v : V}
def kKeys (R : It → Hp → Prop) : VK := fun x H1 => ∃ d o, x = .ref d ∧ ((∃ kvs, H1 d = some (.frz o (.dK kvs)) ∧ R (Itk d o kvs) H1) ∨ ∃ kvs, H1 d = some (.frz o (.dT kvs)) ∧ R (Itkt d o kvs) H1)
theorem i_keys (q : td σ H (kKeys R)) : iKeys td σ H R := q
theorem i_kKeys (h : H a = some (.frz o (.dK kvs))) (q : R (Itk a o kvs) H) : kKeys R (.ref a) H := ⟨a, o, rfl, .inl ⟨kvs, h, q⟩⟩
theorem i_kDGetF {j : Str} (h : H a = some (.frz o (.dK kvs))) (e : valV kvs (Sum.inr j) = some v) (q : Q v H) : kDGet (.ref a) Q (.str j) H := ⟨a, v, rfl, .inl ⟨kvs, Sum.inr j, .inr ⟨o, h⟩, rfl, e.symm⟩, q⟩
end
end HX

set_option Elab.async false
set_option linter.all false
set_option maxRecDepth 100000
set_option maxHeartbeats 4000000
namespace K18
open PySem PySem.Spec PyProof.Rows L2 HX WB
local macro_rules | `(tactic| walk_at "side") => `(tactic| first
  | assumption
  | rfl
  | (show (0 : Int) < _; omega)
  | (unfold CDiv; omega)
  | (unfold CMul; omega)
  | (unfold CPow; omega)
  | (rw [sizeLine_eq]; omega)
  | omega)
local macro_rules | `(tactic| walk_at "e") => `(tactic| first
  | ((with_reducible apply i_var); exact rfl)
  | (with_reducible apply i_c)
  | (with_reducible apply i_op)
  | (with_reducible apply i_un)
  | (with_reducible apply i_rI0)
  | ((with_reducible apply i_rI); (case c => walk_at "side"))
  | (with_reducible apply i_rGe)
  | (with_reducible apply i_rGt)
  | (with_reducible apply i_rU)
  | (with_reducible apply i_rEqI)
  | (with_reducible apply i_rNeI)
  | (with_reducible apply i_rEqS)
  | (with_reducible apply i_rNeS)
  | (with_reducible apply i_rEqB)
  | (with_reducible apply i_rNeB)
  | (with_reducible apply i_rIsN)
  | (with_reducible apply i_rNotN)
  | (with_reducible apply i_rInS)
  | (with_reducible apply i_rNotInS)
  | ((with_reducible apply i_catS); (case c => walk_at "side"))
  | (with_reducible apply i_tcb)
  | (with_reducible apply i_nil)
  | (with_reducible apply i_cons)
  | ((with_reducible apply i_lenS); (case c => walk_at "side"))
  | ((with_reducible apply i_lenL); assumption)
  | (with_reducible apply i_abs)
  | (with_reducible apply i_max2)
  | (with_reducible apply i_min2)
  | ((with_reducible apply i_strI); (case c => walk_at "side"))
  | (with_reducible apply i_intB)
  | (with_reducible apply i_test)
  | (with_reducible apply i_tB)
  | (with_reducible apply i_kB)
  | (with_reducible apply i_and)
  | (with_reducible apply i_or)
  | (with_reducible apply i_not)
  | (with_reducible apply i_if)
  | (with_reducible apply i_andV)
  | (with_reducible apply i_orV)
  | (with_reducible apply i_notV)
  | (with_reducible apply i_kAndV)
  | (with_reducible apply i_kOrV)
  | (with_reducible apply i_kNotV)
  | (with_reducible apply i_chain)
  | (with_reducible apply i_kChain)
  | (with_reducible apply i_drop)
  | (with_reducible apply i_ret)
  | (with_reducible apply i_retN)
  | (with_reducible apply i_ifS)
  | (with_reducible apply i_asg)
  | (with_reducible apply i_gName)
  | (with_reducible apply i_for)
  | (with_reducible apply i_lc)
  | (with_reducible apply i_iList)
  | (with_reducible apply i_iTup)
  | (with_reducible apply i_iStr)
  | (with_reducible apply i_kStrI)
  | (with_reducible apply i_lst)
  | (with_reducible apply i_tup)
  | (with_reducible apply i_call)
  | (with_reducible apply i_m1)
  | (with_reducible apply i_kStr)
  | (with_reducible apply i_bm)
  | (with_reducible apply i_bm0)
  | (with_reducible apply i_part)
  | (with_reducible apply i_kInt)
  | (with_reducible apply i_noPart)
  | (with_reducible apply i_sl)
  | (with_reducible apply i_range1)
  | (with_reducible apply i_range2)
  | ((with_reducible apply i_kRng1); (case c => walk_at "side"))
  | ((with_reducible apply i_kRng2); (case c => walk_at "side"))
  | (with_reducible apply i_gCons)
  | (with_reducible apply i_gNil)
  | (with_reducible apply i_gSub)
  | (with_reducible apply i_iZip)
  | (with_reducible apply i_yes)
  | (with_reducible apply i_ift)
  | (with_reducible apply i_iff)
  | (with_reducible apply i_nb))
local macro_rules | `(tactic| walk_at "go") => `(tactic| repeat (first | (with_reducible apply i_seq) | (with_reducible apply i_next) | walk_at "e"))
local macro_rules | `(tactic| walk_at "ge") => `(tactic| repeat walk_at "e")
local macro_rules | `(tactic| walk_at "sz") => `(tactic| first | decide | (rw [sizeLine_eq]; simp; done) | (rw [sizeLine_eq]; omega))
local macro_rules | `(tactic| walk_at "side") => `(tactic| (with_reducible exact WB.most_pos))
local macro_rules | `(tactic| walk_at "e") => `(tactic| first
  | ((with_reducible apply i_isT (b := true)); exact rfl)
  | ((with_reducible apply i_isT (b := false)); exact rfl)
  | (with_reducible apply i_fld)
  | ((with_reducible apply i_kFld); (case h => assumption); (case c1 => assumption); (case c2 => assumption); (case e => first | exact lk_number | exact lk_tail | exact lk_head | exact lk_load | exact lk_oneway | exact lk_points | exact lk_ties | exact lk_given))
  | (with_reducible apply i_sfld)
  | ((with_reducible apply i_kSFld); (case h => first | assumption | exact upd_same); (case c1 => assumption); (case c2 => assumption); (case e => exact Nat.le_of_ble_eq_true rfl))
  | (with_reducible apply i_methC)
  | (with_reducible apply i_make)
  | (with_reducible apply i_fldaug)
  | (with_reducible apply i_vals)
  | (with_reducible apply i_items)
  | (with_reducible apply i_dget)
  | (with_reducible apply i_dput)
  | (with_reducible apply i_din)
  | (with_reducible apply i_dnotin)
  | (with_reducible apply i_ddel)
  | (with_reducible apply i_dc)
  | (with_reducible apply i_enum))
theorem look_of {x : Str} {n : Nat} : ∀ {pl : List (Str × Nat)}, (pl.map (·.1)).Nodup → (x, n) ∈ pl → pl.lookup x = some n
  | [], _, h => by cases h
  | (y, m) :: r, nd, h => by
    have nd : (y :: r.map (·.1)).Nodup := nd
    rw [List.lookup_cons]
    rcases List.mem_cons.mp h with e | h
    · cases e
      simp
    · have ne : x ≠ y := fun e => (List.nodup_cons.mp nd).1 (by rw [← e]; exact List.mem_map.mpr ⟨(x, n), h, rfl⟩)
      have : (x == y) = false := by simpa using ne
      rw [this]
      exact look_of (List.nodup_cons.mp nd).2 h
section
variable {P : Program} {w : World} {K : PySem.W.Frag} {mg : Str → Option Value} {base : Heap}
def sp_closed (K : PySem.W.Frag) : Sp := fun vs H Q _ => ∃ p l d w n, vs = [.ref p, .int n] ∧ WebAt K H p l d w ∧ Wok w ∧ 1 ≤ w.ps.length ∧ 0 ≤ n ∧ n < 2147483648 ∧ H (tb K) = some (AnyL.TabO (tb K)) ∧ ∀ H', Same H H' → Q (.bl true) H'
theorem ok_law_closed (T : Tx K mg) (J : Js P w K mg base) (xk : extra K = true) : FnOk P w K mg base CX0 8 (He.ga K "_law_closed") T.fd_law_closed ["_law_web_here", "_law_number_here"] (sp_closed K) := by
  refine T.F_law_closed.ok sc_law_closed (fun vs H Q E h => ?_) (fun cdv A outer s H vs Q E hr h => ?_)
  · obtain ⟨_, _, _, _, _, rfl, _⟩ := h
    rfl
  · obtain ⟨p, l, d, w, n, rfl, hw, ok, l1, n0, n1, hT, q⟩ := h
    have hu := hu_of hr
    refine ⟨_, PSs.nox (pss_cons (ps_set (i := 2) sc_law_closed.nd rfl (Or.inl rfl) (pe_meth0 (pv 0) T.cl_Web T.m_Web_points (ok_Web_points T) (hr.mono (by decide)) T.k_Web_points .nil pass0))
      (pss_cons (ps_set (i := 3) sc_law_closed.nd rfl (Or.inr rfl) (pe_call (ok_law_places T J) (hr.mono (by decide)) (by rfl) T.g_law_places T.F_law_places.kp T.k_law_places .nil pass0 (pa_cons (pv 0) pa_nil)))
      (pss_cons (ps_set (i := 4) sc_law_closed.nd rfl (Or.inr rfl) (pe_ix ix_list (pv 2) (pe_op op_mod (pv 1) (pe_callB x_lenL (by rfl) T.b_len (by decide +kernel) (pa_cons (pv 2) pa_nil))) (fun _ _ => rfl)))
      (pss_cons (ps_setLc (i := 5) (own := [("_law_other", 6)]) (by rfl) sc_law_closed.nd rfl rfl (sw_true rfl rfl rfl (by decide +kernel)) (pi_list (pv 2)) (blkOk_by (own := [("_law_other", 6)]) (N := N_law_closed) (sc := defScope s_law_closed) (by decide +kernel)) (fun _ _ _ _ _ => (pg_name (i := 6) sc_law_closed.nd rfl (Or.inl rfl))) (fun _ _ _ _ _ => (pts_one (PW.pt (pw_and (pt_cmpR op_ne (pe_dget hu (pv 3) (pv 6) (fun _ _ => rfl)) (pe_dget hu (pv 3) (pv 4) (fun _ _ => rfl)) (nomark _)) (pw_and1 (pt_val (pe_call (ok_law_leads T xk) (hr.mono (by decide)) (by rfl) T.g_law_leads T.F_law_leads.kp T.k_law_leads .nil pass0 (pa_cons (pv 0) (pa_cons (pv 4) (pa_cons (pv 6) pa_nil)))))))))) (fun _ _ _ _ _ => (pv 6)))
      (pss_cons (ps_if (PW.pt (pw_or (pt_cmpR (op_eqD hr.units) (pv 5) (pe_lst pa_nil) (nomark _)) (pw_or1 (pt_cmpR op_eq (pe_callB x_lenL (by rfl) T.b_len (by decide +kernel) (pa_cons (pe_meth0 (pv 0) T.cl_Web T.m_Web_ties (ok_Web_ties T) (hr.mono (by decide)) T.k_Web_ties .nil pass0) pa_nil)) pe_int (nomark _))))) (pss_one (ps_ret pe_bl)) pss_nil)
      (pss_cons (ps_set (i := 6) sc_law_closed.nd rfl (Or.inl rfl) (pe_ix ix_list (pv 5) (pe_op op_mod (pe_op op_fdiv (pv 1) pe_int) (pe_callB x_lenL (by rfl) T.b_len (by decide +kernel) (pa_cons (pv 5) pa_nil))) (fun _ _ => rfl)))
      (pss_cons (ps_set (i := 7) sc_law_closed.nd rfl (Or.inl rfl) (pe_meth0 (pv 0) T.cl_Web T.m_Web_copied (ok_Web_copied T) (hr.mono (by decide)) T.k_Web_copied .nil pass0))
      (pss_cons (ps_expr (pe_meth (pv 7) T.cl_Web T.m_Web_put_tie (ok_Web_put_tie T) (hr.mono (by decide)) (T.k_Web_put_tie_2).choose_spec.2 (T.k_Web_put_tie_2).choose_spec.1 pass0 (pa_cons (pv 6) (pa_cons (pv 4) (pa_cons pe_int (pa_cons pe_bl pa_nil))))))
      (pss_cons (ps_set (i := 8) sc_law_closed.nd rfl (Or.inl rfl) (pe_call (ok_law_places T J) (hr.mono (by decide)) (by rfl) T.g_law_places T.F_law_places.kp T.k_law_places .nil pass0 (pa_cons (pv 7) pa_nil)))
      (pss_one (ps_ret (pe_and (pe_cmpR op_eq (pe_dget hu (pv 8) (pv 4) (fun _ _ => rfl)) (pe_dget hu (pv 8) (pv 6) (fun _ _ => rfl)) (nomark _)) (pe_and (pe_callB call_isi (by rfl) T.b_isinstance (by decide +kernel) (pa_cons (pe_call (ok_ring_through T xk) (hr.mono (by decide)) (by rfl) T.g_ring_through T.F_ring_through.kp T.k_ring_through .nil pass0 (pa_cons (pv 7) (pa_cons (pv 4) (pa_cons (pv 6) pa_nil)))) (pa_cons (pe_glob (v := .ref (He.ga K "Ring")) rfl T.g_Ring rfl) pa_nil))) (pe_one (pe_cmpR (op_eqDI hr.units0) (pe_call (ok_law_places T J) (hr.mono (by decide)) (by rfl) T.g_law_places T.F_law_places.kp T.k_law_places .nil pass0 (pa_cons (pv 0) pa_nil)) (pv 3) (nomark _)))))))))))))))), ?_⟩
    have l16 := ok.le
    have l48 := ok.tl
    have cr := T.cl_Ring
    obtain ⟨dx, ep⟩ := hw.self
    walk_at "go"
    refine i_kMethC ep rfl ?_
    walk_at "go"
    refine ⟨p, l, d, w, rfl, hw, fun nm hnm => ?_⟩
    have s1 : Same H (upd H nm (.lst (w.ps.map V.str))) := Same.new hnm
    have enm : (upd H nm (.lst (w.ps.map V.str))) nm = some (.lst (w.ps.map V.str)) := upd_same
    generalize upd H nm (.lst (w.ps.map V.str)) = H1 at s1 enm ⊢
    walk_at "go"
    refine ⟨p, l, d, w, rfl, hw.same s1, ok, s1 _ _ hT, fun D H2 s2 hD0 eD => ?_⟩
    have s12 := s1.trans s2
    have enm2 := s2 _ _ enm
    walk_at "go"
    refine i_lenL (SqL.of enm2) ?_
    walk_at "go"
    rw [List.length_map]
    refine i_rI ?_ (by omega)
    obtain ⟨x, i1, e1, _, a1⟩ := at_mod V.str (xs := w.ps) (z := n) (m := (w.ps.length : Int)) rfl (by omega)
    have hx : x ∈ w.ps := List.mem_of_getElem? e1
    have gx := at_val ok hx
    refine i_ixL (SqL.of enm2) a1 ?_
    walk_at "go"
    refine i_kListI (SqL.of enm2) ?_
    intro F hF
    refine lc_it walk_list (fun j H' => Same H2 H' ∧ H' F = some (.lst (((w.ps.take j).filter fun z => !decide ((atOf w z : Int) = (atOf w x : Int)) && lds w x z).map V.str)))
      ⟨Same.new hF, by rw [upd_same]; rfl⟩ (fun j H' _ h => SqL.of (h.1 _ _ enm2)) ?_ ?_
    · rintro j v H11 H12 hj ⟨s11, eF⟩ ⟨rfl, hv⟩
      rw [List.length_map] at hj
      rw [List.getElem?_map, List.getElem?_eq_getElem hj] at hv
      cases hv
      have tk : w.ps.take (j + 1) = w.ps.take j ++ [w.ps[j]] := by rw [List.take_add_one, List.getElem?_eq_getElem hj]; rfl
      have hy := List.getElem_mem hj
      have l3 := List.length_filter_le (fun z => !decide ((atOf w z : Int) = (atOf w x : Int)) && lds w x z) (w.ps.take j)
      rw [List.length_take] at l3
      rw [tk, List.filter_append, List.map_append]
      generalize w.ps[j] = y at hy ⊢
      have gy := at_val ok hy
      walk_at "go"
      refine ⟨rfl, ?_⟩
      walk_at "go"
      refine i_kDGetS (s11 _ _ eD) gy ?_
      walk_at "go"
      refine i_kDGetS (s11 _ _ eD) gx ?_
      walk_at "go"
      refine i_dec (fun c => ?_) (fun c => ?_)
      · refine ⟨s11, ?_⟩
        rw [eF, List.filter_cons, if_neg (by rw [decide_eq_true c]; simp), List.filter_nil, List.map_nil, List.append_nil]
      · walk_at "go"
        refine ⟨p, l, d, w, x, y, rfl, hw.same (s12.trans s11), ok, hx, hy, fun H13 s13 => ?_⟩
        have s1113 := s11.trans s13
        have eF13 := s13 _ _ eF
        walk_at "go"
        cases c2 : lds w x y with
        | true =>
          rw [if_pos rfl]
          walk_at "go"
          refine ⟨_, eF13, by rw [List.length_map, sizeLine_eq]; omega, Same.mut s1113 hF, ?_⟩
          rw [upd_same, List.filter_cons, if_pos (by rw [decide_eq_false c, c2]; rfl)]
          rfl
        | false =>
          rw [if_neg Bool.false_ne_true]
          refine ⟨s1113, ?_⟩
          rw [eF13, List.filter_cons, if_neg (by rw [c2, Bool.and_false]; decide), List.filter_nil, List.map_nil, List.append_nil]
    rintro H3 ⟨s3, eF⟩
    rw [List.length_map, List.take_length] at eF
    have fin : ∀ z ∈ (w.ps.filter fun z => !decide ((atOf w z : Int) = (atOf w x : Int)) && lds w x z), z ∈ w.ps ∧ lds w x z = true ∧ z ≠ x := fun z hz => by
      obtain ⟨h1, h2⟩ := List.mem_filter.mp hz
      rw [Bool.and_eq_true] at h2
      refine ⟨h1, h2.2, fun e => ?_⟩
      rw [e] at h2
      simp at h2
    have flen : (w.ps.filter fun z => !decide ((atOf w z : Int) = (atOf w x : Int)) && lds w x z).length ≤ 16 := Nat.le_trans (List.length_filter_le _ _) l16
    generalize (w.ps.filter fun z => !decide ((atOf w z : Int) = (atOf w x : Int)) && lds w x z) = far at eF fin flen
    have s03 := s12.trans s3
    walk_at "go"
    refine ⟨by walk_at "sz", fun g hg => ?_⟩
    have s4 : Same H3 (upd H3 g (.lst [])) := Same.new hg
    refine i_eqStrs (ys := []) (s4 _ _ eF) upd_same (fun y hy => nm_ok (ok.nm _ (fin y hy).1)) (by simp) ?_
    generalize upd H3 g (.lst []) = H4 at s4 ⊢
    have s04 := s03.trans s4
    have eF4 := s4 _ _ eF
    have eD4 := (s3.trans s4) _ _ eD
    walk_at "go"
    refine i_dec (fun _ => ?_) (fun fne => ?_)
    · walk_at "go"
      exact q _ s04
    obtain ⟨dx4, ep4⟩ := (hw.same s04).self
    walk_at "go"
    refine i_kMethC ep4 rfl ?_
    walk_at "go"
    refine ⟨p, l, d, w, rfl, hw.same s04, l48, fun tl as H5 s5 _ etl has => ?_⟩
    have s05 := s04.trans s5
    walk_at "go"
    refine i_lenL (SqL.of etl) ?_
    walk_at "go"
    rw [List.length_map, Two.len has]
    refine i_dec (fun _ => ?_) (fun h48 => ?_)
    · walk_at "go"
      exact q _ s05
    have eF5 := s5 _ _ eF4
    have fpos : 0 < far.length := List.length_pos_iff.mpr fne
    walk_at "go"
    refine i_lenL (SqL.of eF5) ?_
    walk_at "go"
    rw [List.length_map]
    refine i_rI ?_ (by omega)
    obtain ⟨y, i2, e2, _, a2⟩ := at_mod V.str (xs := far) (z := n / 16) (m := (far.length : Int)) rfl (by omega)
    obtain ⟨hy, hxy, hne⟩ := fin y (List.mem_of_getElem? e2)
    refine i_ixL (SqL.of eF5) a2 ?_
    obtain ⟨dx5, ep5⟩ := (hw.same s05).self
    walk_at "go"
    refine i_kMethC ep5 rfl ?_
    walk_at "go"
    refine ⟨p, l, d, w, rfl, hw.same s05, fun H6 p' l' d' s6 hw6 f1 f2 f3 => ?_⟩
    obtain ⟨dx6, ep6⟩ := hw6.self
    walk_at "go"
    refine i_kMethC ep6 rfl ?_
    walk_at "go"
    have lt48 : w.ts.length < 48 := by omega
    have m0 : (0 : Int) ≤ most := by unfold most; decide +kernel
    refine ⟨p', l', d', w, ⟨y, x, 0, true⟩, rfl, hw6, ok, hy, hx, hne, Int.le_refl 0, m0, lt48, fun H7 hw7 k7 => ?_⟩
    have okt := ok.tie (t := ⟨y, x, 0, true⟩) hy hx hne (Int.le_refl 0) m0 lt48
    have s57 : Same H5 H7 := fun b o e => k7 b o (ne_of_none e f1) (ne_of_none e f2) (ne_of_none e f3) (s6 b o e)
    have s07 := s05.trans s57
    have eD7 := (s5.trans s57) _ _ eD4
    have r1 : Rch (freeS (w.tie ⟨y, x, 0, true⟩).ts) x y := tie_more ((lds_iff ok hx).mp hxy)
    have r2 : Rch (freeS (w.tie ⟨y, x, 0, true⟩).ts) y x := tie_new (w := w) (u := ⟨y, x, 0, true⟩)
    have hx' : x ∈ (w.tie ⟨y, x, 0, true⟩).ps := hx
    have hy' : y ∈ (w.tie ⟨y, x, 0, true⟩).ps := hy
    have ea := (at_iff okt hx' hy').mpr ⟨r1, r2⟩
    have kx := (rc_iff okt hx').mpr r1
    have ky := (rc_iff okt hy').mpr r2
    have gx' := at_val okt hx'
    have gy' := at_val okt hy'
    walk_at "go"
    refine ⟨p', l', d', _, rfl, hw7, okt, s07 _ _ hT, fun A H8 s8 hA0 eA => ?_⟩
    walk_at "go"
    refine i_kDGetS eA gx' ?_
    walk_at "go"
    refine i_kDGetS eA gy' ?_
    walk_at "go"
    rw [decide_eq_true (by omega)]
    walk_at "go"
    refine ⟨p', l', d', _, x, y, rfl, hw7.same s8, okt, hx', hy', hne.symm, fun h => absurd kx h, fun _ h => absurd ky h, fun _ _ r nl H9 s9 _ _ wa => ?_⟩
    obtain ⟨dx9, er⟩ := wa.self
    walk_at "go"
    refine i_ringRing xk cr er ?_
    have s79 := s8.trans s9
    have s09 := s07.trans s79
    walk_at "go"
    refine ⟨p, l, d, w, rfl, hw.same s09, ok, s09 _ _ hT, fun B H10 s10 _ eB => ?_⟩
    walk_at "go"
    refine ⟨B, D, _, _, rfl, rfl, eB, (s79.trans s10) _ _ eD7, rfl, fun kv hkv => ?_, q _ (s09.trans s10)⟩
    obtain ⟨⟨z, m⟩, hz, rfl⟩ := List.mem_map.mp hkv
    have hzp : z ∈ w.ps := (ord_perm ok).mem_iff.mp (List.mem_map.mpr ⟨(z, m), hz, rfl⟩)
    have nd : ((placesOf w).map (·.1)).Nodup := by rw [plK_keys]; exact ord_nd ok
    refine ⟨?_, rfl⟩
    show valV (kvP (placesOf w)) (Sum.inr z) = some (.int (m : Nat))
    rw [val_kvP, look_of nd hz]
    rfl
end
end K18

set_option Elab.async false
set_option linter.all false
set_option maxRecDepth 100000
set_option maxHeartbeats 4000000
namespace K18
open PySem PySem.Spec PyProof.Rows L2 HX WB
local macro_rules | `(tactic| walk_at "side") => `(tactic| first
  | assumption
  | rfl
  | (show (0 : Int) < _; omega)
  | (unfold CDiv; omega)
  | (unfold CMul; omega)
  | (unfold CPow; omega)
  | (rw [sizeLine_eq]; omega)
  | omega)
local macro_rules | `(tactic| walk_at "e") => `(tactic| first
  | ((with_reducible apply i_var); exact rfl)
  | (with_reducible apply i_c)
  | (with_reducible apply i_op)
  | (with_reducible apply i_un)
  | (with_reducible apply i_rI0)
  | ((with_reducible apply i_rI); (case c => walk_at "side"))
  | (with_reducible apply i_rGe)
  | (with_reducible apply i_rGt)
  | (with_reducible apply i_rU)
  | (with_reducible apply i_rEqI)
  | (with_reducible apply i_rNeI)
  | (with_reducible apply i_rEqS)
  | (with_reducible apply i_rNeS)
  | (with_reducible apply i_rEqB)
  | (with_reducible apply i_rNeB)
  | (with_reducible apply i_rIsN)
  | (with_reducible apply i_rNotN)
  | (with_reducible apply i_rInS)
  | (with_reducible apply i_rNotInS)
  | ((with_reducible apply i_catS); (case c => walk_at "side"))
  | (with_reducible apply i_tcb)
  | (with_reducible apply i_nil)
  | (with_reducible apply i_cons)
  | ((with_reducible apply i_lenS); (case c => walk_at "side"))
  | ((with_reducible apply i_lenL); assumption)
  | (with_reducible apply i_abs)
  | (with_reducible apply i_max2)
  | (with_reducible apply i_min2)
  | ((with_reducible apply i_strI); (case c => walk_at "side"))
  | (with_reducible apply i_intB)
  | (with_reducible apply i_test)
  | (with_reducible apply i_tB)
  | (with_reducible apply i_kB)
  | (with_reducible apply i_and)
  | (with_reducible apply i_or)
  | (with_reducible apply i_not)
  | (with_reducible apply i_if)
  | (with_reducible apply i_andV)
  | (with_reducible apply i_orV)
  | (with_reducible apply i_notV)
  | (with_reducible apply i_kAndV)
  | (with_reducible apply i_kOrV)
  | (with_reducible apply i_kNotV)
  | (with_reducible apply i_chain)
  | (with_reducible apply i_kChain)
  | (with_reducible apply i_drop)
  | (with_reducible apply i_ret)
  | (with_reducible apply i_retN)
  | (with_reducible apply i_ifS)
  | (with_reducible apply i_asg)
  | (with_reducible apply i_gName)
  | (with_reducible apply i_for)
  | (with_reducible apply i_lc)
  | (with_reducible apply i_iList)
  | (with_reducible apply i_iTup)
  | (with_reducible apply i_iStr)
  | (with_reducible apply i_kStrI)
  | (with_reducible apply i_lst)
  | (with_reducible apply i_tup)
  | (with_reducible apply i_call)
  | (with_reducible apply i_m1)
  | (with_reducible apply i_kStr)
  | (with_reducible apply i_bm)
  | (with_reducible apply i_bm0)
  | (with_reducible apply i_part)
  | (with_reducible apply i_kInt)
  | (with_reducible apply i_noPart)
  | (with_reducible apply i_sl)
  | (with_reducible apply i_range1)
  | (with_reducible apply i_range2)
  | ((with_reducible apply i_kRng1); (case c => walk_at "side"))
  | ((with_reducible apply i_kRng2); (case c => walk_at "side"))
  | (with_reducible apply i_gCons)
  | (with_reducible apply i_gNil)
  | (with_reducible apply i_gSub)
  | (with_reducible apply i_iZip)
  | (with_reducible apply i_yes)
  | (with_reducible apply i_ift)
  | (with_reducible apply i_iff)
  | (with_reducible apply i_nb))
local macro_rules | `(tactic| walk_at "go") => `(tactic| repeat (first | (with_reducible apply i_seq) | (with_reducible apply i_next) | walk_at "e"))
local macro_rules | `(tactic| walk_at "ge") => `(tactic| repeat walk_at "e")
local macro_rules | `(tactic| walk_at "sz") => `(tactic| first | decide | (rw [sizeLine_eq]; simp; done) | (rw [sizeLine_eq]; omega))
local macro_rules | `(tactic| walk_at "side") => `(tactic| (with_reducible exact WB.most_pos))
local macro_rules | `(tactic| walk_at "e") => `(tactic| first
  | ((with_reducible apply i_isT (b := true)); exact rfl)
  | ((with_reducible apply i_isT (b := false)); exact rfl)
  | (with_reducible apply i_fld)
  | ((with_reducible apply i_kFld); (case h => assumption); (case c1 => assumption); (case c2 => assumption); (case e => first | exact lk_number | exact lk_tail | exact lk_head | exact lk_load | exact lk_oneway | exact lk_points | exact lk_ties | exact lk_given))
  | (with_reducible apply i_sfld)
  | ((with_reducible apply i_kSFld); (case h => first | assumption | exact upd_same); (case c1 => assumption); (case c2 => assumption); (case e => exact Nat.le_of_ble_eq_true rfl))
  | (with_reducible apply i_methC)
  | (with_reducible apply i_make)
  | (with_reducible apply i_fldaug)
  | (with_reducible apply i_vals)
  | (with_reducible apply i_items)
  | (with_reducible apply i_dget)
  | (with_reducible apply i_dput)
  | (with_reducible apply i_din)
  | (with_reducible apply i_dnotin)
  | (with_reducible apply i_ddel)
  | (with_reducible apply i_dc)
  | (with_reducible apply i_enum))
theorem i_eqSame {K : PySem.W.Frag} {H : Hp} {Q : VK} {D p : Addr} {ys : List Str} (h : SqL K H D (ys.map V.str)) (h2 : SqL K H p (ys.map V.str)) (o : ∀ y ∈ ys, okS y = true) (q : Q (.bl true) H) : rEqD K (.ref D) (.ref p) H Q :=
  ⟨_, _, .lst h (dp_strs ys), .lst h2 (dp_strs ys), shaped_strs o, shaped_strs o, by rw [SeqAt.eqv_refl _ (by rw [PyData.canLay0]; exact lay_strs o)]; exact q⟩
theorem texts_ok {w : Wb} (ok : Wok w) (hg : w.g ≤ most) : ∀ y ∈ textsOf w, okS y = true := fun y hy => by
  obtain ⟨l, hl, rfl⟩ := List.mem_map.mp hy
  exact Ln.text_ok (lines_fine ok hg l hl)
theorem tab_keep {K : PySem.W.Frag} {H H' : Hp} {p l d T : Addr} {w : Wb} (hT : H T = some (AnyL.TabO T)) (hw : WebAt K H p l d w) (k : Keep H H' p l d) : H' T = some (AnyL.TabO T) := by
  obtain ⟨dx, ep⟩ := hw.self
  obtain ⟨kvs, ed, _⟩ := hw.ties
  refine k T _ (fun c => ?_) (fun c => ?_) (fun c => ?_) hT
  · rw [c, ep] at hT
    cases hT
  · rw [c, hw.pts] at hT
    cases hT
  · rw [c, ed] at hT
    cases hT
section
variable {P : Program} {w : World} {K : PySem.W.Frag} {mg : Str → Option Value} {base : Heap}
def sp_law (K : PySem.W.Frag) : Sp := fun vs H Q _ => ∃ (a : Addr) (ns : List Int), vs = [.ref a] ∧ SqL K H a (ns.map V.int) ∧ ns.length ≤ 63 ∧ H (tb K) = some (AnyL.TabO (tb K)) ∧ ∀ H', H' (tb K) = some (AnyL.TabO (tb K)) → Q (.bl true) H'
theorem ok_law (T : Tx K mg) (J : Js P w K mg base) (xk : extra K = true) : FnOk P w K mg base CX0 9 (He.ga K "law") T.fd_law ["_law_script"] (sp_law K) := by
  refine T.F_law.ok sc_law (fun vs H Q E h => ?_) (fun cdv A outer s H vs Q E hr h => ?_)
  · obtain ⟨_, _, rfl, _⟩ := h
    rfl
  · obtain ⟨a, ns, rfl, hS, hln, hT, q⟩ := h
    have hu := hu_of hr
    refine ⟨_, PSs.nox (pss_cons (ps_set (i := 1) sc_law.nd rfl (Or.inl rfl) (pe_call (ok_law_web T) (hr.mono (by decide)) (by rfl) T.g_law_web T.F_law_web.kp T.k_law_web .nil pass0 (pa_cons (pe_call (ok_law_names T) (hr.mono (by decide)) (by rfl) T.g_law_names T.F_law_names.kp T.k_law_names .nil pass0 (pa_cons (pe_call (ok_law_number T) (hr.mono (by decide)) (by rfl) T.g_law_number T.F_law_number.kp T.k_law_number .nil pass0 (pa_cons (pv 0) (pa_cons pe_int pa_nil))) (pa_cons (pe_op op_add pe_int (pe_op op_mod (pe_call (ok_law_number T) (hr.mono (by decide)) (by rfl) T.g_law_number T.F_law_number.kp T.k_law_number .nil pass0 (pa_cons (pv 0) (pa_cons pe_int pa_nil))) pe_int)) pa_nil))) pa_nil)))
      (pss_cons (ps_for PassesOwn.never rfl (pi_range1 rfl T.b_range (pa_cons (pe_callB (x_min2 rfl) (by rfl) T.b_min (by decide +kernel) (pa_cons pe_int (pa_cons (pe_callB x_lenL (by rfl) T.b_len (by decide +kernel) (pa_cons (pv 0) pa_nil)) pa_nil))) pa_nil)) (pg_name (i := 2) sc_law.nd rfl (Or.inl rfl))
      (pss_cons (ps_expr (pe_call (ok_law_deed T) (hr.mono (by decide)) (by rfl) T.g_law_deed T.F_law_deed.kp T.k_law_deed .nil pass0 (pa_cons (pv 1) (pa_cons (pv 0) (pa_cons (pv 2) (pa_cons pe_int pa_nil))))))
      (pss_one (ps_if (PW.pt (pw_and (pt_cmpR op_eq (pe_op op_mod (pv 2) pe_int) pe_int (nomark _)) (pw_and1 (pt_not (pt_val (pe_call (ok_law_right T J xk) (hr.mono (by decide)) (by rfl) T.g_law_right T.F_law_right.kp T.k_law_right .nil pass0 (pa_cons (pv 1) pa_nil))))))) (pss_one (ps_ret pe_bl)) pss_nil))))
      (pss_cons (ps_set (i := 3) sc_law.nd rfl (Or.inl rfl) (pe_call (ok_web_lines T) (hr.mono (by decide)) (by rfl) T.g_web_lines T.F_web_lines.kp T.k_web_lines .nil pass0 (pa_cons (pv 1) pa_nil)))
      (pss_cons (ps_for PassesOwn.never rfl (pi_range1 rfl T.b_range (pa_cons pe_int pa_nil)) (pg_name (i := 2) sc_law.nd rfl (Or.inl rfl))
      (pss_one (ps_if (pt_not (pt_val (pe_call (ok_law_closed T J xk) (hr.mono (by decide)) (by rfl) T.g_law_closed T.F_law_closed.kp T.k_law_closed .nil pass0 (pa_cons (pv 1) (pa_cons (pe_call (ok_law_number T) (hr.mono (by decide)) (by rfl) T.g_law_number T.F_law_number.kp T.k_law_number .nil pass0 (pa_cons (pv 0) (pa_cons (pe_op op_add pe_int (pv 2)) pa_nil))) pa_nil))))) (pss_one (ps_ret pe_bl)) pss_nil)))
      (pss_one (ps_ret (pe_and (pe_call (ok_law_right T J xk) (hr.mono (by decide)) (by rfl) T.g_law_right T.F_law_right.kp T.k_law_right .nil pass0 (pa_cons (pv 1) pa_nil)) (pe_one (pe_cmpR (op_eqD hr.units) (pe_call (ok_web_lines T) (hr.mono (by decide)) (by rfl) T.g_web_lines T.F_web_lines.kp T.k_web_lines .nil pass0 (pa_cons (pv 1) pa_nil)) (pv 3) (nomark _)))))))))), ?_⟩
    have nlen : (ns.map V.int).length = ns.length := List.length_map _
    walk_at "go"
    refine ⟨a, ns, 1, rfl, by decide, by decide, hS, by omega, fun n1 n10 n11 => ?_⟩
    walk_at "go"
    refine ⟨a, ns, 0, rfl, by decide, by decide, hS, by omega, fun n2 n20 n21 => ?_⟩
    walk_at "go"
    refine ⟨n1, _, rfl, n10, by omega, by omega, fun b ps H1 s1 hb eb nd pl old => ?_⟩
    walk_at "go"
    refine ⟨b, ps, rfl, eb, nd, fun x hx => (old x hx).1, by omega, fun p l d H2 s2 fp fl fd hw => ?_⟩
    have s12 := s1.trans s2
    have sc2 : Sc K H2 a (ns.map V.int) l := Sc.same (Sc.of hS (s1.free fl)) s12
    have nice0 : Nice ⟨ps, [], 0⟩ := ⟨⟨nd, fun x hx => (old x hx).1, by show ps.length ≤ 16; omega, by simp, by simp, by simp, by simp⟩, by show 2 ≤ ps.length; omega, old⟩
    walk_at "go"
    refine i_lenL (Sc.sq sc2) ?_
    rw [nlen]
    walk_at "go"
    refine for_it walk_range (fun i σ H' => ∃ d w, WebAt K H' p l d w ∧ Nice w ∧ w.g ≤ (i : Int) ∧ Sc K H' a (ns.map V.int) l ∧ H' (tb K) = some (AnyL.TabO (tb K)) ∧ ∃ v, σ = [some (.ref a), some (.ref p), v, none])
      ⟨d, _, hw, nice0, Int.le_refl _, sc2, s12 _ _ hT, none, rfl⟩ (fun _ _ _ _ _ => trivial) ?_ ?_
    · rintro i v σ H3 H4 hi ⟨d, w, hw, nice, hg, sc, hT3, v0, rfl⟩ ⟨rfl, rfl⟩
      have hi63 : i < 63 := by omega
      walk_at "go"
      refine ⟨p, l, d, w, a, ns, _, rfl, by omega, by omega, Sc.sq sc, by omega, hw, nice, fun H' d' w' h1 n1 g1 k1 _ => ?_⟩
      have hT' := tab_keep hT3 hw k1
      have sc' := Sc.keep sc hw k1
      walk_at "go"
      refine i_dec (fun _ => ?_) (fun _ => ?_)
      · walk_at "go"
        refine ⟨p, l, d', w', rfl, h1, n1.ok, hT', fun H'' s'' => ?_⟩
        walk_at "go"
        exact ⟨d', w', h1.same s'', n1, by omega, Sc.same sc' s'', s'' _ _ hT', _, rfl⟩
      · walk_at "go"
        exact ⟨d', w', h1, n1, by omega, sc', hT', _, rfl⟩
    · rintro σ H4 ⟨d, w, hw, nice, hg, sc, hT4, v4, rfl⟩
      have gm : w.g ≤ most := by
        have : (1000 : Int) ≤ most := by decide +kernel
        omega
      have ok := nice.ok
      have two := nice.two
      walk_at "go"
      refine ⟨p, l, d, w, rfl, hw, ok, gm, fun La H5 s5 hLa eL => ?_⟩
      walk_at "go"
      refine for_it walk_range (fun i σ H' => Same H5 H' ∧ ∃ v4, σ = [some (.ref a), some (.ref p), v4, some (.ref La)])
        ⟨Same.refl _, v4, rfl⟩ (fun _ _ _ _ _ => trivial) ?_ ?_
      · rintro i v σ H6 H7 hi ⟨s6, v4, rfl⟩ ⟨rfl, rfl⟩
        have hi4 : i < 3 := by simpa using hi
        have s46 := s5.trans s6
        walk_at "go"
        refine ⟨a, ns, _, rfl, by omega, by omega, Sc.sq (Sc.same sc s46), by omega, fun m m0 m1 => ?_⟩
        walk_at "go"
        refine ⟨p, l, d, w, m, rfl, hw.same s46, ok, by omega, m0, by omega, s46 _ _ hT4, fun H8 s8 => ?_⟩
        walk_at "go"
        exact ⟨s6.trans s8, _, rfl⟩
      · rintro σ H6 ⟨s6, v4, rfl⟩
        have s46 := s5.trans s6
        have hT6 := s46 _ _ hT4
        walk_at "go"
        refine ⟨p, l, d, w, rfl, hw.same s46, ok, hT6, fun H7 s7 => ?_⟩
        walk_at "go"
        refine ⟨p, l, d, w, rfl, (hw.same s46).same s7, ok, gm, fun ln2 H8 s8 _ eln2 => ?_⟩
        walk_at "go"
        refine i_eqSame (SqL.of eln2) (SqL.of (((s6.trans s7).trans s8) _ _ eL)) (texts_ok ok gm) ?_
        exact q _ ((s7.trans s8) _ _ hT6)
end
end K18

set_option Elab.async false
set_option linter.all false
set_option maxRecDepth 100000
set_option maxHeartbeats 4000000
namespace K18
open PySem PySem.Spec PyProof.Rows L2 HX WB

theorem facts {P : Program} {w : World} {K : PySem.W.Frag} {h : Heap} {mg : Str → Option Value} {f : Addr} (X : K.In h) (G : h.Ns mainGlobals mg) (hfa : mg ("law" : Str) = some (.ref f)) (c0 : He.SaysX extra fa fn K) (cd : AnyL.CodeOf K (He.ga K "_is_led_into")) :
    ∃ fd : FuncData, (∀ (s : Shared) (v : Value), BindsTo s fd ⟨[v], []⟩ [("_law_script", v)]) ∧ ∀ base : Heap, K.In base → base.Ns mainGlobals mg → GxR.TabB base mg (AnyL.cdV K (He.ga K "_is_led_into")) (AnyL.tbV K (He.ga K "_is_led_into")) → FnOk P w K mg base CX0 9 f fd ["_law_script"] (sp_law K) := by
  obtain ⟨xk, c⟩ := c0.both
  obtain ⟨fd0, F0⟩ := c.def_ 0 (d := d_wall) rfl
  obtain ⟨fd1, F1⟩ := c.def_ 1 (d := d_has_only) rfl
  obtain ⟨fd2, F2⟩ := c.def_ 2 (d := d_is_whole) rfl
  obtain ⟨fd3, F3⟩ := c.def_ 3 (d := d_is_among) rfl
  obtain ⟨fd4, F4⟩ := c.def_ 4 (d := d_is_name) rfl
  obtain ⟨fd5, F5⟩ := c.def_ 5 (d := d_number_text) rfl
  obtain ⟨fd6, F6⟩ := c.def_ 6 (d := d_need_all) rfl
  obtain ⟨fd7, F7⟩ := c.def_ 7 (d := d_names_in) rfl
  obtain ⟨fd8, F8⟩ := c.def_ 8 (d := d_free_steps) rfl
  obtain ⟨fd9, F9⟩ := c.def_ 9 (d := d_came_from) rfl
  obtain ⟨fd10, F10⟩ := c.def_ 10 (d := d_numbers_to) rfl
  obtain ⟨fd11, F11⟩ := c.def_ 11 (d := d_Way_init) rfl
  obtain ⟨fd12, F12⟩ := c.def_ 12 (d := d_Border_init) rfl
  obtain ⟨fd13, F13⟩ := c.def_ 13 (d := d_way_or_border) rfl
  obtain ⟨fd14, F14⟩ := c.def_ 14 (d := d_need_points) rfl
  obtain ⟨fd15, F15⟩ := c.def_ 15 (d := d_Ring_init) rfl
  obtain ⟨fd16, F16⟩ := c.def_ 16 (d := d_comes) rfl
  obtain ⟨fd17, F17⟩ := c.def_ 17 (d := d_knots_by_points) rfl
  obtain ⟨fd18, F18⟩ := c.def_ 18 (d := d_is_led_into) rfl
  obtain ⟨fd19, F19⟩ := c.def_ 19 (d := d_first_free) rfl
  obtain ⟨fd20, F20⟩ := c.def_ 20 (d := d_knots) rfl
  obtain ⟨fd21, F21⟩ := c.def_ 21 (d := d_ring_through) rfl
  obtain ⟨fd22, F22⟩ := c.def_ 22 (d := d_starts) rfl
  obtain ⟨fd23, F23⟩ := c.def_ 23 (d := d_Tie_init) rfl
  obtain ⟨fd24, F24⟩ := c.def_ 24 (d := d_between) rfl
  obtain ⟨fd25, F25⟩ := c.def_ 25 (d := d_turned) rfl
  obtain ⟨fd26, F26⟩ := c.def_ 26 (d := d_Web_init) rfl
  obtain ⟨fd27, F27⟩ := c.def_ 27 (d := d_Web_points) rfl
  obtain ⟨fd28, F28⟩ := c.def_ 28 (d := d_Web_ties) rfl
  obtain ⟨fd29, F29⟩ := c.def_ 29 (d := d_Web_given) rfl
  obtain ⟨fd30, F30⟩ := c.def_ 30 (d := d_Web_put_point) rfl
  obtain ⟨fd31, F31⟩ := c.def_ 31 (d := d_Web_put_tie) rfl
  obtain ⟨fd32, F32⟩ := c.def_ 32 (d := d_Web_drop_tie) rfl
  obtain ⟨fd33, F33⟩ := c.def_ 33 (d := d_Web_join) rfl
  obtain ⟨fd34, F34⟩ := c.def_ 34 (d := d_Web_part) rfl
  obtain ⟨fd35, F35⟩ := c.def_ 35 (d := d_Web_copied) rfl
  obtain ⟨fd36, F36⟩ := c.def_ 36 (d := d_Web_need_point) rfl
  obtain ⟨fd37, F37⟩ := c.def_ 37 (d := d_Web_need_new_name) rfl
  obtain ⟨fd38, F38⟩ := c.def_ 38 (d := d_Web_need_new_point) rfl
  obtain ⟨fd39, F39⟩ := c.def_ 39 (d := d_Web_need_tie) rfl
  obtain ⟨fd40, F40⟩ := c.def_ 40 (d := d_Web_need_ties_at) rfl
  obtain ⟨fd41, F41⟩ := c.def_ 41 (d := d_need_load) rfl
  obtain ⟨fd42, F42⟩ := c.def_ 42 (d := d_tie_line) rfl
  obtain ⟨fd43, F43⟩ := c.def_ 43 (d := d_web_lines) rfl
  obtain ⟨fd44, F44⟩ := c.def_ 44 (d := d_law_number) rfl
  obtain ⟨fd45, F45⟩ := c.def_ 45 (d := d_law_mixed) rfl
  obtain ⟨fd46, F46⟩ := c.def_ 46 (d := d_law_names) rfl
  obtain ⟨fd47, F47⟩ := c.def_ 47 (d := d_law_load) rfl
  obtain ⟨fd48, F48⟩ := c.def_ 48 (d := d_law_web) rfl
  obtain ⟨fd49, F49⟩ := c.def_ 49 (d := d_law_deed) rfl
  obtain ⟨fd50, F50⟩ := c.def_ 50 (d := d_law_leads) rfl
  obtain ⟨fd51, F51⟩ := c.def_ 51 (d := d_law_pair_right) rfl
  obtain ⟨fd52, F52⟩ := c.def_ 52 (d := d_law_places) rfl
  obtain ⟨fd53, F53⟩ := c.def_ 53 (d := d_law_right) rfl
  obtain ⟨fd54, F54⟩ := c.def_ 54 (d := d_law_closed) rfl
  obtain ⟨fd55, F55⟩ := c.def_ 55 (d := d_law) rfl
  let T : Tx K mg := {
    b_all := He.free_ok X G (c.fact 0 (f := .free "all") rfl),
    b_any := He.free_ok X G (c.fact 1 (f := .free "any") rfl),
    b_bool := He.free_ok X G (c.fact 2 (f := .free "bool") rfl),
    b_dict := He.free_ok X G (c.fact 3 (f := .free "dict") rfl),
    b_enumerate := He.free_ok X G (c.fact 4 (f := .free "enumerate") rfl),
    b_int := He.free_ok X G (c.fact 5 (f := .free "int") rfl),
    b_isinstance := He.free_ok X G (c.fact 6 (f := .free "isinstance") rfl),
    b_len := He.free_ok X G (c.fact 7 (f := .free "len") rfl),
    b_list := He.free_ok X G (c.fact 8 (f := .free "list") rfl),
    b_min := He.free_ok X G (c.fact 9 (f := .free "min") rfl),
    b_range := He.free_ok X G (c.fact 10 (f := .free "range") rfl),
    b_set := He.free_ok X G (c.fact 11 (f := .free "set") rfl),
    b_sorted := He.free_ok X G (c.fact 12 (f := .free "sorted") rfl),
    b_str := He.free_ok X G (c.fact 13 (f := .free "str") rfl),
    b_tie := He.free_ok X G (c.fact 14 (f := .free "tie") rfl),
    c_LETTERS := He.str_ok X G (c.fact 15 (f := .str "LETTERS" "abcdefghijklmnopqrstuvwxyz") rfl),
    c_MOST_LETTERS := He.int_ok X G (c.fact 16 (f := .int "MOST_LETTERS" 12) rfl),
    c_MOST := He.int_ok X G (c.fact 17 (f := .int "MOST" 1000000000000000000000000000000000000000000000000000000000000) rfl),
    c_MOST_POINTS := He.int_ok X G (c.fact 18 (f := .int "MOST_POINTS" 16) rfl),
    c_MOST_TIES := He.int_ok X G (c.fact 19 (f := .int "MOST_TIES" 48) rfl),
    g_Way := He.glo_ok X G (c.fact 20 (f := .glo "Way") rfl),
    cl_Way := He.cls_ok (c.fact 21 (f := .cls "Way") rfl),
    mk_Way := He.mkr_ok (c.fact 22 (f := .mkr "Way") rfl),
    na_Way_numbers := He.noat_ok (c.fact 23 (f := .noat "Way" "numbers") rfl),
    g_Border := He.glo_ok X G (c.fact 24 (f := .glo "Border") rfl),
    cl_Border := He.cls_ok (c.fact 25 (f := .cls "Border") rfl),
    mk_Border := He.mkr_ok (c.fact 26 (f := .mkr "Border") rfl),
    na_Border_names := He.noat_ok (c.fact 27 (f := .noat "Border" "names") rfl),
    g_Ring := He.glo_ok X G (c.fact 28 (f := .glo "Ring") rfl),
    cl_Ring := He.cls_ok (c.fact 29 (f := .cls "Ring") rfl),
    mk_Ring := He.mkr_ok (c.fact 30 (f := .mkr "Ring") rfl),
    na_Ring_numbers := He.noat_ok (c.fact 31 (f := .noat "Ring" "numbers") rfl),
    g_Tie := He.glo_ok X G (c.fact 32 (f := .glo "Tie") rfl),
    cl_Tie := He.cls_ok (c.fact 33 (f := .cls "Tie") rfl),
    mk_Tie := He.mkr_ok (c.fact 34 (f := .mkr "Tie") rfl),
    na_Tie_number := He.noat_ok (c.fact 35 (f := .noat "Tie" "number") rfl),
    na_Tie_tail := He.noat_ok (c.fact 36 (f := .noat "Tie" "tail") rfl),
    na_Tie_head := He.noat_ok (c.fact 37 (f := .noat "Tie" "head") rfl),
    na_Tie_load := He.noat_ok (c.fact 38 (f := .noat "Tie" "load") rfl),
    na_Tie_is_oneway := He.noat_ok (c.fact 39 (f := .noat "Tie" "is_oneway") rfl),
    g_Web := He.glo_ok X G (c.fact 40 (f := .glo "Web") rfl),
    cl_Web := He.cls_ok (c.fact 41 (f := .cls "Web") rfl),
    mk_Web := He.mkr_ok (c.fact 42 (f := .mkr "Web") rfl),
    na_Web_points := He.noat_ok (c.fact 43 (f := .noat "Web" "_points") rfl),
    na_Web_ties := He.noat_ok (c.fact 44 (f := .noat "Web" "_ties") rfl),
    na_Web_given := He.noat_ok (c.fact 45 (f := .noat "Web" "_given") rfl),
    g_wall := He.glo_ok X G (c.fact 46 (f := .glo "_wall") rfl),
    g_has_only := He.glo_ok X G (c.fact 47 (f := .glo "_has_only") rfl),
    g_is_whole := He.glo_ok X G (c.fact 48 (f := .glo "is_whole") rfl),
    g_is_among := He.glo_ok X G (c.fact 49 (f := .glo "is_among") rfl),
    g_is_name := He.glo_ok X G (c.fact 50 (f := .glo "is_name") rfl),
    g_number_text := He.glo_ok X G (c.fact 51 (f := .glo "number_text") rfl),
    g_need_all := He.glo_ok X G (c.fact 52 (f := .glo "need_all") rfl),
    g_names_in := He.glo_ok X G (c.fact 53 (f := .glo "names_in") rfl),
    g_free_steps := He.glo_ok X G (c.fact 54 (f := .glo "free_steps") rfl),
    g_came_from := He.glo_ok X G (c.fact 55 (f := .glo "came_from") rfl),
    g_numbers_to := He.glo_ok X G (c.fact 56 (f := .glo "numbers_to") rfl),
    g_way_or_border := He.glo_ok X G (c.fact 57 (f := .glo "way_or_border") rfl),
    g_need_points := He.glo_ok X G (c.fact 58 (f := .glo "need_points") rfl),
    g_comes := He.glo_ok X G (c.fact 59 (f := .glo "comes") rfl),
    g_knots_by_points := He.glo_ok X G (c.fact 60 (f := .glo "_knots_by_points") rfl),
    g_is_led_into := He.glo_ok X G (c.fact 61 (f := .glo "_is_led_into") rfl),
    g_first_free := He.glo_ok X G (c.fact 62 (f := .glo "_first_free") rfl),
    g_knots := He.glo_ok X G (c.fact 63 (f := .glo "knots") rfl),
    g_ring_through := He.glo_ok X G (c.fact 64 (f := .glo "ring_through") rfl),
    g_starts := He.glo_ok X G (c.fact 65 (f := .glo "starts") rfl),
    g_between := He.glo_ok X G (c.fact 66 (f := .glo "_between") rfl),
    g_turned := He.glo_ok X G (c.fact 67 (f := .glo "_turned") rfl),
    m_Web_points := He.meth_ok (c.fact 68 (f := .meth "Web" "points") rfl),
    m_Web_ties := He.meth_ok (c.fact 69 (f := .meth "Web" "ties") rfl),
    m_Web_given := He.meth_ok (c.fact 70 (f := .meth "Web" "given") rfl),
    m_Web_put_point := He.meth_ok (c.fact 71 (f := .meth "Web" "put_point") rfl),
    m_Web_put_tie := He.meth_ok (c.fact 72 (f := .meth "Web" "put_tie") rfl),
    m_Web_drop_tie := He.meth_ok (c.fact 73 (f := .meth "Web" "drop_tie") rfl),
    m_Web_join := He.meth_ok (c.fact 74 (f := .meth "Web" "join") rfl),
    m_Web_part := He.meth_ok (c.fact 75 (f := .meth "Web" "part") rfl),
    m_Web_copied := He.meth_ok (c.fact 76 (f := .meth "Web" "copied") rfl),
    m_Web_need_point := He.meth_ok (c.fact 77 (f := .meth "Web" "_need_point") rfl),
    m_Web_need_new_name := He.meth_ok (c.fact 78 (f := .meth "Web" "_need_new_name") rfl),
    m_Web_need_new_point := He.meth_ok (c.fact 79 (f := .meth "Web" "_need_new_point") rfl),
    m_Web_need_tie := He.meth_ok (c.fact 80 (f := .meth "Web" "_need_tie") rfl),
    m_Web_need_ties_at := He.meth_ok (c.fact 81 (f := .meth "Web" "_need_ties_at") rfl),
    g_need_load := He.glo_ok X G (c.fact 82 (f := .glo "_need_load") rfl),
    g_tie_line := He.glo_ok X G (c.fact 83 (f := .glo "_tie_line") rfl),
    g_web_lines := He.glo_ok X G (c.fact 84 (f := .glo "web_lines") rfl),
    g_law_number := He.glo_ok X G (c.fact 85 (f := .glo "_law_number") rfl),
    g_law_mixed := He.glo_ok X G (c.fact 86 (f := .glo "_law_mixed") rfl),
    g_law_names := He.glo_ok X G (c.fact 87 (f := .glo "_law_names") rfl),
    g_law_load := He.glo_ok X G (c.fact 88 (f := .glo "_law_load") rfl),
    g_law_web := He.glo_ok X G (c.fact 89 (f := .glo "_law_web") rfl),
    g_law_deed := He.glo_ok X G (c.fact 90 (f := .glo "_law_deed") rfl),
    g_law_leads := He.glo_ok X G (c.fact 91 (f := .glo "_law_leads") rfl),
    g_law_pair_right := He.glo_ok X G (c.fact 92 (f := .glo "_law_pair_right") rfl),
    g_law_places := He.glo_ok X G (c.fact 93 (f := .glo "_law_places") rfl),
    g_law_right := He.glo_ok X G (c.fact 94 (f := .glo "_law_right") rfl),
    g_law_closed := He.glo_ok X G (c.fact 95 (f := .glo "_law_closed") rfl),
    g_law := He.glo_ok X G (c.fact 96 (f := .glo "law") rfl),
    fd_wall := fd0,
    F_wall := F0,
    k_wall := FunD.bindsN F0 fun _ _ _ _ _ _ us hl => match us, hl with | [_], _ => rfl,
    fd_has_only := fd1,
    F_has_only := F1,
    k_has_only := FunD.bindsN F1 fun _ _ _ _ _ _ us hl => match us, hl with | [_, _], _ => rfl,
    fd_is_whole := fd2,
    F_is_whole := F2,
    k_is_whole := FunD.bindsN F2 fun _ _ _ _ _ _ us hl => match us, hl with | [_], _ => rfl,
    fd_is_among := fd3,
    F_is_among := F3,
    k_is_among := FunD.bindsN F3 fun _ _ _ _ _ _ us hl => match us, hl with | [_, _, _], _ => rfl,
    fd_is_name := fd4,
    F_is_name := F4,
    k_is_name := FunD.bindsN F4 fun _ _ _ _ _ _ us hl => match us, hl with | [_], _ => rfl,
    fd_number_text := fd5,
    F_number_text := F5,
    k_number_text := FunD.bindsN F5 fun _ _ _ _ _ _ us hl => match us, hl with | [_], _ => rfl,
    fd_need_all := fd6,
    F_need_all := F6,
    k_need_all := FunD.bindsN F6 fun _ _ _ _ _ _ us hl => match us, hl with | [_, _], _ => rfl,
    fd_names_in := fd7,
    F_names_in := F7,
    k_names_in := FunD.bindsN F7 fun _ _ _ _ _ _ us hl => match us, hl with | [_, _], _ => rfl,
    fd_free_steps := fd8,
    F_free_steps := F8,
    k_free_steps := FunD.bindsN F8 fun _ _ _ _ _ _ us hl => match us, hl with | [_, _], _ => rfl,
    fd_came_from := fd9,
    F_came_from := F9,
    k_came_from := FunD.bindsN F9 fun _ _ _ _ _ _ us hl => match us, hl with | [_, _], _ => rfl,
    fd_numbers_to := fd10,
    F_numbers_to := F10,
    k_numbers_to := FunD.bindsN F10 fun _ _ _ _ _ _ us hl => match us, hl with | [_, _], _ => rfl,
    fd_Way_init := fd11,
    F_Way_init := F11,
    k_Way_init := FunD.bindsN F11 fun _ _ _ _ _ _ us hl => match us, hl with | [_, _], _ => rfl,
    fd_Border_init := fd12,
    F_Border_init := F12,
    k_Border_init := FunD.bindsN F12 fun _ _ _ _ _ _ us hl => match us, hl with | [_, _], _ => rfl,
    fd_way_or_border := fd13,
    F_way_or_border := F13,
    k_way_or_border := FunD.bindsN F13 fun _ _ _ _ _ _ us hl => match us, hl with | [_, _, _], _ => rfl,
    fd_need_points := fd14,
    F_need_points := F14,
    k_need_points := FunD.bindsN F14 fun _ _ _ _ _ _ us hl => match us, hl with | [_, _], _ => rfl,
    fd_Ring_init := fd15,
    F_Ring_init := F15,
    k_Ring_init := FunD.bindsN F15 fun _ _ _ _ _ _ us hl => match us, hl with | [_, _], _ => rfl,
    fd_comes := fd16,
    F_comes := F16,
    k_comes := FunD.bindsN F16 fun _ _ _ _ _ _ us hl => match us, hl with | [_, _, _], _ => rfl,
    fd_knots_by_points := fd17,
    F_knots_by_points := F17,
    k_knots_by_points := FunD.bindsN F17 fun _ _ _ _ _ _ us hl => match us, hl with | [_], _ => rfl,
    fd_is_led_into := fd18,
    F_is_led_into := F18,
    k_is_led_into := FunD.bindsN F18 fun _ _ _ _ _ _ us hl => match us, hl with | [_, _, _], _ => rfl,
    fd_first_free := fd19,
    F_first_free := F19,
    k_first_free := FunD.bindsN F19 fun _ _ _ _ _ _ us hl => match us, hl with | [_, _], _ => rfl,
    fd_knots := fd20,
    F_knots := F20,
    k_knots := FunD.bindsN F20 fun _ _ _ _ _ _ us hl => match us, hl with | [_], _ => rfl,
    fd_ring_through := fd21,
    F_ring_through := F21,
    k_ring_through := FunD.bindsN F21 fun _ _ _ _ _ _ us hl => match us, hl with | [_, _, _], _ => rfl,
    fd_starts := fd22,
    F_starts := F22,
    k_starts := FunD.bindsN F22 fun _ _ _ _ _ _ us hl => match us, hl with | [_], _ => rfl,
    fd_Tie_init := fd23,
    F_Tie_init := F23,
    k_Tie_init := FunD.bindsN F23 fun _ _ _ _ _ _ us hl => match us, hl with | [_, _, _, _, _, _], _ => rfl,
    fd_between := fd24,
    F_between := F24,
    k_between := FunD.bindsN F24 fun _ _ _ _ _ _ us hl => match us, hl with | [_, _, _], _ => rfl,
    fd_turned := fd25,
    F_turned := F25,
    k_turned := FunD.bindsN F25 fun _ _ _ _ _ _ us hl => match us, hl with | [_, _, _], _ => rfl,
    fd_Web_init := fd26,
    F_Web_init := F26,
    k_Web_init := FunD.bindsN F26 fun _ _ _ _ _ _ us hl => match us, hl with | [_], _ => rfl,
    fd_Web_points := fd27,
    F_Web_points := F27,
    k_Web_points := FunD.bindsN F27 fun _ _ _ _ _ _ us hl => match us, hl with | [_], _ => rfl,
    fd_Web_ties := fd28,
    F_Web_ties := F28,
    k_Web_ties := FunD.bindsN F28 fun _ _ _ _ _ _ us hl => match us, hl with | [_], _ => rfl,
    fd_Web_given := fd29,
    F_Web_given := F29,
    k_Web_given := FunD.bindsN F29 fun _ _ _ _ _ _ us hl => match us, hl with | [_], _ => rfl,
    fd_Web_put_point := fd30,
    F_Web_put_point := F30,
    k_Web_put_point := FunD.bindsN F30 fun _ _ _ _ _ _ us hl => match us, hl with | [_, _], _ => rfl,
    fd_Web_put_tie := fd31,
    F_Web_put_tie := F31,
    k_Web_put_tie_0 := FunD.binds1 F31 3 0 (by simp [d_Web_put_tie, He.DefD.dvs]) rfl fun _ _ _ _ _ _ _ us its hu hi => match us, its, hu, hi with | [_, _, _], [_, _], _, _ => ⟨_, rfl, rfl⟩,
    k_Web_put_tie_1 := FunD.binds1 F31 4 1 (by simp [d_Web_put_tie, He.DefD.dvs]) rfl fun _ _ _ _ _ _ _ us its hu hi => match us, its, hu, hi with | [_, _, _, _], [_, _], _, _ => ⟨_, rfl, rfl⟩,
    k_Web_put_tie_2 := FunD.binds1 F31 5 2 (by simp [d_Web_put_tie, He.DefD.dvs]) rfl fun _ _ _ _ _ _ _ us its hu hi => match us, its, hu, hi with | [_, _, _, _, _], [_, _], _, _ => ⟨_, rfl, rfl⟩,
    fd_Web_drop_tie := fd32,
    F_Web_drop_tie := F32,
    k_Web_drop_tie := FunD.bindsN F32 fun _ _ _ _ _ _ us hl => match us, hl with | [_, _], _ => rfl,
    fd_Web_join := fd33,
    F_Web_join := F33,
    k_Web_join := FunD.bindsN F33 fun _ _ _ _ _ _ us hl => match us, hl with | [_, _, _], _ => rfl,
    fd_Web_part := fd34,
    F_Web_part := F34,
    k_Web_part := FunD.bindsN F34 fun _ _ _ _ _ _ us hl => match us, hl with | [_, _, _, _], _ => rfl,
    fd_Web_copied := fd35,
    F_Web_copied := F35,
    k_Web_copied := FunD.bindsN F35 fun _ _ _ _ _ _ us hl => match us, hl with | [_], _ => rfl,
    fd_Web_need_point := fd36,
    F_Web_need_point := F36,
    k_Web_need_point := FunD.bindsN F36 fun _ _ _ _ _ _ us hl => match us, hl with | [_, _], _ => rfl,
    fd_Web_need_new_name := fd37,
    F_Web_need_new_name := F37,
    k_Web_need_new_name := FunD.bindsN F37 fun _ _ _ _ _ _ us hl => match us, hl with | [_, _], _ => rfl,
    fd_Web_need_new_point := fd38,
    F_Web_need_new_point := F38,
    k_Web_need_new_point := FunD.bindsN F38 fun _ _ _ _ _ _ us hl => match us, hl with | [_, _], _ => rfl,
    fd_Web_need_tie := fd39,
    F_Web_need_tie := F39,
    k_Web_need_tie := FunD.bindsN F39 fun _ _ _ _ _ _ us hl => match us, hl with | [_, _], _ => rfl,
    fd_Web_need_ties_at := fd40,
    F_Web_need_ties_at := F40,
    k_Web_need_ties_at := FunD.bindsN F40 fun _ _ _ _ _ _ us hl => match us, hl with | [_, _, _], _ => rfl,
    fd_need_load := fd41,
    F_need_load := F41,
    k_need_load := FunD.bindsN F41 fun _ _ _ _ _ _ us hl => match us, hl with | [_], _ => rfl,
    fd_tie_line := fd42,
    F_tie_line := F42,
    k_tie_line := FunD.bindsN F42 fun _ _ _ _ _ _ us hl => match us, hl with | [_], _ => rfl,
    fd_web_lines := fd43,
    F_web_lines := F43,
    k_web_lines := FunD.bindsN F43 fun _ _ _ _ _ _ us hl => match us, hl with | [_], _ => rfl,
    fd_law_number := fd44,
    F_law_number := F44,
    k_law_number := FunD.bindsN F44 fun _ _ _ _ _ _ us hl => match us, hl with | [_, _], _ => rfl,
    fd_law_mixed := fd45,
    F_law_mixed := F45,
    k_law_mixed := FunD.bindsN F45 fun _ _ _ _ _ _ us hl => match us, hl with | [_, _], _ => rfl,
    fd_law_names := fd46,
    F_law_names := F46,
    k_law_names := FunD.bindsN F46 fun _ _ _ _ _ _ us hl => match us, hl with | [_, _], _ => rfl,
    fd_law_load := fd47,
    F_law_load := F47,
    k_law_load := FunD.bindsN F47 fun _ _ _ _ _ _ us hl => match us, hl with | [_, _], _ => rfl,
    fd_law_web := fd48,
    F_law_web := F48,
    k_law_web := FunD.bindsN F48 fun _ _ _ _ _ _ us hl => match us, hl with | [_], _ => rfl,
    fd_law_deed := fd49,
    F_law_deed := F49,
    k_law_deed := FunD.bindsN F49 fun _ _ _ _ _ _ us hl => match us, hl with | [_, _, _, _], _ => rfl,
    fd_law_leads := fd50,
    F_law_leads := F50,
    k_law_leads := FunD.bindsN F50 fun _ _ _ _ _ _ us hl => match us, hl with | [_, _, _], _ => rfl,
    fd_law_pair_right := fd51,
    F_law_pair_right := F51,
    k_law_pair_right := FunD.bindsN F51 fun _ _ _ _ _ _ us hl => match us, hl with | [_, _, _, _], _ => rfl,
    fd_law_places := fd52,
    F_law_places := F52,
    k_law_places := FunD.bindsN F52 fun _ _ _ _ _ _ us hl => match us, hl with | [_], _ => rfl,
    fd_law_right := fd53,
    F_law_right := F53,
    k_law_right := FunD.bindsN F53 fun _ _ _ _ _ _ us hl => match us, hl with | [_], _ => rfl,
    fd_law_closed := fd54,
    F_law_closed := F54,
    k_law_closed := FunD.bindsN F54 fun _ _ _ _ _ _ us hl => match us, hl with | [_, _], _ => rfl,
    fd_law := fd55,
    F_law := F55,
    k_law := FunD.bindsN F55 fun _ _ _ _ _ _ us hl => match us, hl with | [_], _ => rfl }
  have e : He.ga K "law" = f := by
    have z := T.g_law.symm.trans hfa
    exact Value.ref.inj (Option.some.inj z)
  subst e
  have b := FunD.bindsA (ps := ["_law_script"]) F55 fun _ _ _ _ _ _ us hl => match us, hl with | [_], _ => rfl
  exact ⟨T.fd_law, fun s v => b s [v] rfl, fun base _ _ tbl => ok_law T ⟨tbl, cd⟩ xk⟩
end K18
open PySem PySem.W PySem.Calls PyProof.Rows
set_option maxRecDepth 100000 in
set_option maxHeartbeats 0 in
theorem PySem.Challenge.cw_reachbook_k18_whole_comes_and_knots_holds : PySem.Challenge.rw_reachbook_k18_whole_comes_and_knots.Holds := by
  w_on; o_law
  refine HandSHeadRun.head_any (r := OpenLaw.row PySem.Challenge.rw_reachbook_k18_whole_comes_and_knots) (q := view (OpenLaw.row PySem.Challenge.rw_reachbook_k18_whole_comes_and_knots).prog [63]) (H := K18.hk) (ob := K18.ob) (M := 9000) (loose := K18.loose) (d := HandSHeadRun.topDef (OpenLaw.row PySem.Challenge.rw_reachbook_k18_whole_comes_and_knots).prog 63) (kwd := []) K18.ob_eq
    (by kernel_rfl) (fun s => by kernel_rfl) K18.run (by kernel_rfl) (by kernel_rfl) (by kernel_rfl) (by rfl) (by first | assumption | decide +kernel) (by decide +kernel) ⟨rfl, rfl, rfl, rfl, rfl, by decide +kernel⟩ ?hw ?hc
  case hw => w_witness2
  case hc =>
    refine LamX.walk_ofTsE (l := PySem.Challenge.rw_reachbook_k18_whole_comes_and_knots) (n := 63) (k := 9) (x := "_law_script") (CX := fun _ => C8.CX0) rfl (by decide) (by kernel_rfl) ⟨rfl, by decide, by decide⟩ ?F (fun _ _ _ _ _ z => z)
    intro w mg fa h Y G hmg0
    obtain ⟨K, KX, c, tb⟩ := Y
    have hmg : mg ("law" : PySem.Str) = some (.ref fa) := by
      have e : (HandSHeadRun.topDef (OpenLaw.row PySem.Challenge.rw_reachbook_k18_whole_comes_and_knots).prog 63).name = ("law" : PySem.Str) := by kernel_rfl
      rw [← e]
      exact hmg0
    obtain ⟨t1, t2⟩ := tb "_is_led_into" (List.mem_singleton.mpr rfl)
    obtain ⟨fd, hb, hF⟩ := K18.facts (P := (PySem.Challenge.rw_reachbook_k18_whole_comes_and_knots).prog) (w := w) KX G hmg c t1
    refine ⟨K, KX, fd, [(AnyL.cdV K (He.ga K "_is_led_into"), AnyL.tbV K (He.ga K "_is_led_into"))], _, fun p hp => ?_, fun p hp => ?_, fun p hp => ?_, hb, fun H a ns hl hO hT hS => ?_, fun base kb nb tbs => AnyL.fn_retab (T := AnyL.tbV K (He.ga K "_is_led_into")) (hF base kb nb ⟨(tbs _ (List.mem_singleton.mpr rfl)).code, (tbs _ (List.mem_singleton.mpr rfl)).bm, (tbs _ (List.mem_singleton.mpr rfl)).gP⟩)⟩
    · rw [List.mem_singleton.mp hp]; exact t2
    · rw [List.mem_singleton.mp hp]; exact t1.out
    · rw [List.mem_singleton.mp hp]; exact t1.hd h KX
    · have hT := hT _ (List.mem_singleton.mpr rfl)
      exact ⟨hT, a, ns, rfl, AnyL.sqL_retab t1.out hT hS, hl, L2.upd_same, fun H' hH => ⟨hH, fun _ => rfl⟩⟩
#print axioms PySem.Challenge.cw_reachbook_k18_whole_comes_and_knots_holds
