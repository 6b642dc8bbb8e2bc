import PyProof.Rows.All
import Wide.All
import OpenK.AllK
import Wide.FinOn
import HandS.ForMost
import HandS.Steps
import HandS.Walk
import HandS.IsInst
import HandS.Codes
import HandS.Defaults
import HandS.Head0
import HandS.Head1
import HandS.Head2
import HandS.HeadEnd
import HandS.HeadHook1
import HandS.HeadHook2
import HandS.RevTup
import HandS.MapObj
import HandS.Replace
import HandS.DictComp
import HandS.Style
import HandS.SetFor
import HandS.Strs
import HandS.More
import HandS.Flow
import KE.KRevSl
import HandS.AnyAll
import HandS.ForExc
import HandS.SortKw
import KE.SortKeyHeap
import HandS.Lambda
import KE.DataMinKey
import HandS.HeadWalk
import HandS.FStr
import HandS.SetKeys
import HandS.Zip
import HandS.Wide
import HandS.Deep
import KE.KEqNest
import KE.DataEq
import PyProof.NeKinds
import HandS.Finally
import PySem.Challenge.RW_reachbook_k20_least_way
set_option Elab.async false
set_option Elab.async false
set_option linter.all false
set_option maxRecDepth 100000
set_option maxHeartbeats 2000000
/-! HX: rules with named readings, and the steps of a reading, backwards. -/
namespace HX
open PySem PySem.Spec PyProof.Rows L2
/-! ### named readings -/
def xCatS : R2 := fun x y H Q => ∃ i j, x = .str i ∧ y = .str j ∧ i.length + j.length ≤ sizeLine ∧ Q (.str (i ++ j)) H
def xLenS : List V → Hp → VK → Prop := fun xs H Q => ∃ z, xs = [.str z] ∧ z.length ≤ sizeLine ∧ Q (.int z.length) H
def xLenL (K : PySem.W.Frag) : List V → Hp → VK → Prop := fun xs H Q => ∃ p ys, xs = [.ref p] ∧ (SqL K H p ys ∨ SqT K H p ys) ∧ Q (.int ys.length) H
def xAbs : List V → Hp → VK → Prop := fun xs H Q => ∃ i, xs = [.int i] ∧ Q (.int (if i < 0 then -i else i)) H
def xMax2 : List V → Hp → VK → Prop := fun xs H Q => ∃ i j, xs = [.int i, .int j] ∧ Q (.int (if j > i then j else i)) H
def xMin2 : List V → Hp → VK → Prop := fun xs H Q => ∃ i j, xs = [.int i, .int j] ∧ Q (.int (if j < i then j else i)) H
def xStrI : List V → Hp → VK → Prop := fun xs H Q => ∃ i, xs = [.int i] ∧ i.natAbs.log2 < 1920 ∧ Q (.str (toString i)) H
def xIntS : List V → Hp → VK → Prop := fun xs H Q => ∃ a n, xs = [.str a] ∧ PySem.intText? a = some n ∧ a.length ≤ 640 ∧ Q (.int n) H
def xIntB : List V → Hp → VK → Prop := fun xs H Q => (∃ i, xs = [.int i] ∧ Q (.int i) H) ∨ ∃ k, xs = [.bl k] ∧ Q (.int (if k then 1 else 0)) H
def xListOf (K : PySem.W.Frag) : List V → Hp → VK → Prop := fun xs H Q => ∃ p ys, xs = [.ref p] ∧ (SqL K H p ys ∨ SqT K H p ys) ∧ ∀ l, H l = none → Q (.ref l) (upd H l (.lst ys))
def xSplit : V → List V → Hp → VK → Prop := fun x xs H Q => ∃ a b, x = .str a ∧ xs = [.str b] ∧ (b.length == 0) = false ∧ a.length + 2 ≤ sizeLine ∧ rNewStrs (Txt.split a b) H Q
def xJoin (K : PySem.W.Frag) : V → List V → Hp → VK → Prop := fun x xs H Q => ∃ a p, ∃ ys : List Str, x = .str a ∧ xs = [.ref p] ∧ (SqL K H p (ys.map V.str) ∨ SqT K H p (ys.map V.str)) ∧
      (ys.map (·.length)).sum + ys.length * a.length ≤ 16777216 ∧ Q (.str (Txt.join a ys)) H
section
variable {X : Cx}
theorem x_catS : OpR X (binaryOp .Add) xCatS := op_add_str
theorem x_lenS : CallR X (.builtin "len") xLenS := call_len_str
theorem x_lenL : CallR X (.builtin "len") (xLenL X.K) := call_len_seq
theorem x_abs : CallR X (.builtin "abs") xAbs := call_abs
theorem x_max2 (hc : X.calm = true) : CallR X (.builtin "max") xMax2 := call_max2 hc
theorem x_min2 (hc : X.calm = true) : CallR X (.builtin "min") xMin2 := call_min2 hc
theorem x_strI : CallR X (.type "str") xStrI := call_str_int
theorem x_intS : CallR X (.type "int") xIntS := call_int_str
theorem x_intB : CallR X (.type "int") xIntB := call_int1
theorem x_list : CallR X (.type "list") (xListOf X.K) := call_list_of
theorem x_split {o e : Expr} {to te : TE} {apos pos : Pos} (ho : PE X o to) (he : PE X e te) (hs : starEach [e] X.env = [(false, eval e X.env)] := by rfl) (hbase : attributeBase o "split" X.env (eval o X.env) = eval o X.env := by rfl) (hline : (apos.endLine == pos.line) = true := by rfl) :
    PE X (.Call (.Attribute o "split" apos) [e] [] pos) (tM1 xSplit to te) := pe_split ho he hs hbase hline
theorem x_join {o e : Expr} {to te : TE} {apos pos : Pos} (ho : PE X o to) (he : PE X e te) (hs : starEach [e] X.env = [(false, eval e X.env)] := by rfl) (hbase : attributeBase o "join" X.env (eval o X.env) = eval o X.env := by rfl) (hline : (apos.endLine == pos.line) = true := by rfl) :
    PE X (.Call (.Attribute o "join" apos) [e] [] pos) (tM1 (xJoin X.K) to te) := pe_join ho he hs hbase hline
end
/-! ### continuations -/
def kB (Q : Bool → Hp → Prop) : VK := fun x H' => ∃ k, x = .bl k ∧ Q k H'
def kInt (Q : Option Int → Hp → Prop) : VK := fun x H' => ∃ i, x = .int i ∧ Q (some i) H'
def kAndV (tb : TE) (σ : L2.St) (Q : VK) : VK := fun x H1 => ∃ c, x = .bl c ∧ if c = true then tb σ H1 Q else Q (.bl false) H1
def kOrV (tb : TE) (σ : L2.St) (Q : VK) : VK := fun x H1 => ∃ c, x = .bl c ∧ if c = true then Q (.bl true) H1 else tb σ H1 Q
def kNotV (Q : VK) : VK := fun x H1 => ∃ c, x = .bl c ∧ Q (.bl (!c)) H1
def kTru (K : PySem.W.Frag) (Q : Bool → Hp → Prop) : VK := fun x H' => ∃ k, TruV K x H' k ∧ Q k H'
def kStr (Q : VK) : VK := fun x H1 => (∃ a, x = .str a) ∧ Q x H1
def kTy (K : PySem.W.Frag) (T : String) (Q : VK) : VK := fun x H1 => tyV K T x H1 ∧ Q x H1
def kListI (K : PySem.W.Frag) (R : It → Hp → Prop) : VK := fun x H1 => ∃ a, x = .ref a ∧ (∃ xs, SqL K H1 a xs) ∧ R (Itl K a) H1
def kTupI (K : PySem.W.Frag) (R : It → Hp → Prop) : VK := fun x H1 => ∃ a, x = .ref a ∧ (∃ xs, SqT K H1 a xs) ∧ R (Itt K a) H1
def kStrI (R : It → Hp → Prop) : VK := fun v H1 => ∃ x, v = .str x ∧ R (Its x) H1
def kChain (r' : R2) (tc : TE) (σ : L2.St) (y : V) (Q : VK) : VK := fun z H3 => ∃ k, z = .bl k ∧ (if k = true then tc σ H3 fun w' H4 => r' y w' H4 Q else Q (.bl false) H3)
def kRng1 (QR : It → Hp → Prop) : List V → Hp → Prop := fun vs H1 => ∃ j : Int, vs = [.int j] ∧ -(2 ^ 62) ≤ j ∧ j < 2 ^ 62 ∧ QR (Itr 0 j.toNat) H1
def kRng2 (QR : It → Hp → Prop) : List V → Hp → Prop := fun vs H1 => ∃ i j : Int, vs = [.int i, .int j] ∧ (-(2 ^ 62) ≤ i ∧ i < 2 ^ 62 ∧ -(2 ^ 62) ≤ j ∧ j < 2 ^ 62) ∧ QR (Itr i (j - i).toNat) H1
def ForW (J : It) (g : TG) (tb : TS) (D : Ends) (σ : L2.St) (H : Hp) : Prop := ∃ W : Nat → Nat → L2.St → Hp → Prop, (∃ m, W 0 m σ H) ∧ ∀ i m σ H, W i m σ H →
  (J.stop i H ∧ D.nx σ H) ∨ (J.go i H ∧ ∃ N : L2.St → Hp → Prop, (∀ σ' H', N σ' H' → ∃ m', m' < m ∧ W (i + 1) m' σ' H') ∧ ∀ x H', J.yld i H x H' → g x σ H' fun σ2 H2 => tb { D with nx := N, ct := N, bk := D.nx } σ2 H2)
def LcW (J : It) (g : TG) (tt : TT) (te : TE) (vs : List Nat) (σ : L2.St) (H1 : Hp) (Q : VK) : Prop := ∀ D, H1 D = none → ∃ W : Nat → Nat → Hp → Prop, (∃ m, W 0 m (upd H1 D (.lst []))) ∧ ∀ i m H, W i m H →
  (J.stop i H ∧ Q (.ref D) H) ∨ (J.go i H ∧ ∃ Nx : Hp → Prop, (∀ H', Nx H' → ∃ m', m' < m ∧ W (i + 1) m' H') ∧ ∀ x H', J.yld i H x H' → g x (wipe σ vs) H' fun σ2 H2 => wipe σ2 vs = wipe σ vs ∧ tt σ2 H2 fun b H3 =>
    if b = true then te σ2 H3 fun y H4 => ∃ acc, H4 D = some (.lst acc) ∧ acc.length < sizeLine ∧ Nx (upd H4 D (.lst (acc ++ [y]))) else Nx H3)
/-! ### steps -/
section
variable {K : PySem.W.Frag} {σ : L2.St} {H : Hp} {i : Nat} {v x y z : V} {ta tb te tc : TE} {Q : VK} {QB : Bool → Hp → Prop} {QA : List V → Hp → Prop} {QO : Option Int → Hp → Prop} {r r' : R2} {D : Ends} {t u : TS} {g : TG} {tt tt' : TT} {R : It → Hp → Prop} {tas : TA}
theorem i_var (e : σ[i]? = some (some v)) (q : Q v H) : tVar i σ H Q := ⟨v, e, q⟩
theorem i_c (q : Q v H) : tC v σ H Q := q
theorem i_op (q : ta σ H fun x H1 => tb σ H1 fun y H2 => r x y H2 Q) : tOp r ta tb σ H Q := q
theorem i_un {ru : V → Hp → VK → Prop} (q : ta σ H fun x H1 => ru x H1 Q) : tUn ru ta σ H Q := q
theorem i_rI {C : Int → Int → Prop} {f : Int → Int → V} {a b : Int} (q : Q (f a b) H) (c : C a b) : rI C f (.int a) (.int b) H Q := ⟨a, b, rfl, rfl, c, q⟩
theorem i_rI0 {f : Int → Int → V} {a b : Int} (q : Q (f a b) H) : rI0 f (.int a) (.int b) H Q := ⟨a, b, rfl, rfl, q⟩
theorem i_rGe {a b : Int} (q : Q (.bl (decide (b ≤ a))) H) : rGe (.int a) (.int b) H Q := ⟨a, b, rfl, rfl, q⟩
theorem i_rGt {a b : Int} (q : Q (.bl (decide (b < a))) H) : rGt (.int a) (.int b) H Q := ⟨a, b, rfl, rfl, q⟩
theorem i_rU {f : Int → V} {a : Int} (q : Q (f a) H) : rU f (.int a) H Q := ⟨a, rfl, q⟩
theorem i_rEqI {a b : Int} (q : Q (.bl (decide (a = b))) H) : rEq (.int a) (.int b) H Q := ⟨rfl, by rw [dec_int, Bool.beq_eq_decide_eq]; exact q⟩
theorem i_rNeI {a b : Int} (q : Q (.bl (!decide (a = b))) H) : rNe (.int a) (.int b) H Q := ⟨rfl, by rw [dec_int, Bool.beq_eq_decide_eq]; exact q⟩
theorem i_rEqS {a b : Str} (q : Q (.bl (decide (a = b))) H) : rEq (.str a) (.str b) H Q := ⟨rfl, by rw [dec_str, Bool.beq_eq_decide_eq]; exact q⟩
theorem i_rNeS {a b : Str} (q : Q (.bl (!decide (a = b))) H) : rNe (.str a) (.str b) H Q := ⟨rfl, by rw [dec_str, Bool.beq_eq_decide_eq]; exact q⟩
theorem i_rEqB {a b : Bool} (q : Q (.bl (decide (a = b))) H) : rEq (.bl a) (.bl b) H Q := ⟨rfl, by rw [dec_bl, Bool.beq_eq_decide_eq]; exact q⟩
theorem i_rNeB {a b : Bool} (q : Q (.bl (!decide (a = b))) H) : rNe (.bl a) (.bl b) H Q := ⟨rfl, by rw [dec_bl, Bool.beq_eq_decide_eq]; exact q⟩
theorem i_rIsN (q : Q (.bl (decide (x = .non))) H) : rIsN x .non H Q := ⟨rfl, q⟩
theorem i_rNotN (q : Q (.bl (!decide (x = .non))) H) : rNotN x .non H Q := ⟨rfl, q⟩
theorem i_rInS {c : Nat} {z : Str} (q : Q (.bl (decide (c ∈ z.cps.toList))) H) : rInS (.str ⟨#[c]⟩) (.str z) H Q := ⟨c, z, rfl, rfl, q⟩
theorem i_rNotInS {c : Nat} {z : Str} (q : Q (.bl (!decide (c ∈ z.cps.toList))) H) : rNotInS (.str ⟨#[c]⟩) (.str z) H Q := ⟨c, z, rfl, rfl, q⟩
theorem i_catS {a b : Str} (q : Q (.str (a ++ b)) H) (c : a.length + b.length ≤ sizeLine) : xCatS (.str a) (.str b) H Q := ⟨a, b, rfl, rfl, c, q⟩
theorem i_tcb {rr : List V → Hp → VK → Prop} (q : tas σ H fun vs H1 => rr vs H1 Q) : tCB rr tas σ H Q := q
theorem i_nil (q : QA [] H) : tNil σ H QA := q
theorem i_cons (q : ta σ H fun x H1 => tas σ H1 fun xs H2 => QA (x :: xs) H2) : tCons ta tas σ H QA := q
theorem i_lenS {s : Str} (q : Q (.int s.length) H) (c : s.length ≤ sizeLine) : xLenS [.str s] H Q := ⟨s, rfl, c, q⟩
theorem i_lenL {p : Addr} {xs : List V} (h : SqL K H p xs) (q : Q (.int xs.length) H) : xLenL K [.ref p] H Q := ⟨p, xs, rfl, .inl h, q⟩
theorem i_lenT {p : Addr} {xs : List V} (h : SqT K H p xs) (q : Q (.int xs.length) H) : xLenL K [.ref p] H Q := ⟨p, xs, rfl, .inr h, q⟩
theorem i_abs {a : Int} (q : Q (.int (a.natAbs : Int)) H) : xAbs [.int a] H Q := ⟨a, rfl, by
  have e : (if a < 0 then -a else a) = (a.natAbs : Int) := by split <;> omega
  rw [e]; exact q⟩
theorem i_max2 {a b : Int} (q : Q (.int (max a b)) H) : xMax2 [.int a, .int b] H Q := ⟨a, b, rfl, by
  have e : (if b > a then b else a) = max a b := by split <;> omega
  rw [e]; exact q⟩
theorem i_min2 {a b : Int} (q : Q (.int (min a b)) H) : xMin2 [.int a, .int b] H Q := ⟨a, b, rfl, by
  have e : (if b < a then b else a) = min a b := by split <;> omega
  rw [e]; exact q⟩
theorem i_strI {a : Int} (q : Q (.str (toString a)) H) (c : a.natAbs.log2 < 1920) : xStrI [.int a] H Q := ⟨a, rfl, c, q⟩
theorem i_intB {k : Bool} (q : Q (.int (if k then 1 else 0)) H) : xIntB [.bl k] H Q := .inr ⟨k, rfl, q⟩
theorem i_test (q : te σ H (kB QB)) : tTest te σ H QB := q
theorem i_tB (q : te σ H (kB QB)) : tB te σ H QB := q
theorem i_kB {k : Bool} (q : QB k H) : kB QB (.bl k) H := ⟨k, rfl, q⟩
theorem i_and (q : tt σ H fun c H1 => if c = true then tt' σ H1 QB else QB false H1) : tAnd tt tt' σ H QB := q
theorem i_or (q : tt σ H fun c H1 => if c = true then QB true H1 else tt' σ H1 QB) : tOr tt tt' σ H QB := q
theorem i_not (q : tt σ H fun c H1 => QB (!c) H1) : tNot tt σ H QB := q
theorem i_if (q : tt σ H fun c H1 => if c = true then ta σ H1 Q else tb σ H1 Q) : tIf tt ta tb σ H Q := q
theorem i_andV (q : ta σ H (kAndV tb σ Q)) : tAndV ta tb σ H Q := q
theorem i_orV (q : ta σ H (kOrV tb σ Q)) : tOrV ta tb σ H Q := q
theorem i_notV (q : ta σ H (kNotV Q)) : tNotV ta σ H Q := q
theorem i_kAndV {c : Bool} (q : if c = true then tb σ H Q else Q (.bl false) H) : kAndV tb σ Q (.bl c) H := ⟨c, rfl, q⟩
theorem i_kOrV {c : Bool} (q : if c = true then Q (.bl true) H else tb σ H Q) : kOrV tb σ Q (.bl c) H := ⟨c, rfl, q⟩
theorem i_kNotV {c : Bool} (q : Q (.bl (!c)) H) : kNotV Q (.bl c) H := ⟨c, rfl, q⟩
theorem i_chain (q : ta σ H fun x H1 => tb σ H1 fun y H2 => r x y H2 (kChain r' tc σ y Q)) : tChain r r' ta tb tc σ H Q := q
theorem i_kChain {k : Bool} (q : if k = true then tc σ H fun w' H4 => r' y w' H4 Q else Q (.bl false) H) : kChain r' tc σ y Q (.bl k) H := ⟨k, rfl, q⟩
theorem i_seq (q : t { D with nx := u D } σ H) : tSeq t u D σ H := q
theorem i_next (q : D.nx σ H) : tNext D σ H := q
theorem i_drop (q : te σ H fun _ H1 => D.nx σ H1) : tDrop te D σ H := q
theorem i_ret (q : te σ H D.rt) : tRet te D σ H := q
theorem i_retN (q : D.rt .non H) : tRetN D σ H := q
theorem i_ifS (q : tt σ H fun b H1 => if b = true then t D σ H1 else u D σ H1) : tIfS tt t u D σ H := q
theorem i_asg (q : te σ H fun x H1 => g x σ H1 D.nx) : tAsg te g D σ H := q
theorem i_gName {QS : L2.St → Hp → Prop} (q : QS (σ.set i (some v)) H) : gName i v σ H QS := q
theorem i_for {wi : TI} (q : wi σ H fun J H1 => ForW J g t D σ H1) : tFor wi g t D σ H := q
theorem i_lc {wi : TI} {vs : List Nat} (q : wi σ H fun J H1 => LcW J g tt te vs σ H1 Q) : tLc wi g tt te vs σ H Q := q
theorem i_iList (q : ta σ H (kListI K R)) : iList K ta σ H R := q
theorem i_iTup (q : ta σ H (kTupI K R)) : iTup K ta σ H R := q
theorem i_iStr (q : ta σ H (kStrI R)) : iStr ta σ H R := q
theorem i_kListI {a : Addr} {xs : List V} (h : SqL K H a xs) (q : R (Itl K a) H) : kListI K R (.ref a) H := ⟨a, rfl, ⟨xs, h⟩, q⟩
theorem i_kTupI {a : Addr} {xs : List V} (h : SqT K H a xs) (q : R (Itt K a) H) : kTupI K R (.ref a) H := ⟨a, rfl, ⟨xs, h⟩, q⟩
theorem i_kStrI {s : Str} (q : R (Its s) H) : kStrI R (.str s) H := ⟨s, rfl, q⟩
theorem i_lst (q : tas σ H fun xs H1 => xs.length ≤ sizeLine ∧ ∀ p, H1 p = none → Q (.ref p) (upd H1 p (.lst xs))) : tLst tas σ H Q := q
theorem i_tup (q : tas σ H fun xs H1 => xs.length ≤ sizeLine ∧ ∀ p, H1 p = none → Q (.ref p) (upd H1 p (.tup xs))) : tTup tas σ H Q := q
theorem i_ixL {p : Addr} {xs : List V} {j : Int} (h : SqL K H p xs) (e : atI xs j = some v) (q : Q v H) : rIxL K (.ref p) (.int j) H Q := ⟨p, xs, j, v, rfl, rfl, h, e, q⟩
theorem i_ixT {p : Addr} {xs : List V} {j : Int} (h : SqT K H p xs) (e : atI xs j = some v) (q : Q v H) : rIxT K (.ref p) (.int j) H Q := ⟨p, xs, j, v, rfl, rfl, h, e, q⟩
theorem i_ixS {s : Str} {j : Int} {c : Nat} (q : Q (.str ⟨#[c]⟩) H) (hs : s.length ≤ sizeLine) (e : atI s.cps.toList j = some c) : rIxS (.str s) (.int j) H Q := ⟨s, j, c, rfl, rfl, hs, e, q⟩
theorem i_call {sp : Sp} {dvs : List V} {E : XK} (q : tas σ H fun vs H1 => sp (vs ++ dvs) H1 Q E) : tCall sp dvs E tas σ H Q := q
theorem i_m1 {rm : V → List V → Hp → VK → Prop} (q : ta σ H (kStr fun x H1 => te σ H1 fun y H2 => rm x [y] H2 Q)) : tM1 rm ta te σ H Q := q
theorem i_kStr {s : Str} (q : Q (.str s) H) : kStr Q (.str s) H := ⟨⟨s, rfl⟩, q⟩
theorem i_bm {T : String} {rm : V → List V → Hp → VK → Prop} (q : ta σ H (kTy K T fun x H1 => tas σ H1 fun xs H2 => rm x xs H2 Q)) : tBM K T rm ta tas σ H Q := q
theorem i_bm0 {T : String} {rm : V → List V → Hp → VK → Prop} (q : ta σ H (kTy K T fun x H1 => rm x [] H1 Q)) : tBM0 K T rm ta σ H Q := q
theorem i_kTyL {p : Addr} {xs : List V} (h : SqL K H p xs) (q : Q (.ref p) H) : kTy K "list" Q (.ref p) H := ⟨.inl ⟨rfl, xs, h⟩, q⟩
theorem i_append {l : Addr} {xs : List V} {y : V} (h : H l = some (.lst xs)) (q : Q .non (upd H l (.lst (xs ++ [y])))) (c : xs.length < sizeLine) : rAppend (.ref l) [y] H Q := ⟨l, xs, y, rfl, rfl, h, c, q⟩
theorem i_split {a b : Str} (q : ∀ p, H p = none → Q (.ref p) (upd H p (.lst ((Txt.split a b).map V.str)))) (h : (b.length == 0) = false) (c : a.length + 2 ≤ sizeLine) : xSplit (.str a) [.str b] H Q := ⟨a, b, rfl, rfl, h, c, q⟩
theorem i_part (q : te σ H (kInt QO)) : tPart te σ H QO := q
theorem i_kInt {a : Int} (q : QO (some a) H) : kInt QO (.int a) H := ⟨a, rfl, q⟩
theorem i_noPart (q : QO none H) : tNoPart σ H QO := q
theorem i_sl {rs : V → Option Int → Option Int → Hp → VK → Prop} {tl th : TO} (q : te σ H fun x H1 => tl σ H1 fun l H2 => th σ H2 fun u H3 => rs x l u H3 Q) : tSl rs te tl th σ H Q := q
theorem i_slL {a : Addr} {xs : List V} {lo hi : Option Int} (h : SqL K H a xs) (q : ∀ p, H p = none → Q (.ref p) (upd H p (.lst (cutV xs lo hi)))) : rSlL K (.ref a) lo hi H Q := ⟨a, xs, rfl, h, q⟩
theorem i_range1 {QR : It → Hp → Prop} (q : tas σ H (kRng1 QR)) : iRng1 tas σ H QR := q
theorem i_range2 {QR : It → Hp → Prop} (q : tas σ H (kRng2 QR)) : iRng2 tas σ H QR := q
theorem i_kRng1 {j : Int} {QR : It → Hp → Prop} (q : QR (Itr 0 j.toNat) H) (c : -(2 ^ 62) ≤ j ∧ j < 2 ^ 62) : kRng1 QR [.int j] H := ⟨j, rfl, c.1, c.2, q⟩
theorem i_kRng2 {a b : Int} {QR : It → Hp → Prop} (q : QR (Itr a (b - a).toNat) H) (c : -(2 ^ 62) ≤ a ∧ a < 2 ^ 62 ∧ -(2 ^ 62) ≤ b ∧ b < 2 ^ 62) : kRng2 QR [.int a, .int b] H := ⟨a, b, rfl, c, q⟩
theorem i_gTup {a : Addr} {xs : List V} {n : Nat} {gs : TGs} {QS : L2.St → Hp → Prop} (h : SqT K H a xs) (e : xs.length = n) (q : gs xs σ H QS) : gTup K n gs (.ref a) σ H QS := ⟨a, xs, rfl, h, e, q⟩
theorem i_gCons {g : TG} {gs : TGs} {xs : List V} {QS : L2.St → Hp → Prop} (q : g v σ H fun σ' H' => gs xs σ' H' QS) : gCons g gs (v :: xs) σ H QS := ⟨v, xs, rfl, q⟩
theorem i_gNil {QS : L2.St → Hp → Prop} (q : QS σ H) : gNil [] σ H QS := ⟨rfl, q⟩
theorem i_gSub {to ti : TE} {ts : TSet} {QS : L2.St → Hp → Prop} (q : to σ H fun o H1 => ti σ H1 fun i H2 => ts o i v H2 fun H3 => QS σ H3) : gSub to ti ts v σ H QS := q
theorem i_setL {p : Addr} {xs : List V} {k : Int} {j : Nat} {QH : Hp → Prop} (h : H p = some (.lst xs)) (e : ixN xs.length k = some j) (q : QH (upd H p (.lst (xs.set j v)))) : rSetL (.ref p) (.int k) v H QH := ⟨p, xs, k, j, rfl, rfl, h, e, q⟩
def kZip (K : PySem.W.Frag) (R : It → Hp → Prop) : List V → Hp → Prop := fun vs H1 => ∃ a b xs ys, vs = [.ref a, .ref b] ∧ SqL K H1 a xs ∧ SqL K H1 b ys ∧ R (Itz K a b) H1
theorem i_iZip (q : tas σ H (kZip K R)) : iZip K tas σ H R := q
theorem i_kZip {a b : Addr} {xs ys : List V} (h1 : SqL K H a xs) (h2 : SqL K H b ys) (q : R (Itz K a b) H) : kZip K R [.ref a, .ref b] H := ⟨a, b, xs, ys, rfl, h1, h2, q⟩
theorem i_cat {l b : Addr} {xs zs : List V} (h1 : H l = some (.lst xs)) (h2 : H b = some (.lst zs)) (c : xs.length + zs.length ≤ sizeLine) (q : ∀ p, H p = none → Q (.ref p) (upd H p (.lst (xs ++ zs)))) : rCat (.ref l) (.ref b) H Q := ⟨l, b, xs, zs, rfl, rfl, h1, h2, c, q⟩
theorem i_rep {l : Addr} {k : Int} {xs : List V} (h : H l = some (.lst xs)) (c1 : -(2 ^ 63) ≤ k) (c2 : k < 2 ^ 63) (c3 : xs.length * k.toNat ≤ sizeLine) (q : ∀ p, H p = none → Q (.ref p) (upd H p (.lst (List.replicate k.toNat xs).flatten))) : rRep (.ref l) (.int k) H Q := ⟨l, k, xs, rfl, rfl, h, c1, c2, c3, q⟩
theorem i_join {a : Str} {p : Addr} {ys : List Str} (h : SqL K H p (ys.map V.str)) (c : (ys.map (·.length)).sum + ys.length * a.length ≤ 16777216) (q : Q (.str (Txt.join a ys)) H) : xJoin K (.str a) [.ref p] H Q := ⟨a, p, ys, rfl, rfl, .inl h, c, q⟩
theorem i_yes (q : QB true H) : tYes σ H QB := q
theorem i_ift {A B : Prop} (q : A) : if true = true then A else B := by rw [if_pos rfl]; exact q
theorem i_iff {A B : Prop} (q : B) : if false = true then A else B := by rw [if_neg Bool.false_ne_true]; exact q
theorem i_dec {p A B : Prop} [Decidable p] (h1 : p → A) (h2 : ¬ p → B) : if decide p = true then A else B := by
  by_cases h : p
  · rw [if_pos (decide_eq_true h)]; exact h1 h
  · rw [if_neg (by simp [h])]; exact h2 h
theorem i_ndec {p A B : Prop} [Decidable p] (h1 : ¬ p → A) (h2 : p → B) : if (!decide p) = true then A else B := by
  by_cases h : p
  · rw [if_neg (by simp [h])]; exact h2 h
  · rw [if_pos (by simp [h])]; exact h1 h
theorem i_nb {b : Bool} {A B : Prop} (q : if b = true then B else A) : if (!b) = true then A else B := by
  cases b <;> exact q
theorem i_b {b : Bool} {A B : Prop} (h1 : b = true → A) (h2 : b = false → B) : if b = true then A else B := by
  cases b with
  | true => exact i_ift (h1 rfl)
  | false => exact i_iff (h2 rfl)
end
end HX

set_option Elab.async false
set_option linter.all false
set_option maxRecDepth 100000
set_option maxHeartbeats 2000000
/-! HXrev: sep.join(reversed(list of texts)); a figure's place among the figures. -/
namespace HX
open PySem PySem.Spec PyProof.Rows L2
section
variable {prog : Program} {w : World} {A : Around} {E : Value → Shared → Prop} {s : Shared}
theorem join_rev {x : Str} {t : Tok} {it l : Addr} {items : Array Value} {ys : List Str} {Q : Value → Shared → Prop} (hh : A.handled = none) (hit : s.heap.IsRevIter it l ((items.size : Int) - 1)) (hl : s.heap.IsList l items) (hne : l ≠ it) (hn : items.size ≤ sizeLine)
    (hP : ∀ acc : Array Value, ItemsOf (fun i v => items[items.size - 1 - i]? = some v) acc items.size → StrsAre acc.toList ys) (hok : (ys.map (·.length)).sum + ys.length * x.length ≤ 16777216)
    (hq : ∀ (h' : Heap) (k t' : Nat), (∀ b o, b ≠ it → s.heap.get? b = some o → h'.get? b = some o) → Q (.str (Txt.join x ys) t') { s with heap := h', toks := k }) :
    wpAny (model prog w) A (call (.builtin "str.join") [.str x t, .ref it]) Q E s := by
  refine wpAny_call (codeAny_call_builtin F.slot_str_join.plain F.entry_str_join (F.slot_str_join.check _ _ _ _ _ _ _ _ (typeIs_str _ _ _) (F.args_str_join_2 _ _) ?_))
  rw [join_tree_other]
  refine wpAny_bind (wpAny_typeOf hit.typeIs ?_)
  show wpAny _ A.in1 ((pyIter (.ref it)).tryCatch _ >>= fun i => collect i >>= fun items => joinTail x items) _ _ s
  refine wpAny_bind (wpAny_tryCatch (wpAny_pyIter_revIter hit ?_))
  refine wpAny_bind (RT.collect_rev (A := A.in1) hh hit hl hne hn fun h' tk acc hk hacc => ?_)
  obtain ⟨l, hl', ht⟩ := strsAre_values (hP acc hacc)
  subst ht
  rw [hl']
  have hok' := joinOk_of hok
  unfold JoinOk at hok'
  rw [Bool.not_eq_true'] at hok'
  have g : Gives (joinTail x (strValues l)) (joinMade x l) := by
    have g0 := gives_joinTail x l hok'
    cases l with
    | nil => exact g0
    | cons p r => cases r with
      | nil => exact g0
      | cons q r' => exact g0
  exact g prog w A (wants Q E) _ (post_join l ⟨joinFit_length hok', fun t' k => hq h' k t' hk⟩)
end
end HX
namespace HX
open PySem PySem.Spec PyProof.Rows L2
theorem rev_at {ys : List Str} {its : List Value} (r : Vals (ys.map V.str) its) {acc : Array Value} (h : ItemsOf (fun i v => its.toArray[its.toArray.size - 1 - i]? = some v) acc its.toArray.size) : StrsAre acc.toList ys.reverse := by
  have hl : its.length = ys.length := by rw [← r.length, List.length_map]
  obtain ⟨h1, h2⟩ := h
  have key : ∀ (n : Nat) (L : List Value) (zs : List Str), L.length = n → zs.length = n → (∀ (i : Nat) (v : Value), L[i]? = some v → ∃ (y : Str) (t : Tok), zs[i]? = some y ∧ v = Value.str y t) → StrsAre L zs := by
    intro n
    induction n with
    | zero =>
      intro L zs e1 e2 _
      rw [List.length_eq_zero_iff.mp e1, List.length_eq_zero_iff.mp e2]
      exact .nil
    | succ n ih =>
      intro L zs e1 e2 k
      cases L with
      | nil => simp at e1
      | cons v L =>
        cases zs with
        | nil => simp at e2
        | cons z zs =>
          obtain ⟨y, t, hy, rfl⟩ := k 0 v rfl
          have ey : z = y := Option.some.inj hy
          subst ey
          exact .cons z t (ih L zs (by simpa using e1) (by simpa using e2) fun i v' hv => k (i + 1) v' (by simpa using hv))
  refine key ys.length acc.toList ys.reverse ?_ (by simp) fun i v hv => ?_
  · rw [Array.length_toList, h1]; simp [hl]
  · have hv' : acc[i]? = some v := by simpa using hv
    have q := h2 i v hv'
    have hi : i < ys.length := by
      have := (Array.getElem?_eq_some_iff.mp hv').1
      rw [h1] at this
      simpa [hl] using this
    have q2 : its[its.length - 1 - i]? = some v := by simpa using q
    have hj : its.length - 1 - i < ys.length := by omega
    obtain ⟨u, hu, ru⟩ := r.get (i := its.length - 1 - i) (x := V.str ys[its.length - 1 - i]) (by rw [List.getElem?_map, List.getElem?_eq_getElem hj]; rfl)
    rw [q2] at hu
    obtain rfl := Option.some.inj hu
    obtain ⟨t, rfl⟩ := (show ∃ t, v = Value.str _ t from ru)
    refine ⟨_, t, ?_, rfl⟩
    rw [List.getElem?_reverse hi, ← hl, List.getElem?_eq_getElem hj]
section
variable {X : Cx}
def kJoinRev (K : PySem.W.Frag) (sep : Str) (Q : VK) : List V → Hp → Prop := fun vs H2 => ∃ (q : Addr) (ys : List Str), vs = [.ref q] ∧ SqL K H2 q (ys.map V.str) ∧ (ys.map (·.length)).sum + ys.length * sep.length ≤ 16777216 ∧ Q (.str (Txt.join sep ys.reverse)) H2
/-- sep.join(reversed(xs)) -/
def tJoinRev (K : PySem.W.Frag) (to : TE) (ta : TA) : TE := fun σ H Q => to σ H fun x H1 => ∃ a : Str, x = .str a ∧ ta σ H1 (kJoinRev K a Q)
theorem x_joinRev {o e : Expr} {to : TE} {ta : TA} {apos pos p pos2 : Pos} (hc : X.calm = true) (ho : PE X o to) (hg : Gl X "reversed") (hm : X.mg "reversed" = none) (ha : PA X [e] ta)
    (hs1 : starEach [.Call (.Name "reversed" p) [e] [] pos2] X.env = [(false, eval (.Call (.Name "reversed" p) [e] [] pos2) X.env)] := by rfl) (hs : starEach [e] X.env = [(false, eval e X.env)] := by rfl)
    (hbase : attributeBase o "join" X.env (eval o X.env) = eval o X.env := by rfl) (hline : (apos.endLine == pos.line) = true := by rfl) :
    PE X (.Call (.Attribute o "join" apos) [.Call (.Name "reversed" p) [e] [] pos2] [] pos) (tJoinRev X.K to ta) := by
  refine ⟨fun pins s σ H Q I h => ?_⟩
  refine PySem.Call_method1 hbase hs1 hline (thn (ho.run pins s σ H _ I h) fun v s1 ⟨x, H1, I1, r1, q1⟩ => ?_)
  obtain ⟨a, rfl, q1⟩ := q1
  obtain ⟨t, rfl⟩ := _root_.id r1
  refine ⟨"str", _, F.plainAttrs_str, F.slot_str_join, F.type_str_join, typeIs_str _ _ _, (fun _ e => nomatch e), Calls.callWith_builtin rfl (Calls.evalArgs_plain (Calls.spliced_cons ?_))⟩
  refine Call_ (ld_blt I1 hg hm PyProof.Rows.boot_reversed (PyProof.Rows.callWith_type1 (thn (ha.run pos2 pins s1 σ H1 _ I1 q1) fun us s2 ⟨vs, H2, I2, r2, q2⟩ => ?_) hs rfl))
  obtain ⟨q, ys, rfl, hq, hz, q3⟩ := q2
  cases r2 with
  | cons r rr =>
    cases rr
    cases r
    obtain ⟨its, rv, pl, hsz⟩ := I2.list hq
    have hit : (s2.heap.push (revObj q ((its.toArray.size : Int) - 1))).IsRevIter s2.heap.objs.size q ((its.toArray.size : Int) - 1) := ⟨_, Heap.get?_push_size _ rfl, rfl, rfl⟩
    have hlt : q < s2.heap.objs.size := by obtain ⟨o, ho, _⟩ := pl.isList; exact Heap.lt_size ho
    refine call_reversed_list pl.isList (Calls.spliced_nil (join_rev (s := { s2 with heap := s2.heap.push (revObj q ((its.toArray.size : Int) - 1)) }) (ys := ys.reverse) (I2.ok.hd hc) hit (pl.isList.push _) (Nat.ne_of_lt hlt) (by rw [List.size_toArray, ← rv.length]; exact hsz) (fun acc hacc => rev_at rv hacc) (by simpa [List.sum_reverse] using hz) fun h' k t' hk => ?_))
    exact ⟨.str _, H2, I2.kept (t' := k) (fun b o e => hk b o (Nat.ne_of_lt (Heap.lt_size e)) (Heap.get?_push_of_some _ e)), ⟨t', rfl⟩, q3⟩
end
section
variable {K : PySem.W.Frag} {σ : L2.St} {H : Hp} {to : TE} {ta : TA} {Q : VK}
def kRev0 (K : PySem.W.Frag) (ta : TA) (σ : L2.St) (Q : VK) : VK := fun x H1 => ∃ a : Str, x = .str a ∧ ta σ H1 (kJoinRev K a Q)
theorem i_joinRev (q : to σ H (kRev0 K ta σ Q)) : tJoinRev K to ta σ H Q := q
theorem i_kRev0 {a : Str} (q : ta σ H (kJoinRev K a Q)) : kRev0 K ta σ Q (.str a) H := ⟨a, rfl, q⟩
theorem i_kJoinRev {a : Str} {p : Addr} {ys : List Str} (h : SqL K H p (ys.map V.str)) (c : (ys.map (·.length)).sum + ys.length * a.length ≤ 16777216) (q : Q (.str (Txt.join a ys.reverse)) H) : kJoinRev K a Q [.ref p] H := ⟨p, ys, rfl, h, c, q⟩
end
/-! ### a figure's place -/
def figs : Str := "0123456789"
theorem occ_fig : ∀ d : Nat, d < 10 → Builtin.Str.occurrences figs ⟨#[48 + d]⟩ 0 figs.length 1 = [d] := by decide +kernel
def xIndexF : V → List V → Hp → VK → Prop := fun x xs H Q => ∃ d : Nat, x = .str figs ∧ xs = [.str ⟨#[48 + d]⟩] ∧ d < 10 ∧ Q (.int (d : Nat)) H
theorem mt_indexF {X : Cx} : MtR X "str.index" xIndexF := by
  intro pins s σ H x xs v us Q I rx rs h
  obtain ⟨d, rfl, rfl, hd, q⟩ := h
  exact mt_sindex pins s σ H _ _ v us Q I rx rs ⟨figs, _, d, [], rfl, rfl, occ_fig d hd, q⟩
theorem x_indexS {X : Cx} {o e : Expr} {to te : TE} {apos pos : Pos} (ho : PE X o to) (he : PE X e te) (hs : starEach [e] X.env = [(false, eval e X.env)] := by rfl) (hbase : attributeBase o "index" X.env (eval o X.env) = eval o X.env := by rfl) (hline : (apos.endLine == pos.line) = true := by rfl) :
    PE X (.Call (.Attribute o "index" apos) [e] [] pos) (tM1 xIndexF to te) := pe_m1 F.slot_str_index F.type_str_index mt_indexF ho he hs hbase hline
end HX

set_option Elab.async false
set_option linter.all false
set_option maxRecDepth 100000
set_option maxHeartbeats 2000000
/-! HXweb: further rules: a dict against the empty one, steps of 1 and -1, texts taken out of a list. -/
namespace HX
open PySem PySem.Spec PyProof.Rows L2
section
variable {X : Cx}
/-- d != {} -/
def rNeD0 : R2 := fun x y H Q => ∃ a b ks, x = .ref a ∧ y = .ref b ∧ H a = some (.dK ks) ∧ H b = some (.dK []) ∧ Q (.bl (!ks.isEmpty)) H
theorem op_ne_dict0 (hu : X.A.units < cLine) : OpR X (compareOp .NotEq) rNeD0 := by
  intro pins s σ H x y v u Q I rx ry h
  obtain ⟨a, b, ks, rfl, rfl, ea, eb, q⟩ := h
  obtain rfl : v = Value.ref a := rx
  obtain rfl : u = Value.ref b := ry
  obtain ⟨_, ya, va, ra, da⟩ := (show ObjOk X.prog X.w H s.heap a (.dK ks) from I.hok a _ ea)
  obtain ⟨_, yb, vb, rb, db⟩ := (show ObjOk X.prog X.w H s.heap b (.dK []) from I.hok b _ eb)
  cases rb
  have la : va.length = ks.length := ra.length.symm
  refine PySem.W.keq_ne (knd := mixKind X.prog X.w) (r := true) ya yb da db hu (fun e => ?_) (fin_bl I q ?_)
  · have e0 : va = [] := List.length_eq_zero_iff.mp (by simpa using e)
    subst e0
    have k0 : ks = [] := List.length_eq_zero_iff.mp (by rw [← la]; rfl)
    subst k0
    exact hits_all (kvs := []) .nil ra fun _ h => by simp at h
  · rw [la]
    cases ks <;> simp
/-- xs[::k], k one or minus one -/
def kStepL (K : PySem.W.Frag) (x : V) (Q : VK) : Option Int → Hp → Prop := fun o H2 => ∃ a xs k, x = .ref a ∧ o = some k ∧ SqL K H2 a xs ∧ (k = 1 ∨ k = -1) ∧ ∀ p, H2 p = none → Q (.ref p) (upd H2 p (.lst (if k = 1 then xs else xs.reverse)))
def tStepL (K : PySem.W.Frag) (te : TE) (tk : TO) : TE := fun σ H Q => te σ H fun x H1 => tk σ H1 (kStepL K x Q)
theorem i_stepL {K : PySem.W.Frag} {te : TE} {tk : TO} {σ : L2.St} {H : Hp} {Q : VK} (q : te σ H fun x H1 => tk σ H1 (kStepL K x Q)) : tStepL K te tk σ H Q := q
theorem i_kStepL {K : PySem.W.Frag} {H : Hp} {Q : VK} {a : Addr} {xs : List V} {k : Int} (h : SqL K H a xs) (c : k = 1 ∨ k = -1) (q : ∀ p, H p = none → Q (.ref p) (upd H p (.lst (if k = 1 then xs else xs.reverse)))) : kStepL K (.ref a) Q (some k) H := ⟨a, xs, k, rfl, rfl, h, c, q⟩
theorem pick_one (items : Array Value) : slicePick items none none (some 1) = items := by
  unfold slicePick
  have e : sliceBounds none none (some 1) items.size = (0, (items.size : Int), 1) := by
    first
    | rfl
    | simp [sliceBounds]
  rw [e]
  show ((sliceRange 0 (items.size : Int) 1).filterMap (items[·]?)).toArray = _
  have r : sliceRange 0 (items.size : Int) 1 = List.range items.size := by
    unfold sliceRange
    have h1 : ((1 : Int) > 0) := by decide
    by_cases h : (0 : Int) < (items.size : Int)
    · have e : ((items.size : Int) - 0 + 1 - 1) / 1 = (items.size : Int) := by
        rw [Int.ediv_one]; omega
      simp only [h1, if_true, h, e, Int.toNat_natCast]
      conv => rhs; rw [← List.map_id (List.range items.size)]
      apply List.map_congr_left
      intro k hk
      simp
    · have e : items.size = 0 := by omega
      simp [e]
  rw [r, PySem.W.krv_all]
theorem pe_stepL {e ek : Expr} {te tk : TE} {p3 pos : Pos} (he : PE X e te) (hk : PE X ek tk) : PE X (.Subscript e (.Slice none none (some ek) p3) pos) (tStepL X.K te (tPart tk)) := by
  refine ⟨fun pins s σ H Q I h => ?_⟩
  refine Subscript_ (thn (he.run pins s σ H _ I h) fun v s1 ⟨x, H1, I1, r1, q1⟩ => ?_)
  have hst : PO X (some ek) (tPart tk) := po_some hk
  refine wpAny_Slice (thn (po_none.run pins s1 σ H1 (fun o H2 => o = none ∧ H2 = H1) I1 ⟨rfl, rfl⟩) fun vl s2 ⟨l, H2, I2, pl, el, e2⟩ => ?_)
  subst el e2
  refine thn (po_none.run pins s2 σ H2 (fun o H3 => o = none ∧ H3 = H2) I2 ⟨rfl, rfl⟩) fun vu s3 ⟨u, H3, I3, pu, eu, e3⟩ => ?_
  subst eu e3
  refine thn (hst.run pins s3 σ H3 _ I3 q1) fun vs s4 ⟨o, H4, I4, ps, a, xs, k, ex, eo, hx, hk, q⟩ => ?_
  subst eo ex
  obtain rfl : v = Value.ref a := r1
  have I5 : Inv X pins σ H4 { s4 with heap := s4.heap.push { cls := .type "slice", data := .fields #[vl, vu, vs] } } := I4.kept (t' := s4.toks) fun b ob q => Heap.get?_push_of_some _ q
  obtain ⟨its, r, ht, hz⟩ := I5.list hx
  have hlen := r.length
  show wpAny (model X.prog X.w) X.A (subscriptTail e (.Slice none none (some ek) p3) (.ref a) (.ref s4.heap.objs.size)) (EP X pins σ Q) X.xe { s4 with heap := s4.heap.push { cls := .type "slice", data := .fields #[vl, vu, vs] } }
  refine tail_any (ops := [.ref a, .ref s4.heap.objs.size]) ht.isList.typeIs (PySem.slot_list_getitem.lookup) ?_ (by with_unfolding_all rfl)
  have hk0 : k ≠ 0 := by rcases hk with h | h <;> rw [h] <;> decide
  refine wpAny_getItem_list_slice ht.isList (Heap.IsSliceOf.new _ vl vu vs) pl pu ps (by simpa using hk0) ?_ (by rw [List.size_toArray]; omega)
  rcases hk with rfl | rfl
  · rw [pick_one]
    refine ⟨.ref _, _, I5.laid (t' := s4.toks) (o := .lst xs) (fun b ob q => Heap.get?_push_of_some _ q) (Nat.le_refl _) ?_, rfl, q _ (I5.hok.fresh (Nat.le_refl _))⟩
    exact ⟨hz, _, 0, r, Heap.get?_push_size _ rfl⟩
  · rw [PySem.W.krv_pick]
    refine ⟨.ref _, _, I5.laid (t' := s4.toks) (o := .lst xs.reverse) (fun b ob q => Heap.get?_push_of_some _ q) (Nat.le_refl _) ?_, rfl, q _ (I5.hok.fresh (Nat.le_refl _))⟩
    exact ⟨by rw [List.length_reverse]; exact hz, _, 0, r.reverse, Heap.get?_push_size _ rfl⟩
/-! ### list.remove of a text -/
def rRemS : V → List V → Hp → VK → Prop := fun x xs H Q => ∃ (l : Addr) (ys : List Str) (k : Str) (j : Nat), x = .ref l ∧ xs = [.str k] ∧ H l = some (.lst (ys.map V.str)) ∧ ys[j]? = some k ∧ (∀ m : Nat, m < j → ys[m]? ≠ some k) ∧ Q .non (upd H l (.lst ((ys.eraseIdx j).map V.str)))
theorem erase_mapS : ∀ (l : List Str) (j : Nat), (l.map V.str).eraseIdx j = (l.eraseIdx j).map V.str
  | [], j => by simp
  | a :: r, 0 => by simp
  | a :: r, j + 1 => by simp [erase_mapS r j]
theorem strs_get {us : List Value} {ys : List Str} (h : StrsAre us ys) {m : Nat} {y : Str} (e : ys[m]? = some y) : ∃ t, us[m]? = some (.str y t) := by
  induction h generalizing m with
  | nil => simp at e
  | cons z t r ih =>
    cases m with
    | zero =>
      have : z = y := by simpa using e
      subst this
      exact ⟨t, rfl⟩
    | succ m => simpa using ih (m := m) (by simpa using e)
theorem mt_removeS : MtM X "list.remove" rRemS := by
  intro pins s σ H x xs v us Q I rx rxs h
  obtain ⟨l, ys, k, j, rfl, rfl, hH, hj, hno, q⟩ := h
  cases rx
  obtain ⟨u, rfl, ru⟩ := rxs.one
  obtain ⟨t, rfl⟩ := ru
  obtain ⟨z, its, n, r, hl, e⟩ := I.lstM hH
  have hi : StrsAre its ys := strs_of_vals r
  rw [List.length_map] at hl z
  have hjn : j < ys.length := (List.getElem?_eq_some_iff.mp hj).1
  have hjl : j < its.toArray.size := by rw [List.size_toArray]; omega
  refine call_meets PySem.F.slot_list_remove ⟨_, e, rfl⟩ PySem.F.entry_list_remove (PySem.F.args_list_remove_2 _ _)
    (MeetsSeq.list_remove l its.toArray n (.str k t) (isStrOf k) (fun y hy => eq_isStrOf k t hi y (by simpa using hy)) j hjl ?_ ?_ (by rw [List.size_toArray]; omega)) ⟨e, ?_⟩
  · obtain ⟨tj, hjt⟩ := strs_get hi hj
    obtain ⟨h1, h2⟩ := List.getElem?_eq_some_iff.mp hjt
    have e1 : its.toArray[j] = .str k tj := by simpa using h2
    rw [e1]
    exact beq_self_eq_true k
  · intro m hm hmj
    have hmn : m < ys.length := by omega
    obtain ⟨tm, hmt⟩ := strs_get hi (List.getElem?_eq_getElem hmn)
    obtain ⟨h1, h2⟩ := List.getElem?_eq_some_iff.mp hmt
    have e1 : its.toArray[m] = .str ys[m] tm := by simpa using h2
    rw [e1]
    refine beq_eq_false_iff_ne.mpr fun e2 => hno m hmj ?_
    rw [List.getElem?_eq_getElem hmn, e2]
  · have rr := r.eraseIdx j
    rw [erase_mapS] at rr
    refine ⟨.non, _, I.lset (its' := its.eraseIdx j) (t' := s.toks) hH e ?_ rr ?_, rfl, q⟩
    · show its.toArray.eraseIdxIfInBounds j = (its.eraseIdx j).toArray
      rw [List.eraseIdxIfInBounds_toArray]
    · rw [List.length_map, List.length_eraseIdx]
      split <;> omega
end
end HX

/-! ### the head's facts and one more Bool -/
namespace He
open PySem PySem.Spec PyProof.Rows L2
def obsX (ex : PySem.W.Frag → Bool) (fa : List Fa) (fn : List DefD) (K : PySem.W.Frag) : AlD := (ex K && (obsD fa fn K).1, (obsD fa fn K).2)
def SaysX (ex : PySem.W.Frag → Bool) (fa : List Fa) (fn : List DefD) (K : PySem.W.Frag) : Prop := obsX ex fa fn K = valD fn
theorem SaysX.both {ex : PySem.W.Frag → Bool} {fa : List Fa} {fn : List DefD} {K : PySem.W.Frag} (h : SaysX ex fa fn K) : ex K = true ∧ SaysD fa fn K := by
  have h0 : obsX ex fa fn K = valD fn := h
  have h1 : (ex K && (obsD fa fn K).1) = true := by
    have e := congrArg Prod.fst h0
    exact e
  have h2 : (obsD fa fn K).2 = (valD fn).2 := by
    have e := congrArg Prod.snd h0
    exact e
  obtain ⟨a, b⟩ := ba h1
  exact ⟨a, Prod.ext b h2⟩
def obsXG (n : Nat) (ex : PySem.W.Frag → Bool) (fa : List Fa) (fn : List DefD) (g : Addr → Option Obj) : AlD := obsX ex fa fn (frG g (asD g n))
def hookX (n : Nat) (ex : PySem.W.Frag → Bool) (fa : List Fa) (fn : List DefD) : PySem.W.Hook where
  α := AlD
  obs := fun s => obsXG n ex fa fn s.heap.get?
  val := fun _ => valD fn
  says := fun _ h => ∃ K : PySem.W.Frag, K.In h ∧ SaysX ex fa fn K
  of := fun _ _ e => ⟨_, frG_in, e⟩
  keeps := fun _ _ _ ⟨K, hK, c⟩ k => ⟨K, PySem.W.Frag.In.keeps hK k, c⟩
theorem obsXG_eq {n : Nat} {ex : PySem.W.Frag → Bool} {fa : List Fa} {fn : List DefD} {g : Addr → Option Obj} {s : Shared} (h : ∀ a, g a = s.heap.get? a) : obsXG n ex fa fn g = (hookX n ex fa fn).obs s := by
  have e : g = s.heap.get? := funext h
  rw [e] <;> rfl
end He

/-! ### the same rules, the fragment named (within a comprehension's block) -/
namespace HX
open PySem PySem.Spec PyProof.Rows L2
section
variable {X : Cx}
theorem pe_fldK (K : PySem.W.Frag) (hK : X.K = K) {e : PySem.Expr} {f : Str} {pos : Pos} {ta : TE} (h : PE X e ta) (hb : attributeBase e f X.env (eval e X.env) = eval e X.env) : PE X (e.Attribute f pos) (tFld K ta f) := by
  subst hK
  exact pe_fld h hb
theorem op_in_seqK (K : PySem.W.Frag) (hK : X.K = K) : OpR X (compareOp .In) (rIn K false) := by
  subst hK
  exact op_in_seq
theorem op_notIn_seqK (K : PySem.W.Frag) (hK : X.K = K) : OpR X (compareOp .NotIn) (rIn K true) := by
  subst hK
  exact op_notIn_seq
theorem sl_listK (K : PySem.W.Frag) (hK : X.K = K) : SlR X (rSlL K) := by
  subst hK
  exact sl_list
theorem sl_tupK (K : PySem.W.Frag) (hK : X.K = K) : SlR X (rSlT K) := by
  subst hK
  exact sl_tup
theorem ix_listK (K : PySem.W.Frag) (hK : X.K = K) : IxR X (rIxL K) := by
  subst hK
  exact ix_list
theorem ix_tupK (K : PySem.W.Frag) (hK : X.K = K) : IxR X (rIxT K) := by
  subst hK
  exact ix_tup
theorem op_catTK (K : PySem.W.Frag) (hK : X.K = K) : OpR X (binaryOp .Add) (rCatT K) := by
  subst hK
  exact op_catT
theorem op_eqDK (K : PySem.W.Frag) (hK : X.K = K) (hu : X.A.units + 64 < cLine) : OpR X (compareOp .Eq) (rEqD K) := by
  subst hK
  exact op_eqD hu
theorem op_neDK (K : PySem.W.Frag) (hK : X.K = K) (hu : X.A.units + 64 < cLine) : OpR X (compareOp .NotEq) (rNeD K) := by
  subst hK
  exact op_neD hu
theorem x_lenLK (K : PySem.W.Frag) (hK : X.K = K) : CallR X (.builtin "len") (xLenL K) := by
  subst hK
  exact x_lenL
theorem pg_tupK (K : PySem.W.Frag) (hK : X.K = K) {pos : Pos} {es : List PySem.Expr} {k : Nat} {t : TGs} {n : Nat} (hc : X.calm = true) (h : PGs X es t) (h1 : (assignEach es X.env).length = n := by rfl) (h2 : (assignEach es X.env).findIdx? (·.1) = none := by rfl) : PG X (.Tuple es k pos) (gTup K n t) := by
  subst hK
  exact pg_tup hc h h1 h2
theorem x_isiK (K : PySem.W.Frag) (hK : X.K = K) : CallR X (.builtin "isinstance") (rIsi K) := by
  subst hK
  exact call_isi
def xDict : List V → Hp → VK → Prop := fun xs H Q => ∃ (a : Addr) (kvs : List (Key × V)), xs = [.ref a] ∧ Rd H a (.dK kvs) ∧ ∀ p, H p = none → Q (.ref p) (upd H p (.dK kvs))
theorem x_dict : CallR X (.type "dict") xDict := call_dictD
def xSortedD : List V → Hp → VK → Prop := fun xs H Q => ∃ (a : Addr) (kvs : List (Key × V)) (ks : List Int), xs = [.ref a] ∧ Rd H a (.dK kvs) ∧ kvs.map (·.1) = ks.map Sum.inl ∧ ks.length < 64 ∧ ∀ (ys : List Int) (p : Addr), ys.Perm ks → ys.Pairwise (· ≤ ·) → H p = none → Q (.ref p) (upd H p (.lst (ys.map V.int)))
theorem x_sortedD (h : X.calm = true) : CallR X (.builtin "sorted") xSortedD := call_sortedDI h
end
end HX

set_option Elab.async false
set_option linter.all false
set_option maxRecDepth 100000
set_option maxHeartbeats 4000000
/-! HXj: any(test for x in xs) over a list of anything, the test by rules of its own; the def's table is held as a thing of which only this is known: it is a table. -/
namespace AnyL
open PySem PySem.Spec PyProof.Rows L2
/-- the table at P, whatever it holds -/
def TabO (P : Addr) : HO := .ext fun h => ∃ ps : Array Value, h.get? P = some { cls := .none, data := .fields ps } ∧ TriplesOk ps.toList
section
variable {X : Cx} {pins : List (Addr × Obj)} {σ : L2.St} {H : Hp} {s : Shared} {P : Addr}
theorem tabO_get {pr : Program} {w : World} {h : Heap} (hok : HOk pr w H h) (hP : H P = some (TabO P)) : ∃ ps : Array Value, h.get? P = some { cls := .none, data := .fields ps } ∧ TriplesOk ps.toList :=
  (show ObjOk pr w H h P (.ext _) from hok P _ hP).1
theorem tabO_ok {pr : Program} {w : World} {h : Heap} {ps : Array Value} (e : h.get? P = some { cls := .none, data := .fields ps }) (t : TriplesOk ps.toList) : ObjOk pr w H h P (TabO P) :=
  ⟨⟨ps, e, t⟩, ⟨_, e⟩, fun h1 h2 ⟨qs, e1, t1⟩ k => ⟨qs, k _ e1, t1⟩⟩
/-- the table may have grown, all else is kept -/
theorem hok_tab {pr : Program} {w : World} {h h' : Heap} (hok : HOk pr w H h) (hP : H P = some (TabO P)) (k : ∀ b o, b ≠ P → h.get? b = some o → h'.get? b = some o)
    (hm : ∃ ps : Array Value, h'.get? P = some { cls := .none, data := .fields ps } ∧ TriplesOk ps.toList) : HOk pr w H h' := fun b u e => by
  by_cases hb : b = P
  · subst hb
    rw [hP] at e
    cases e
    obtain ⟨ps, e1, t1⟩ := hm
    exact tabO_ok e1 t1
  · refine (hok b u e).stay (fun d v hd q => k d v ?_ q) (fun _ q => q) fun _ _ q => q
    rcases hd with z | z
    · rw [z]; exact hb
    · intro c
      rw [c, hP] at z
      cases z
theorem inv_tabO {h' : Heap} {g' : Array GenState} {d' : Drawn} {t' : Nat} (I : Inv X pins σ H s) (hP : H P = some (TabO P)) (k : ∀ b o, b ≠ P → s.heap.get? b = some o → h'.get? b = some o)
    (hm : ∃ ps : Array Value, h'.get? P = some { cls := .none, data := .fields ps } ∧ TriplesOk ps.toList) (hg : AllBare g') :
    Inv X pins σ H { s with heap := h', gens := g', drawn := d', toks := t' } := by
  have nN : ∀ b, H b = none → b ≠ P := fun b e z => by
    rw [z, hP] at e
    cases e
  refine I.step (g' := g') (d' := d') (ch := []) (fun b hb => absurd hb (by simp)) (fun b o _ _ _ e n => k b o (nN b n) e) (fun b o _ _ _ e n => ⟨o.slots, k b o (nN b n) e⟩)
    (fun b o _ e n => n) (fun b o _ e => ?_) (fun b xs e => e) (fun b o u e => e) (fun b qs e => ⟨#[], by simpa using e⟩) (fun m hn => ?_) (hok_tab I.hok hP k hm) hg
  · by_cases hb : b = P
    · obtain ⟨ps, e1, _⟩ := hm
      rw [hb]
      exact ⟨_, e1⟩
    · exact ⟨o, k b o hb e⟩
  · obtain ⟨ob, es, ep, ho, r⟩ := hn
    exact ⟨ob, es, ep, k _ ob (nN _ I.free) ho, r⟩
end
/-! ### the test of an element -/
abbrev TV : Type := L2.St → V → Hp → (V → Prop) → Prop
/-- what the generator's frame sees -/
structure Sees (X : Cx) (σ : L2.St) (scope : Scope) (x : Str) (H : Hp) (cenv : Env) (s : Shared) (m : Str → Option Value) (v : V) : Prop where
  sc : cenv.scope = scope
  cl : cenv.cells = cloFrom X.env.cells scope.names []
  hok : HOk X.prog X.w H s.heap
  kin : X.K.In s.heap
  cap : ∀ (i : Nat) (y : Str) (z : V), X.N[i]? = some y → σ[i]? = some (some z) → X.env.kindOf y = some .cell → ∃ c u, X.env.cells.lookup y = some c ∧ s.heap.IsCell c (some u) ∧ RelV z u
  ns : s.heap.Ns cenv.locals m
  at_ : ∃ u, m x = some u ∧ RelV v u
theorem ns_keeps {h h' : Heap} {a : Addr} {m : Str → Option Value} (n : h.Ns a m) (k : ∀ b o, h.get? b = some o → h'.get? b = some o) : h'.Ns a m := by
  obtain ⟨ob, es, ep, ho, r⟩ := n
  exact ⟨ob, es, ep, k _ _ ho, r⟩
theorem keeps_trans {a b c : Shared} (h1 : Keeps a b) (h2 : Keeps b c) : Keeps a c := by
  obtain ⟨h', k, rfl, e⟩ := h1
  obtain ⟨h'', k2, rfl, e2⟩ := h2
  exact ⟨h'', k2, rfl, fun b o q => e2 b o (e b o q)⟩
section
variable {X : Cx} {σ : L2.St} {scope : Scope} {x : Str} {H : Hp} {cenv : Env} {s s' : Shared} {m : Str → Option Value} {v : V}
theorem Sees.keeps (h : Sees X σ scope x H cenv s m v) (k : Keeps s s') : Sees X σ scope x H cenv s' m v := by
  obtain ⟨h', k2, rfl, e⟩ := k
  refine ⟨h.sc, h.cl, h.hok.kept e, h.kin.keeps e, fun i y z e1 e2 e3 => ?_, ns_keeps h.ns e, h.at_⟩
  obtain ⟨c, u, a1, ⟨ob, a2, a3⟩, a4⟩ := h.cap i y z e1 e2 e3
  exact ⟨c, u, a1, ⟨ob, e _ _ a2, a3⟩, a4⟩
/-- an expression within the generator: its value by t -/
structure EE (X : Cx) (scope : Scope) (x : Str) (e : Expr) (t : TV) : Prop where
  run : ∀ (σ : L2.St) (H : Hp) (cenv : Env) (A' : Around) (E' : Value → Shared → Prop) (s : Shared) (m : Str → Option Value) (v : V) (q : V → Prop), Sees X σ scope x H cenv s m v → t σ v H q →
    wpAny (model X.prog X.w) A' (eval e cenv) (fun y s₃ => (∃ z, RelV z y ∧ q z) ∧ Keeps s s₃) E' s
def eX : TV := fun _ v _ q => q v
def eVar (i : Nat) : TV := fun σ _ _ q => ∃ z, σ[i]? = some (some z) ∧ q z
def eFld (K : PySem.W.Frag) (t : TV) (f : Str) : TV := fun σ v H q => t σ v H fun z => ∃ a C dx fs y, z = .ref a ∧ H a = some (.ins C dx fs) ∧ Cls K C ∧ NoAttr K C f ∧ fs.lookup f = some y ∧ q y
def eIn (K : PySem.W.Frag) (b : Bool) (t u : TV) : TV := fun σ v H q => t σ v H fun z => u σ v H fun y => ∃ p xs, y = .ref p ∧ SqL K H p xs ∧ flatV z = true ∧ xs.all flatV = true ∧ q (.bl (if b = true then !inV z xs else inV z xs))
def eAnd (t u : TV) : TV := fun σ v H q => t σ v H fun z => ∃ b, z = .bl b ∧ if b = true then u σ v H q else q (.bl false)
variable {e a b : Expr} {t u : TV} {p1 pos : Pos} {f : Str}
theorem ee_x (hk : scope.kind = .function) (hl : scope.names.lookup x = some .local) (hd : (x == ("__debug__" : Str)) = false := by decide) : EE X scope x (.Name x p1) eX := by
  refine ⟨fun σ H cenv A' E' s m v q h ht => ?_⟩
  obtain ⟨u, e1, r⟩ := h.at_
  refine wpAny_Name (wpAny_loadName_local (by rw [h.sc]; exact hk) (show cenv.scope.names.lookup x = some .local by rw [h.sc]; exact hl) h.ns e1 ?_) hd
  exact ⟨⟨v, r, ht⟩, GxR.keeps_refl _⟩
theorem ee_var {i : Nat} {y : Str} (hk : scope.kind = .function) (hN : X.N[i]? = some y) (hc : X.env.kindOf y = some .cell) (hl : scope.names.lookup y = some .free)
    (hcl : ∀ c, X.env.cells.lookup y = some c → (cloFrom X.env.cells scope.names []).lookup y = some c) (hd : (y == ("__debug__" : Str)) = false := by decide) (hcd : (y == ("__classdict__" : Str)) = false := by decide) : EE X scope x (.Name y p1) (eVar i) := by
  refine ⟨fun σ H cenv A' E' s m v q h ⟨z, e1, ht⟩ => ?_⟩
  obtain ⟨c, u, a1, a2, a3⟩ := h.cap i y z hN e1 hc
  refine wpAny_Name (wpAny_loadName_free (by rw [h.sc]; exact hk) (show cenv.scope.names.lookup y = some .free by rw [h.sc]; exact hl) (by rw [h.cl]; exact hcl c a1) a2 ?_ hcd) hd
  exact ⟨⟨z, a3, ht⟩, GxR.keeps_refl _⟩
theorem ee_fld (he : EE X scope x e t) (hb : ∀ cenv : Env, attributeBase e f cenv (eval e cenv) = eval e cenv) : EE X scope x (.Attribute e f pos) (eFld X.K t f) := by
  refine ⟨fun σ H cenv A' E' s m v q h ht => attr_of (hb cenv) ?_⟩
  refine wpAny_mono (he.run σ H cenv A' E' s m v _ h ht) (fun y s1 hy => ?_) fun _ _ e => e
  obtain ⟨⟨z, rz, a, C, dx, fs, w, rfl, ha, c, n, l, hq⟩, kp⟩ := hy
  obtain rfl : y = Value.ref a := rz
  have h1 := h.keeps kp
  obtain ⟨mA, O, r, _, _, _⟩ := ins_get h1.hok ha
  obtain ⟨u, hu, ru⟩ := RelO.some_of (v := w) (o := mA f) (by rw [← l]; exact r f)
  exact get_map h1.kin O (c.get f) c.hd n hu (handed_of ru) ⟨⟨w, ru, hq⟩, keeps_trans kp (GxR.keeps_tok _ _)⟩
theorem ee_in {op : CmpOp} {bb : Bool} (hop : op = if bb = true then .NotIn else .In) (ha : EE X scope x a t) (hb : EE X scope x b u) (hm : behindInMarks op b = false) : EE X scope x (.Compare a [op] [b] pos) (eIn X.K bb t u) := by
  refine ⟨fun σ H cenv A' E' s m v q h ht => wpAny_Compare1 ?_ hm⟩
  refine wpAny_mono (ha.run σ H cenv A' E' s m v _ h ht) (fun y s1 hy => ?_) fun _ _ e => e
  obtain ⟨⟨z, rz, hu⟩, k1⟩ := hy
  have h1 := h.keeps k1
  refine wpAny_mono (hb.run σ H cenv A' E' s1 m v _ h1 hu) (fun y2 s2 hy2 => ?_) fun _ _ e => e
  obtain ⟨⟨z2, rz2, p, xs, rfl, hp, fz, fx, hq⟩, k2⟩ := hy2
  obtain rfl : y2 = Value.ref p := rz2
  have h2 := h1.keeps k2
  have k12 := keeps_trans k1 k2
  obtain ⟨its, r, pl⟩ : ∃ its : List Value, Vals xs its ∧ s2.heap.IsList p its.toArray := by
    rcases hp with hp | ⟨o, its, n, hk, hc, hd, hs, hz, r⟩
    · obtain ⟨z, its, n, r, e⟩ := hp.ok h2.hok
      exact ⟨its, r, PlainL.isList ⟨_, n, e, rfl, rfl, rfl⟩⟩
    · exact ⟨its.toList, r, PlainL.isList ⟨o, n, h2.kin p o hk, hc, hd, by simpa using hs⟩⟩
  subst hop
  cases bb with
  | false =>
    refine SeqAt.in_listAt (eqU z) pl (fun w hw => mem_eqAt rz fz r fx w (by simpa using hw)) ?_
    rw [show its.toArray.any (eqU z) = its.any (eqU z) by simp, any_eqU r fx]
    exact ⟨⟨.bl _, rfl, hq⟩, k12⟩
  | true =>
    refine SeqAt.notIn_listAt (eqU z) pl (fun w hw => mem_eqAt rz fz r fx w (by simpa using hw)) ?_
    rw [show its.toArray.any (eqU z) = its.any (eqU z) by simp, any_eqU r fx]
    exact ⟨⟨.bl _, rfl, hq⟩, k12⟩
theorem ee_and {rest : List Expr} (ha : EE X scope x a t) (hb : EE X scope x (.BoolOp .And (b :: rest) pos) u) : EE X scope x (.BoolOp .And (a :: b :: rest) pos) (eAnd t u) := by
  refine ⟨fun σ H cenv A' E' s m v q h ht => BoolOp_and ?_⟩
  refine wpAny_mono (ha.run σ H cenv A' E' s m v _ h ht) (fun y s1 hy => ?_) fun _ _ e => e
  obtain ⟨⟨z, rz, bb, rfl, hq⟩, k1⟩ := hy
  cases rz
  refine wpAny_truthy_bool ?_
  cases bb with
  | true =>
    refine wpAny_mono (hb.run σ H cenv A' E' s1 m v _ (h.keeps k1) hq) (fun y s2 hy => ⟨hy.1, keeps_trans k1 hy.2⟩) fun _ _ e => e
  | false => exact ⟨⟨.bl false, rfl, hq⟩, k1⟩
theorem ee_one {op : BoolOp} (ha : EE X scope x a t) : EE X scope x (.BoolOp op [a] pos) t :=
  ⟨fun σ H cenv A' E' s m v q h ht => BoolOp_one (ha.run σ H cenv A' E' s m v q h ht)⟩
end
/-! ### the generator -/
section
variable {X : Cx} {pins : List (Addr × Obj)} {σ : L2.St} {H : Hp} {s : Shared}
def trV (pb : V → Bool) (l : List V) (j : Nat) : Bool := match l[j]? with
  | some b => pb b
  | none => false
theorem trV_some {pb : V → Bool} {l : List V} {j : Nat} {b : V} (h : l[j]? = some b) : trV pb l j = pb b := by
  unfold trV
  rw [h]
theorem any_trV (l : List V) (pb : V → Bool) : (List.range l.length).any (trV pb l) = l.any pb := by
  rw [Bool.eq_iff_iff, List.any_eq_true, List.any_eq_true]
  constructor
  · intro ⟨j, hj, h⟩
    have hj' := List.mem_range.mp hj
    rw [trV_some (List.getElem?_eq_getElem hj')] at h
    exact ⟨l[j], List.getElem_mem hj', h⟩
  · intro ⟨b, hb, h⟩
    obtain ⟨j, hj, e⟩ := List.getElem_of_mem hb
    refine ⟨j, List.mem_range.mpr hj, ?_⟩
    rw [trV_some (List.getElem?_eq_getElem hj), e]
    exact h
/-- the generator g over xs, ready to be walked, in the state s5 -/
def Ready (X : Cx) (pins : List (Addr × Obj)) (σ : L2.St) (H1 : Hp) (xs : List V) (pb : V → Bool) (g : Addr) (s5 : Shared) : Prop :=
  ∃ (fp wr : List Addr) (G : Array GenState → Array GenState → Prop) (F : Nat → Value → Prop) (St : Nat → Shared → Prop),
    WalksS X.prog X.w X.A.in1 g fp wr G xs.length F St ∧ St 0 s5 ∧ TruthOf X.prog X.w X.A.in1 F (trV pb xs) ∧ ∀ s', Moved wr G s5 s' → Inv X pins σ H1 s'
theorem gen_any {c P : Addr} {elt iter : Expr} {x : Str} {px gpos : Pos} {scope : Scope} {t : TV} {te : TE} {k : Nat} {Q' : Value → Shared → Prop} {R : List V → (V → Bool) → Hp → Prop}
    (hr : Room k X.A) (TB : GxR.TabB X.base X.mg c P) (hcode : X.env.code = .ref c) (S : GxR.GenS X.env scope x) (hi : PE X iter te) (hel : EE X scope x elt t)
    (hs : ∀ v, genFold iter X.env v = pure v) (I : Inv X pins σ H s)
    (h : te σ H fun v H1 => ∃ (yl : Addr) (xs : List V) (pb : V → Bool), v = .ref yl ∧ SqL X.K H1 yl xs ∧ H1 P = some (TabO P) ∧ (∀ z ∈ xs, t σ z H1 fun w => w = .bl (pb z)) ∧ R xs pb H1)
    (hv : ∀ (i : Nat) (y : Str), X.N[i]? = some y → X.env.kindOf y = some .cell → Vis X.env.scope y)
    (hQ : ∀ xs pb H1 g s5, R xs pb H1 → Ready X pins σ H1 xs pb g s5 → Q' (.ref g) s5) :
    wpAny (model X.prog X.w) X.A (eval (.GeneratorExp elt [⟨.Name x px, iter, [], 0⟩] scope gpos) X.env) Q' X.xe s := by
  refine wpAny_GeneratorExp_walksQ hr.hd S.co (closure_ok S.free) S.cell S.dot S.loc S.kind (by have := hr.dp; omega) ?_ hs
  refine thn (hi.run pins s σ H _ I h) fun xv s1 ⟨v, H1, I1, r1, q1⟩ => ?_
  obtain ⟨yl, xs, pb, rfl, hyl, hP, hel1, q1⟩ := q1
  obtain rfl : xv = Value.ref yl := r1
  obtain ⟨its, rv, hl, hz⟩ := I1.list hyl
  have hIL := hl.isList
  have hlen : its.length = xs.length := rv.length.symm
  obtain ⟨ps, hPs, ht⟩ := tabO_get I1.hok hP
  have hPlt : P < s1.heap.objs.size := Heap.lt_size hPs
  have hylt : yl < s1.heap.objs.size := by
    obtain ⟨_, e, _⟩ := _root_.id hIL
    exact Heap.lt_size e
  have hylP : yl ≠ P := fun z => by
    obtain ⟨_, e, _, _, hd1⟩ := _root_.id hIL
    rw [z, hPs] at e
    cases e
    cases hd1
  have hcl : cStatics < s1.heap.objs.size := let ⟨_, hns, _⟩ := I1.nolimit; hns.lt
  have hcP : cStatics ≠ P := fun e => by
    obtain ⟨_, hns, _⟩ := I1.nolimit
    obtain ⟨o', es, ep, ho, hd, _⟩ := hns
    rw [e, hPs] at ho
    cases ho
    cases hd
  -- what is captured stands in cells
  have cap1 : ∀ (i : Nat) (y : Str) (z : V), X.N[i]? = some y → σ[i]? = some (some z) → X.env.kindOf y = some .cell → ∃ c u, X.env.cells.lookup y = some c ∧ s1.heap.IsCell c (some u) ∧ RelV z u := by
    intro i y z e1 e2 e3
    obtain ⟨m, _, hlk⟩ := I1.loc
    obtain ⟨u, ru, lk⟩ := hlk i y z e1 e2 (hv i y e1 e3)
    rcases lk with ⟨q, _⟩ | ⟨_, c, hc, hcell⟩
    · rw [e3] at q; cases q
    · exact ⟨c, u, hc, hcell, ru⟩
  refine wpAny_pyIter_list hIL ?_
  generalize ho : ({ cls := .type "list_iterator", data := .fields #[.ref yl, .int 0 0] } : Obj) = o
  have hitr : (s1.heap.push o).IsListIter s1.heap.objs.size yl 0 := by
    subst ho
    exact ⟨_, Heap.get?_push_size _ rfl, rfl, rfl⟩
  have hP2 : (s1.heap.push o).get? P = some { cls := .none, data := .fields ps } := Heap.get?_push_of_some _ hPs
  have cd : PySem.W.CodeHd (s1.heap.push o) c P := TB.code.keeps fun b u e => Heap.get?_push_of_some _ (I1.bk b u e)
  have lim2 : (s1.heap.push o).NoLimit := I1.nolimit.push o
  have sz2 : (s1.heap.push o).objs.size = s1.heap.objs.size + 1 := Heap.size_push ..
  have cont : ∀ (code : Value) (h3 : Heap) (tk : Nat) (ps' : Array Value), Heap.ExtBut P (s1.heap.push o) h3 → (s1.heap.push o).objs.size ≤ h3.objs.size → h3.get? P = some { cls := .none, data := .fields ps' } → TriplesOk ps'.toList →
      wpAny (model X.prog X.w) X.A (builtinsFor X.env.globals X.env.builtins) (fun bi s₄ =>
        ∃ Ia fp wr n₀ Pf St₀ pz F, Value.ref s1.heap.objs.size = .ref Ia ∧ (∀ A' : Around, A'.handled = none → Walks X.prog X.w A' Ia fp wr n₀ Pf St₀) ∧ St₀ 0 s₄.heap ∧ (∀ b ∈ fp, b < s₄.heap.objs.size) ∧ s₄.heap.NoLimit ∧ cStatics ∉ wr ∧
          (∀ href : Heap, (∀ b o, s₄.heap.get? b = some o → href.get? b = some o) →
            QuietGen X.prog X.w (genEnv scope (cloFrom X.env.cells scope.names []) s₄.heap.objs.size code bi X.env) x [] elt (List.range s₄.heap.objs.size) wr Pf pz F href) ∧
          (∀ a h₅ tk gs, gs.bare = true → s₄.heap.objs.size < a → h₅.objs.size = a + 1 → (∀ b o, s₄.heap.get? b = some o → h₅.get? b = some o) →
            WalksS X.prog X.w X.A.in4 a (a :: s₄.heap.objs.size :: List.range s₄.heap.objs.size) (s₄.heap.objs.size :: wr) (GenOnlyQ s₄.gens.size) (passing pz n₀ 0).length
              (fun j y => ∃ i, (passing pz n₀ 0)[j]? = some i ∧ F i y) (GenAt X.prog X.w X.A.in4 a s₄.gens.size s₄.heap.objs.size (List.range s₄.heap.objs.size) wr pz n₀ F) →
            GenAt X.prog X.w X.A.in4 a s₄.gens.size s₄.heap.objs.size (List.range s₄.heap.objs.size) wr pz n₀ F 0 { s₄ with gens := s₄.gens.push gs, toks := tk, heap := h₅ } →
            Q' (.ref a) { s₄ with gens := s₄.gens.push gs, toks := tk, heap := h₅ })) X.xe { s1 with heap := h3, toks := tk } := by
    intro code h3 tk ps' hx hsz hP3 ht3
    obtain ⟨bm, ob, e1, e2, e3, e4, e5, e6, e7, e8⟩ := TB.bm
    have keep3 : ∀ b u, b ≠ P → s1.heap.get? b = some u → h3.get? b = some u := fun b u hb e => hx b u hb (Heap.get?_push_of_some _ e)
    have hIL3 : h3.IsList yl its.toArray := by
      obtain ⟨ob, e, r⟩ := _root_.id hIL
      exact ⟨ob, keep3 _ _ hylP e, r⟩
    have hItr3 : h3.IsListIter s1.heap.objs.size yl 0 := hitr.at fun u e => hx _ u (Nat.ne_of_gt hPlt) e
    refine wpAny_builtinsFor (m := X.mg) (by rw [I1.ok.glob]; exact ((I1.mod.glob.keeps I1.bk).push o).extBut hx TB.gP) e1 e2 (keep3 _ _ e4 (I1.bk _ _ e5)) e6 e7 e8 ?_
    refine ⟨s1.heap.objs.size, [s1.heap.objs.size, yl], [s1.heap.objs.size], its.toArray.size, (fun i v => its.toArray[i]? = some v), (fun i h => h.IsListIter s1.heap.objs.size yl i ∧ h.IsList yl its.toArray), (fun _ => true),
      (fun i y => ∃ z, xs[i]? = some z ∧ y = .bool (pb z)), rfl, (fun A' hA => Walks.list hA _ _ (Nat.ne_of_lt hylt) _), ⟨hItr3, hIL3⟩, ?_, lim2.extBut hx hcP, ?_, ?_, ?_⟩
    · intro b hb
      rcases List.mem_cons.mp hb with z | z
      · rw [z]
        show s1.heap.objs.size < h3.objs.size
        omega
      · rw [List.mem_singleton.mp z]
        show yl < h3.objs.size
        have e9 : s1.heap.objs.size ≤ h3.objs.size := by omega
        exact Nat.lt_of_lt_of_le hylt e9
    · intro z
      exact Nat.ne_of_lt hcl (List.mem_singleton.mp z)
    · intro href hhref
      refine ⟨fun A' E' i v s₂ m₂ hA hPv hn hm hk => ?_, fun A' E' i v s₂ m₂ hA hPv hp hn hm hk => ?_⟩
      · simp only [List.forIn_nil]
        exact wpAny_pure ⟨rfl, GxR.keeps_refl _⟩
      · have hv2 : its[i]? = some v := by simpa using hPv
        have hi2 : i < xs.length := by
          have := (List.getElem?_eq_some_iff.mp hv2).1
          omega
        obtain ⟨z, hz1⟩ : ∃ z, xs[i]? = some z := ⟨xs[i], List.getElem?_eq_getElem hi2⟩
        obtain ⟨u, hu, ru⟩ := rv.get hz1
        rw [hv2] at hu
        cases hu
        -- all that stood before is as it was, the table a table
        have at3 : ∀ b o, h3.get? b = some o → b ≠ s1.heap.objs.size → s₂.heap.get? b = some o := fun b o e hb => hk b (List.mem_range.mpr (Heap.lt_size e)) (fun c => hb (List.mem_singleton.mp c)) o (hhref b o e)
        have at1 : ∀ b o, b ≠ P → s1.heap.get? b = some o → s₂.heap.get? b = some o := fun b o hb e => at3 b o (keep3 b o hb e) (fun c => by
          have := Heap.lt_size e
          rw [c] at this
          exact absurd this (Nat.lt_irrefl _))
        have hP4 : s₂.heap.get? P = some { cls := .none, data := .fields ps' } := at3 P _ hP3 (Nat.ne_of_lt hPlt)
        have sees : Sees X σ scope x H1 (genEnv scope (cloFrom X.env.cells scope.names []) h3.objs.size code builtinsNs X.env) s₂ m₂ z := by
          refine ⟨rfl, rfl, hok_tab I1.hok hP at1 ⟨ps', hP4, ht3⟩, fun a o e => ?_, fun i y z e1 e2 e3 => ?_, hn, ⟨v, hm, ru⟩⟩
          · have hb : X.base.get? a = some o := I1.mod.kin a o e
            refine at1 a o (fun c => ?_) (I1.bk a o hb)
            have := (I1.bs a o hb).2
            rw [c, hP] at this
            cases this
          · obtain ⟨c, u, a1, ⟨ob, a2, a3⟩, a4⟩ := cap1 i y z e1 e2 e3
            refine ⟨c, u, a1, ⟨ob, at1 c ob (fun d => ?_) a2, a3⟩, a4⟩
            have := I1.freeC y c a1
            rw [d, hP] at this
            cases this
        refine wpAny_mono (hel.run σ H1 _ A' E' s₂ m₂ z _ sees (hel1 z (List.mem_of_getElem? hz1))) (fun y s3 r => ?_) fun _ _ e => e
        obtain ⟨⟨w, rw1, rfl⟩, kp⟩ := r
        exact ⟨⟨z, hz1, rw1⟩, kp⟩
    · intro g h5 tk5 gs hgb hag hsz5 hk5 W5 hgat
      simp only [GxR.passing_true, List.length_range] at W5
      have hn5 : its.toArray.size = xs.length := by rw [List.size_toArray, hlen]
      rw [hn5] at W5 hgat
      refine hQ xs pb H1 g _ q1 ⟨_, _, _, _, _, W5.in4_1, hgat, ?_, fun s' hm => ?_⟩
      · intro j y sj Qj Ej hy hQj
        obtain ⟨i, hij, z, hz1, rfl⟩ := hy
        obtain ⟨hj, ej⟩ := List.getElem?_eq_some_iff.mp hij
        rw [List.getElem_range] at ej
        subst ej
        have hQ2 : Qj (trV pb xs j) sj := hQj
        rw [trV_some hz1] at hQ2
        exact wpAny_truthy_bool hQ2
      · have nwr : ∀ b u, s1.heap.get? b = some u → b ∉ h3.objs.size :: [s1.heap.objs.size] := fun b u e hb => by
          have hl := Heap.lt_size e
          rcases List.mem_cons.mp hb with z | z
          · rw [z] at hl
            have h9 : (h3.objs.size : Nat) < s1.heap.objs.size := hl
            omega
          · rw [List.mem_singleton.mp z] at hl
            exact Nat.lt_irrefl _ hl
        have J := inv_tabO (h' := s'.heap) (g' := s'.gens) (d' := s'.drawn) (t' := s'.toks) I1 hP (fun b u hb e => hm.heap b u (nwr b u e) (hk5 b u (keep3 b u hb e)))
          ⟨ps', hm.heap P _ (nwr P _ hPs) (hk5 P _ hP3), ht3⟩ (AllBare.movedS (I1.bare.push hgb) hm)
        rw [GxR.sh_eta s1 s' hm.os] at J
        exact J
  refine ⟨lim2, ?_⟩
  cases hf : codeAmong gpos ps.toList with
  | none =>
    refine wpAny_genexprCodeX hcode (cd.code hP2 ht) (cd.tab hP2) hf fun c' h' tk hx hge hlt hco' _ htab' _ => ?_
    obtain ⟨o1, vs, f1, tf, fl, tg, inF, tx, tt, op, _, _, _, _, _, _, _, _, _, htr, _⟩ := hco'
    exact cont _ h' tk _ hx (Nat.le_trans hge (Nat.le_of_lt hlt)) htab'.2 htr
  | some cv =>
    refine wpAny_genexprCode_hit hcode (cd.code hP2 ht) hf ?_
    exact cont cv (s1.heap.push o) s1.toks ps (Heap.ExtBut.refl _ _) (Nat.le_refl _) hP2 ht
/-- any(test for x in e) -/
def tAnyL (K : PySem.W.Frag) (P : Addr) (t : TV) (te : TE) : TE := fun σ H Q => te σ H fun v H1 => ∃ (yl : Addr) (xs : List V) (pb : V → Bool), v = .ref yl ∧ SqL K H1 yl xs ∧ H1 P = some (TabO P) ∧ (∀ z ∈ xs, t σ z H1 fun w => w = .bl (pb z)) ∧ Q (.bl (xs.any pb)) H1
theorem pe_anyL {c P : Addr} {elt iter : Expr} {x : Str} {px p pos gpos : Pos} {scope : Scope} {t : TV} {te : TE} {k : Nat}
    (hr : Room k X.A) (hg : Gl X "any") (hm : X.mg "any" = none) (TB : GxR.TabB X.base X.mg c P) (hcode : X.env.code = .ref c) (S : GxR.GenS X.env scope x) (hi : PE X iter te) (hel : EE X scope x elt t)
    (hv : ∀ (i : Nat) (y : Str), X.N[i]? = some y → X.env.kindOf y = some .cell → Vis X.env.scope y)
    (hs : ∀ v, genFold iter X.env v = pure v)
    (he : starEach [.GeneratorExp elt [⟨.Name x px, iter, [], 0⟩] scope gpos] X.env = (false, eval (.GeneratorExp elt [⟨.Name x px, iter, [], 0⟩] scope gpos) X.env) :: starEach [] X.env := by rfl) :
    PE X (.Call (.Name "any" p) [.GeneratorExp elt [⟨.Name x px, iter, [], 0⟩] scope gpos] [] pos) (tAnyL X.K P t te) := by
  refine ⟨fun pins s σ H Q I h => ?_⟩
  refine wpAny_Call_Name_kw (ld_blt I hg hm boot_any ?_)
  refine PyProof.Rows.callWith_builtin1 ?_ he (by rfl)
  rw [he]
  show wpAny _ _ (spliced ((false, eval (.GeneratorExp elt [⟨.Name x px, iter, [], 0⟩] scope gpos) X.env) :: backTo pos (starEach [] X.env))) _ _ s
  refine Calls.spliced_cons (gen_any (R := fun xs pb H1 => Q (.bl (xs.any pb)) H1) hr TB hcode S hi hel hs I h hv fun xs pb H1 g s5 hR hG => ?_)
  obtain ⟨fp, wr, G, F, St, W, hst, htr, hI⟩ := hG
  refine Calls.spliced_nil ?_
  refine call_any_walkS (W.self 0 _ _ _ hst ⟨g, fp, wr, G, _, F, St, _, rfl, W, hst, htr, fun s' hmv => ?_⟩)
  refine ⟨.bl _, H1, hI s' hmv, rfl, ?_⟩
  rw [any_trV]
  exact hR
end
end AnyL

set_option Elab.async false
set_option linter.all false
set_option maxRecDepth 100000
set_option maxHeartbeats 4000000
/-! HXk: sorted(xs, key=f), f a def of the program whose promise is a whole number. -/
namespace HX
open PySem PySem.Spec PyProof.Rows L2
open PySem.W (KeepsBut EachIs)
theorem each_vals {vs : List Value} {xs : List V} (h : EachIs (fun v x => RelV x v) vs xs) : Vals xs vs := by
  induction h with
  | nil => exact .nil
  | cons r _ ih => exact .cons r ih
theorem vals_each {vs : List Value} {xs : List V} (h : Vals xs vs) : EachIs (fun v x => RelV x v) vs xs := by
  induction h with
  | nil => exact .nil
  | cons r _ ih => exact .cons r ih
theorem vals_at {vs : List Value} {xs : List V} (h : Vals xs vs) {j : Nat} {v : Value} (e : vs[j]? = some v) : ∃ x, xs[j]? = some x ∧ RelV x v := by
  induction h generalizing j with
  | nil => simp at e
  | cons r _ ih =>
    cases j with
    | zero => cases e; exact ⟨_, rfl, r⟩
    | succ j => exact ih (j := j) e
theorem each_ints {h : Heap} {kf : V → Int} {vs : List Value} {xs : List V} (e : EachIs (fun v x => ∃ t, v = Value.int (kf x) t) vs xs) : EachIs (fun v d => ∃ as, Reads h v d as) vs (xs.map fun x => PyData.int (kf x)) := by
  induction e with
  | nil => exact .nil
  | cons h1 _ ih =>
    obtain ⟨t, rfl⟩ := h1
    exact .cons ⟨[], .int ..⟩ ih
section
variable {X : Cx} {pins : List (Addr × Obj)} {σ : L2.St} {H : Hp} {s : Shared}
theorem inv_lt_fs (I : L2.Inv X pins σ H s) {b : Addr} (hb : b ∈ X.fs) : b < s.heap.objs.size := by
  obtain ⟨_, o, ho, _⟩ := I.ok.funs.mem hb
  exact Nat.lt_of_lt_of_le (Heap.lt_size ho) I.sz
theorem inv_lt_loc (I : L2.Inv X pins σ H s) : X.env.locals < s.heap.objs.size := by
  obtain ⟨m, ⟨o, _, _, ho, _⟩, _⟩ := I.loc
  exact Heap.lt_size ho
theorem inv_lt_cell (I : L2.Inv X pins σ H s) {x : Str} {c : Addr} (h : X.env.cells.lookup x = some c) : c < s.heap.objs.size := by
  obtain ⟨v, o, ho, _⟩ := I.cell x c h
  exact Heap.lt_size ho
/-- sorted by a key that is a whole number -/
def byKey (kf : V → Int) (xs : List V) : List V := xs.mergeSort fun a b => decide (kf a ≤ kf b)
theorem byKey_len (kf : V → Int) (xs : List V) : (byKey kf xs).length = xs.length := (List.mergeSort_perm _ _).length_eq
theorem sortKey_run {Q : VK} {CX : CXT} {k : Nat} {f : Addr} {fd : FuncData} {p : Str} {sp : Sp} {E : XK} {l : Addr} {xs : List V} {us ws : List Value} {kf : V → Int} (I : L2.Inv X pins σ H s) (r : Vals [.ref l] us) (rz : Vals [.ref f] ws) (hs : SqL X.K H l xs) (hu : X.A.units + 64 < cLine)
    (F : FnOk X.prog X.w X.K X.mg X.base CX k f fd [p] sp) (hr : Room (k + 2) X.A) (hb : L2.Binds X.K fd [p] []) (hx : ∀ s e s', ¬ CX X.stack H s E e s')
    (hsp : ∀ x ∈ xs, sp [x] H (fun v H' => v = .int (kf x) ∧ H' = H) E)
    (q : ∀ a, H a = none → Q (.ref a) (upd H a (.lst (byKey kf xs)))) :
    wpAny (model X.prog X.w) X.A (call (.builtin "sorted") us ([Str.ofString "key"].zip ws)) (EP X pins σ Q) X.xe s := by
  obtain rfl := Vals.ref1 r
  obtain rfl := Vals.ref1 rz
  obtain ⟨its, rv, hl, hz⟩ := I.list hs
  have hlen := rv.length
  have hz' : its.length ≤ sizeLine := by rw [← hlen]; exact hz
  have hcell : ∀ (o : Obj), o.data = .seq #[] 0 → True := fun _ _ => trivial
  refine PySem.W.sorted_of_sort (vs := its) hl.isList hz' (PyProof.Rows.ksk_s1 _ _) (fun _ => PyProof.Rows.ksk_l1 _ _) fun E' => ?_
  show wpAny (model X.prog X.w) X.A.in1.in1 (Builtin.«list.sort» ⟨[.ref (s.heap.objs.size + 1)], [(Str.ofString "key", Value.ref f)]⟩) _ E' _
  rw [PyProof.Rows.ksk_t1]
  have ho := PySem.W.copyHeap_at s.heap its
  have hold : ∀ b o, s.heap.get? b = some o → (PySem.W.copyHeap s.heap its).get? b = some o := fun b o e => PySem.W.copyHeap_old e
  generalize PySem.W.copyHeap s.heap its = h0 at ho hold ⊢
  have hla : s.heap.objs.size ≤ s.heap.objs.size + 1 := Nat.le_succ _
  generalize s.heap.objs.size + 1 = a at ho hla ⊢
  have na0 : ∀ {b o}, s.heap.get? b = some o → b ≠ a := fun {b o} e => Nat.ne_of_lt (Nat.lt_of_lt_of_le (Heap.lt_size e) hla)
  have ha : a < h0.objs.size := Heap.lt_size ho
  obtain ⟨e1, ho1⟩ : ∃ e1, (h0.update a (Obj.mapSeq fun _ => (#[] : Array Value))).get? a = some (seqObj "list" #[] e1) := ⟨_, get?_update_seq ho fun _ => #[]⟩
  have hkS : ((h0.update a (Obj.mapSeq fun _ => (#[] : Array Value))).push (seqObj "tuple" its.toArray 0)).objs.size = h0.objs.size + 1 := by rw [size_push', Heap.size_update]
  unfold ksk_tree
  refine wpAny_bind (listItems_at ho rfl ?_)
  refine wpAny_bind (listUpdate_at ho rfl ?_ (by rw [List.size_toArray]; exact hz') (Nat.zero_le _))
  refine wpAny_bind (seqEpoch_at ho1 rfl ?_)
  refine wpAny_bind (wpAny_newTuple ?_ (by show its.length ≤ _; exact hz'))
  refine wpAny_bind (wpAny_newList ?_ (Nat.zero_le _))
  refine wpAny_holding ?_
  have hp1 : ∀ b o, s.heap.get? b = some o → (((h0.update a (Obj.mapSeq fun _ => (#[] : Array Value))).push (seqObj "tuple" its.toArray 0)).push (seqObj "list" #[] 0)).get? b = some o := fun b o e =>
    Heap.get?_push_of_some _ (Heap.get?_push_of_some _ ((Heap.get?_update_ne _ _ _ _ (na0 e)).trans (hold b o e)))
  have hna : (((h0.update a (Obj.mapSeq fun _ => (#[] : Array Value))).push (seqObj "tuple" its.toArray 0)).push (seqObj "list" #[] 0)).get? a = some (seqObj "list" #[] e1) := Heap.get?_push_of_some _ (Heap.get?_push_of_some _ ho1)
  have hnk : (((h0.update a (Obj.mapSeq fun _ => (#[] : Array Value))).push (seqObj "tuple" its.toArray 0)).push (seqObj "list" #[] 0)).get? ((h0.update a (Obj.mapSeq fun _ => (#[] : Array Value))).push (seqObj "tuple" its.toArray 0)).objs.size = some (seqObj "list" #[] 0) := Heap.get?_push_size _ rfl
  have hka : ((h0.update a (Obj.mapSeq fun _ => (#[] : Array Value))).push (seqObj "tuple" its.toArray 0)).objs.size ≠ a := by rw [hkS]; omega
  have hlk : s.heap.objs.size ≤ ((h0.update a (Obj.mapSeq fun _ => (#[] : Array Value))).push (seqObj "tuple" its.toArray 0)).objs.size := by rw [hkS]; omega
  show wpAny _ _ (ksk_rest a (.ref f) false its.toArray e1 (.ref ((h0.update a (Obj.mapSeq fun _ => (#[] : Array Value))).push (seqObj "tuple" its.toArray 0)).objs.size)) _ _ { s with heap := (((h0.update a (Obj.mapSeq fun _ => (#[] : Array Value))).push (seqObj "tuple" its.toArray 0)).push (seqObj "list" #[] 0)) }
  generalize ((h0.update a (Obj.mapSeq fun _ => (#[] : Array Value))).push (seqObj "tuple" its.toArray 0)).objs.size = kS at hnk hka hlk hkS ⊢
  generalize (((h0.update a (Obj.mapSeq fun _ => (#[] : Array Value))).push (seqObj "tuple" its.toArray 0)).push (seqObj "list" #[] 0)) = h1 at hp1 hna hnk ⊢
  have Ha : H a = none := I.hok.fresh hla
  have Hk : H kS = none := I.hok.fresh hlk
  have I1 : L2.Inv X pins σ H { s with heap := h1, toks := s.toks } := I.kept hp1
  -- the places of both are none of the others
  have la : a ≠ X.env.locals := fun e => absurd (inv_lt_loc I) (by rw [← e]; exact Nat.not_lt.mpr hla)
  have lk : kS ≠ X.env.locals := fun e => absurd (inv_lt_loc I) (by rw [← e]; exact Nat.not_lt.mpr hlk)
  have fa : a ∉ X.fs := fun e => absurd (inv_lt_fs I e) (Nat.not_lt.mpr hla)
  have fk : kS ∉ X.fs := fun e => absurd (inv_lt_fs I e) (Nat.not_lt.mpr hlk)
  have ca : ∀ x c, X.env.cells.lookup x = some c → c ≠ a := fun x c h e => absurd (inv_lt_cell I h) (by rw [e]; exact Nat.not_lt.mpr hla)
  have ck : ∀ x c, X.env.cells.lookup x = some c → c ≠ kS := fun x c h e => absurd (inv_lt_cell I h) (by rw [e]; exact Nat.not_lt.mpr hlk)
  have pa : ∀ p ∈ X.pn ++ pins, p.1 ≠ a := fun p hp => na0 (I.pin p hp).1
  have pk : ∀ p ∈ X.pn ++ pins, p.1 ≠ kS := fun p hp => Nat.ne_of_lt (Nat.lt_of_lt_of_le (Heap.lt_size (I.pin p hp).1) hlk)
  have sa : X.s_0.heap.objs.size ≤ a := Nat.le_trans I.sz hla
  have sk : X.s_0.heap.objs.size ≤ kS := Nat.le_trans I.sz hlk
  unfold ksk_rest
  refine wpAny_bind (wpAny_rule ?_)
  rw [List.forIn_toArray]
  refine wpAny_bind (ksk_fold (fun i s' => ∃ kA e, L2.Inv X pins σ H s' ∧ s'.heap.get? kS = some (seqObj "list" kA e) ∧ s'.heap.get? a = some (seqObj "list" #[] e1) ∧ EachIs (fun v x => ∃ t, v = Value.int (kf x) t) kA.toList (xs.take i)) its 0 _
    ⟨#[], 0, I1, hnk, hna, by rw [List.take_zero]; exact EachIs.nil⟩ ?step ?done)
  case step =>
    rintro j x s' hx' ⟨kA, e, I', nk', na', hk⟩
    simp only [Nat.zero_add] at hk ⊢
    obtain ⟨v, hv, rv'⟩ := vals_at rv hx'
    have hm := List.mem_of_getElem? hv
    have hj : j < xs.length := (List.getElem?_eq_some_iff.mp hv).1
    have hz3 : kA.size ≤ sizeLine := by
      have h1 := hk.length
      rw [Array.length_toList, List.length_take] at h1
      omega
    have I2 : L2.Inv X ((kS, seqObj "list" kA e) :: (a, seqObj "list" #[] e1) :: pins) σ H s' := I'.pins_of fun p hp => by
      rcases List.mem_cons.mp hp with rfl | hp
      · exact ⟨nk', Hk, lk, fk, fun v h => by cases h⟩
      rcases List.mem_cons.mp hp with rfl | hp
      · exact ⟨na', Ha, la, fa, fun v h => by cases h⟩
      · exact I'.pin p (List.mem_append_right _ hp)
    refine wpAny_bind (wpAny_attempt (wpAny_mono (?turn : wpAny (model X.prog X.w) X.A.in1.in1 (call (.ref f) [x]) (fun u s'' => L2.Inv X ((kS, seqObj "list" kA e) :: (a, seqObj "list" #[] e1) :: pins) σ H s'' ∧ ∃ t, u = Value.int (kf v) t) (fun _ _ => False) s') (fun u s'' he => ?_) fun _ _ hF => hF.elim))
    case turn =>
      refine wpAny_call (codeAny_mono (F.run X.A.in1.in1 X.stack s' H ⟨[x], []⟩ [x] [v] _ E hr.in1.in1 I2.env0.in1.in1 (hb s' [x] I2.kIn rfl) (.cons rv' .nil) (hsp v hm)) fun rr s'' hq => ?_)
      cases rr with
      | error ex => exact (hx _ _ _ hq).elim
      | ok fl =>
        cases fl with
        | ret u =>
          obtain ⟨v2, H', I3, r3, rfl, rfl⟩ := I2.after hq
          exact ⟨I3, r3⟩
        | next => exact False.elim hq
        | brk => exact False.elim hq
        | cont => exact False.elim hq
    obtain ⟨I3, t, rfl⟩ := he
    have nk2 := (I3.pin _ (List.mem_append_right _ (List.mem_cons_self ..))).1
    have na2 := (I3.pin _ (List.mem_append_right _ (List.mem_cons_of_mem _ (List.mem_cons_self ..)))).1
    have I4 : L2.Inv X pins σ H s'' := I3.pins_of fun p hp => I3.pin p (List.mem_append_right _ (List.mem_cons_of_mem _ (List.mem_cons_of_mem _ hp)))
    try dsimp only at nk2 na2 ⊢
    have s1 := Heap.SameBut.update s''.heap kS (Obj.mapSeq (·.push (Value.int (kf v) t)))
    obtain ⟨c2, hc2⟩ : ∃ c2, (s''.heap.update kS (Obj.mapSeq (·.push (Value.int (kf v) t)))).get? kS = some (seqObj "list" (kA.push (Value.int (kf v) t)) c2) := ⟨_, get?_update_seq nk2 (·.push (Value.int (kf v) t))⟩
    have ek : xs.take (j + 1) = xs.take j ++ [v] := by rw [List.take_add_one, hv]; simp
    have ea : (kA.push (Value.int (kf v) t)).toList = kA.toList ++ [Value.int (kf v) t] := by simp
    refine wpAny_bind (listUpdate_at nk2 rfl ?_ hz3 (Nat.le_trans (Nat.le_of_eq (Array.size_push ..)) (Nat.succ_le_succ hz3)))
    have I5 : L2.Inv X pins σ H { s'' with heap := s''.heap.update kS (Obj.mapSeq (·.push (Value.int (kf v) t))), toks := s''.toks } :=
      I4.turned (it := kS) (fun b o hb e => (s1.2 b hb).trans e) Hk lk (.inr sk) ck pk
    refine wpAny_pure ⟨rfl, kA.push (Value.int (kf v) t), c2, I5, hc2, (s1.2 a hka.symm).trans na2, ?_⟩
    rw [ea, ek]
    exact PySem.W.each_snoc ⟨t, rfl⟩ hk
  case done =>
    rintro s' ⟨kA, e, I', nk', na', hk⟩
    have hk' : EachIs (fun v d => ∃ as, Reads s'.heap v d as) kA.toList (xs.map fun x => PyData.int (kf x)) := by
      have e3 : xs.take (0 + its.length) = xs := List.take_of_length_le (by omega)
      rw [e3] at hk
      exact each_ints hk
    have hsz : kA.size = its.length := by
      have h1 := hk'.length
      rw [Array.length_toList, List.length_map] at h1
      omega
    have hal : PySem.W.AllAlike (xs.map fun x => PyData.int (kf x)) := fun d hd d' hd' => by
      obtain ⟨x, _, rfl⟩ := List.mem_map.mp hd
      obtain ⟨y, _, rfl⟩ := List.mem_map.mp hd'
      rfl
    have hsk : PySem.W.Sortable (xs.map fun x => PyData.int (kf x)) := .inr fun d hd => by
      obtain ⟨x, _, rfl⟩ := List.mem_map.mp hd
      exact ⟨by simp, by simp⟩
    have hub : ∀ d, d ∈ xs.map (fun x => PyData.int (kf x)) → X.A.in1.in1.units + d.depth < cLine := fun d hd => by
      obtain ⟨x, _, rfl⟩ := List.mem_map.mp hd
      show X.A.units + 1 + 1 + (PyData.int (kf x)).depth < cLine
      have : (PyData.int (kf x)).depth = 0 := by simp [PyData.depth]
      omega
    obtain ⟨G, g1, g2⟩ := restrict s'.heap fun b => decide (b ≠ kS)
    have gk : G.get? kS = none := g2 kS (by simp)
    have kp : KeepsBut a G s'.heap := fun b o _ e => by
      by_cases hb : b = kS
      · rw [hb, gk] at e; cases e
      · rw [← g1 b (by simpa using hb)]; exact e
    try dsimp only
    refine wpAny_bind (listItems_at nk' rfl ?_)
    refine PySem.W.keyH_end (κ := PySem.W.dataKind s'.heap (xs.map fun x => PyData.int (kf x))) (h₁ := G) kp gk nk' na' hka (PySem.W.SortsAt.data (s := s') hk' hal hsk hub) hsz hz' fun h3 tk3 c k3 n3 => ?_
    have ko : PySem.W.KeyedOut false (xs.map fun x => PyData.int (kf x)) its (PySem.W.sortVals (PySem.W.dataKind s'.heap (xs.map fun x => PyData.int (kf x))) false kA.toList its) := ⟨s'.heap, kA.toList, hal, rfl, hk'⟩
    have eo := PySem.W.keyedOut_each (fun x => PyData.int (kf x)) ko (vals_each rv)
    rw [PySem.W.dataLe_int] at eo
    have ev := each_vals eo
    generalize PySem.W.sortVals (PySem.W.dataKind s'.heap (xs.map fun x => PyData.int (kf x))) false kA.toList its = out at n3 ev
    have hl3 : (byKey kf xs).length ≤ sizeLine := by rw [byKey_len]; exact hz
    have keepG : ∀ b o, b ≠ kS → b ≠ a → s'.heap.get? b = some o → h3.get? b = some o := fun b o h1 h2 e => k3 b o h2 ((g1 b (by simpa using h1)).trans e)
    have nch : ∀ b, b ∉ ([kS, a] : List Addr) → b ≠ kS ∧ b ≠ a := fun b h => ⟨fun e => h (by simp [e]), fun e => h (by simp [e])⟩
    have hne : ∀ b o, H b = some o → b ≠ kS ∧ b ≠ a := fun b o e => ⟨fun z => (by rw [z, Hk] at e; cases e), fun z => (by rw [z, Ha] at e; cases e)⟩
    refine ⟨rfl, .ref a, upd H a (.lst (byKey kf xs)), ?_, rfl, q a Ha⟩
    refine I'.step (g' := s'.gens) (d' := s'.drawn) (t' := tk3) (ch := [kS, a]) (fun b hb => ?_) (fun b o _ _ hc e _ => keepG b o (nch b hc).1 (nch b hc).2 e) (fun b o _ _ hc e _ => ⟨o.slots, keepG b o (nch b hc).1 (nch b hc).2 e⟩)
      (fun b o hc _ n => by rw [upd_ne (nch b hc).2]; exact n) (fun b o hc e => ⟨o, keepG b o (nch b hc).1 (nch b hc).2 e⟩)
      (fun b ys e => by rw [upd_ne (hne b _ e).2]; exact e) (fun b o u e => by rw [upd_ne (hne b _ e).2]; exact e) (fun b ps e => ⟨#[], by rw [upd_ne (hne b _ e).2, e]; simp⟩) (fun m hm => ?_) (fun b u e => ?_) I'.bare
    · simp only [List.mem_cons, List.not_mem_nil, or_false] at hb
      rcases hb with rfl | rfl
      · exact ⟨.inr sk, lk, ck, pk⟩
      · exact ⟨.inr sa, la, ca, pa⟩
    · obtain ⟨o, es, ep, ho, r⟩ := hm
      exact ⟨o, es, ep, keepG _ o lk.symm la.symm ho, r⟩
    · by_cases hb : b = a
      · subst hb
        rw [upd_same] at e
        cases e
        exact ⟨hl3, out, c, ev, n3⟩
      · rw [upd_ne hb] at e
        have nb := hne b u e
        refine (I'.hok b u e).stay (fun c' v hc q => keepG c' v ?_ ?_ q) (fun c' q => ?_) fun c' xs q => ?_
        · rcases hc with z | z
          · rw [z]; exact nb.1
          · exact (hne c' _ z).1
        · rcases hc with z | z
          · rw [z]; exact nb.2
          · exact (hne c' _ z).2
        · rw [upd_ne (hne c' _ q).2]; exact q
        · rw [upd_ne (hne c' _ q).2]; exact q
end
end HX
namespace HX
open PySem PySem.Spec PyProof.Rows L2
section
variable {X : Cx}
def xSortKey (K : PySem.W.Frag) (f : Addr) (sp : Sp) : List V → List V → Hp → VK → Prop := fun xs zs H Q => ∃ l ys kf, xs = [.ref l] ∧ zs = [.ref f] ∧ SqL K H l ys ∧ (∀ y ∈ ys, sp [y] H (fun v H' => v = .int (kf y) ∧ H' = H) E0) ∧ ∀ a, H a = none → Q (.ref a) (upd H a (.lst (byKey kf ys)))
theorem cr_sortKeyF {k : Nat} {f : Addr} {fd : FuncData} {p : Str} {sp : Sp} (F : FnOk X.prog X.w X.K X.mg X.base CX0 k f fd [p] sp) (hr : Room (k + 2) X.A) (hb : L2.Binds X.K fd [p] []) (hu : X.A.units + 64 < cLine) : CallRK X (.builtin "sorted") [Str.ofString "key"] (xSortKey X.K f sp) := by
  intro pins s σ H vs zs us ws Q I r rz h
  obtain ⟨l, ys, kf, rfl, rfl, hs, hsp, q⟩ := h
  exact sortKey_run I r rz hs hu F hr hb (fun _ _ _ h => h) hsp q
theorem i_ckw {r : List V → List V → Hp → VK → Prop} {t tk : TA} {σ : L2.St} {H : Hp} {Q : VK} (q : t σ H fun vs H1 => tk σ H1 fun zs H2 => r vs zs H2 Q) : tCKw r t tk σ H Q := q
end
end HX

set_option Elab.async false
set_option linter.all false
set_option maxRecDepth 100000
set_option maxHeartbeats 4000000
/-! HXla: lambdas of one parameter that are handed as key= to sorted and min. -/
namespace LamK
open PySem PySem.Spec PyProof.Rows L2 AnyL
/-- the table at P: what it tells are the code objects at C -/
def TabC (P : Addr) (C : List Addr) : HO := .ext fun h => ∃ ps : Array Value, h.get? P = some { cls := .none, data := .fields ps } ∧ TriplesOk ps.toList ∧ ∀ (pos : Pos) (cv : Value), codeAmong pos ps.toList = some cv → ∃ c ∈ C, cv = .ref c
/-- a table that tells code objects of the name q alone -/
def TabL (H : Hp) (P : Addr) (q : Str) : Prop := ∃ C : List Addr, H P = some (TabC P C) ∧ ∀ c ∈ C, c ≠ P ∧ H c = some (LamX.CodeO c q)
/-- all but one address -/
def off (P : Addr) (H : Hp) : Hp := fun b => if b = P then none else H b
theorem off_ne {P b : Addr} {H : Hp} (h : b ≠ P) : off P H b = H b := by unfold off; rw [if_neg h]
theorem off_le {P b : Addr} {H : Hp} {o : HO} (h : off P H b = some o) : H b = some o ∧ b ≠ P := by
  unfold off at h
  split at h
  · cases h
  · rename_i n
    exact ⟨h, n⟩
/-- a lambda's function object -/
def FunO (f : Addr) (q : Str) (params : Arguments) (body : Expr) (scope : Scope) (clos : List (Str × Addr)) (c : Addr) : HO := .ext fun h => ∃ pm ctv : Value, h.get? f = some (PySem.W.kla_obj "<lambda>" q params body scope clos pm c ctv)
section
variable {X : Cx} {pins : List (Addr × Obj)} {σ : L2.St} {H : Hp} {s : Shared} {P : Addr}
theorem tab_get {pr : Program} {w : World} {h : Heap} {C : List Addr} (hok : HOk pr w H h) (hP : H P = some (TabC P C)) : ∃ ps : Array Value, h.get? P = some { cls := .none, data := .fields ps } ∧ TriplesOk ps.toList ∧ ∀ (pos : Pos) (cv : Value), codeAmong pos ps.toList = some cv → ∃ c ∈ C, cv = .ref c :=
  (show ObjOk pr w H h P (.ext _) from hok P _ hP).1
theorem code_get {pr : Program} {w : World} {h : Heap} {c : Addr} {q : Str} (hok : HOk pr w H h) (hc : H c = some (LamX.CodeO c q)) : ∃ (oc : Obj) (vs : Array Value) (t : Tok), h.get? c = some oc ∧ oc.data = .fields vs ∧ vs[1]? = some (.str q t) :=
  (show ObjOk pr w H h c (.ext _) from hok c _ hc).1
theorem fun_get {pr : Program} {w : World} {h : Heap} {f c : Addr} {q : Str} {params : Arguments} {body : Expr} {scope : Scope} {clos : List (Str × Addr)} (hok : HOk pr w H h) (hf : H f = some (FunO f q params body scope clos c)) :
    ∃ pm ctv : Value, h.get? f = some (PySem.W.kla_obj "<lambda>" q params body scope clos pm c ctv) :=
  (show ObjOk pr w H h f (.ext _) from hok f _ hf).1
theorem code_rec {pr : Program} {w : World} {h : Heap} {c : Addr} {q : Str} (hok : HOk pr w H h) (hc : H c = some (LamX.CodeO c q)) : h.CodeRec (.ref c) q := by
  obtain ⟨oc, vs, t, a, b, d⟩ := code_get hok hc
  exact ⟨c, oc, vs, t, rfl, a, b, d⟩
theorem ext_ne {φ : Heap → Prop} {o : HO} (h : ∀ ψ, o ≠ .ext ψ) : HO.ext φ ≠ o := fun e => h φ e.symm
/-- the table may have grown by one code object at c, which is told of from now on -/
theorem inv_grown {C : List Addr} {c : Addr} {q : Str} {h' : Heap} {t' : Nat} (I : Inv X pins σ H s) (hP : H P = some (TabC P C)) (k : ∀ b o, b ≠ P → s.heap.get? b = some o → h'.get? b = some o) (hc : s.heap.objs.size ≤ c)
    (hm : ∃ ps : Array Value, h'.get? P = some { cls := .none, data := .fields ps } ∧ TriplesOk ps.toList ∧ ∀ (pos : Pos) (cv : Value), codeAmong pos ps.toList = some cv → ∃ d ∈ c :: C, cv = .ref d)
    (ho : ∃ (oc : Obj) (vs : Array Value) (t : Tok), h'.get? c = some oc ∧ oc.data = .fields vs ∧ vs[1]? = some (.str q t)) :
    Inv X pins σ (upd (upd H P (TabC P (c :: C))) c (LamX.CodeO c q)) { s with heap := h', toks := t' } := by
  have nC : H c = none := I.hok.fresh hc
  have nPc : P ≠ c := ne_of_none hP nC
  have nN : ∀ b, H b = none → b ≠ P := fun b e z => by
    rw [z, hP] at e
    cases e
  have keep : ∀ b o, (∀ φ, o ≠ .ext φ) → H b = some o → upd (upd H P (TabC P (c :: C))) c (LamX.CodeO c q) b = some o := fun b o n e => by
    rw [upd_ne (ne_of_none e nC), upd_ne (fun z => by
      rw [z, hP] at e
      exact n _ (Option.some.inj e).symm)]
    exact e
  refine I.step (g' := s.gens) (d' := s.drawn) (ch := []) (fun b hb => absurd hb (by simp)) (fun b o _ _ _ e n => k b o (nN b n) e) (fun b o _ _ _ e n => ⟨o.slots, k b o (nN b n) e⟩)
    (fun b o _ e n => by
      have lt := Heap.lt_size e
      rw [upd_ne (fun z => by rw [z] at lt; exact absurd lt (Nat.not_lt.mpr hc)), upd_ne (nN b n)]
      exact n) (fun b o _ e => ?_) (fun b xs e => keep b _ (fun φ z => by cases z) e) (fun b o u e => keep b _ (fun φ z => by cases z) e) (fun b qs e => ⟨#[], by rw [keep b _ (fun φ z => by cases z) e]; simp⟩) (fun m hn => ?_) (fun b u e => ?_) I.bare
  · by_cases hb : b = P
    · obtain ⟨ps, e1, _⟩ := hm
      rw [hb]
      exact ⟨_, e1⟩
    · exact ⟨o, k b o hb e⟩
  · obtain ⟨ob, es, ep, ho, r⟩ := hn
    exact ⟨ob, es, ep, k _ ob (nN _ I.free) ho, r⟩
  · by_cases hb : b = c
    · rw [hb, upd_same] at e
      cases e
      rw [hb]
      obtain ⟨oc, vs, t, a1, a2, a3⟩ := ho
      exact ⟨⟨oc, vs, t, a1, a2, a3⟩, ⟨oc, a1⟩, fun h1 h2 ⟨o1, v1, t1, b1, b2, b3⟩ kk => ⟨o1, v1, t1, kk o1 b1, b2, b3⟩⟩
    rw [upd_ne hb] at e
    by_cases hp : b = P
    · rw [hp, upd_same] at e
      cases e
      rw [hp]
      obtain ⟨ps, e1, e2, e3⟩ := hm
      exact ⟨⟨ps, e1, e2, e3⟩, ⟨_, e1⟩, fun h1 h2 ⟨p1, b1, b2, b3⟩ kk => ⟨p1, kk _ b1, b2, b3⟩⟩
    rw [upd_ne hp] at e
    refine (I.hok b u e).stay (fun d v hd g => k d v ?_ g) (fun d g => keep d _ (fun φ z => by cases z) g) fun d xs g => keep d _ (fun φ z => by cases z) g
    rcases hd with z | z
    · rw [z]; exact hp
    · intro y
      rw [y, hP] at z
      cases z
/-- a lambda as a value -/
def tLamV (P : Addr) (q : Str) (params : Arguments) (body : Expr) (scope : Scope) (clos : List (Str × Addr)) : TE := fun _ H Q => TabL H P q ∧
  ∀ f c H2, (∀ b o, off P H b = some o → H2 b = some o) → TabL H2 P q → H2 f = some (FunO f q params body scope clos c) → H2 c = some (LamX.CodeO c q) → Q (.ref f) H2
theorem pe_lam {c P : Addr} {params : Arguments} {body : Expr} {scope : Scope} {pos : Pos} (TB : GxR.TabB X.base X.mg c P) (hcode : X.env.code = .ref c) (hdef : defaultsOf params X.env = ([], []))
    (hfree : ∀ y ∈ scope.names, y.2 = .free → ∃ c, X.env.cells.lookup y.1 = some c) :
    PE X (.Lambda params body scope pos) (tLamV P (X.env.qual ++ "<lambda>") params body scope (cloFrom X.env.cells scope.names [])) := by
  refine ⟨fun pins s σ H Q I h => ?_⟩
  obtain ⟨⟨C, hP, hC⟩, q⟩ := h
  obtain ⟨ps, hPs, ht, hin⟩ := tab_get I.hok hP
  refine PySem.W.kla_eval hdef ?_
  have bP : s.heap.BuiltinsAt X.mg P := TB.bm.keeps I.bk
  cases hc : codeAmong pos ps.toList with
  | none =>
    refine PySem.W.kla_makeFunction (closure_ok hfree) I.ok.glob (I.mod.glob.keeps I.bk) hcode (TB.code.keeps I.bk) hPs ht hc TB.gP bP fun cn ctv h' tk hx hge hlt hrec htb => ?_
    obtain ⟨c2, oc, vs, t, e2, hoc, hd, hv⟩ := hrec
    cases e2
    have hsz : s.heap.objs.size ≤ h'.objs.size := Nat.le_trans hge (Nat.le_of_lt hlt)
    have nC : H cn = none := I.hok.fresh hge
    have nPc : P ≠ cn := ne_of_none hP nC
    have eL : (ps ++ #[rawInt pos.line, rawInt pos.col, .ref cn]).toList = ps.toList ++ [rawInt pos.line, rawInt pos.col, .ref cn] := by simp
    have I1 := inv_grown (c := cn) (q := X.env.qual ++ "<lambda>") (h' := h') (t' := tk) I hP (fun b o hb e => hx b o hb e) hge
      ⟨_, htb, by rw [eL]; exact PySem.TriplesOk_snoc _ _ _ _ ht, fun p' cv hcv => by
        rw [eL] at hcv
        rcases LamX.among_app _ ht hcv with z | z
        · obtain ⟨d, e1, e2⟩ := hin p' cv z
          exact ⟨d, List.mem_cons_of_mem _ e1, e2⟩
        · exact ⟨cn, List.mem_cons_self .., z⟩⟩ ⟨oc, vs, t, hoc, hd, hv⟩
    have nf : upd (upd H P (TabC P (cn :: C))) cn (LamX.CodeO cn (X.env.qual ++ "<lambda>")) h'.objs.size = none := I1.hok.fresh (Nat.le_refl _)
    have I2 := I1.laid (a := h'.objs.size) (t' := tk) (o := FunO h'.objs.size (X.env.qual ++ "<lambda>") params body scope (cloFrom X.env.cells scope.names []) cn) (h' := h'.push (PySem.W.kla_obj "<lambda>" (X.env.qual ++ "<lambda>") params body scope (cloFrom X.env.cells scope.names []) ((X.mg "__name__").getD .none) cn ctv))
      (fun b o e => Heap.get?_push_of_some _ e) (Nat.le_refl _) ⟨⟨_, ctv, Heap.get?_push_size _ rfl⟩, ⟨_, Heap.get?_push_size _ rfl⟩, fun h1 h2 ⟨p1, c1, b1⟩ kk => ⟨p1, c1, kk _ b1⟩⟩
    have at2 : ∀ {b o}, upd (upd H P (TabC P (cn :: C))) cn (LamX.CodeO cn (X.env.qual ++ "<lambda>")) b = some o → upd (upd (upd H P (TabC P (cn :: C))) cn (LamX.CodeO cn (X.env.qual ++ "<lambda>"))) h'.objs.size (FunO h'.objs.size (X.env.qual ++ "<lambda>") params body scope (cloFrom X.env.cells scope.names []) cn) b = some o := fun {b o} e => (upd_ne (ne_of_none e nf)).trans e
    have old : ∀ b o, b ≠ P → H b = some o → upd (upd H P (TabC P (cn :: C))) cn (LamX.CodeO cn (X.env.qual ++ "<lambda>")) b = some o := fun b o n e => by rw [upd_ne (ne_of_none e nC), upd_ne n]; exact e
    refine ⟨.ref h'.objs.size, _, I2, rfl, q _ cn _ (fun b o e => at2 (old b o (off_le e).2 (off_le e).1)) ⟨cn :: C, at2 (by rw [upd_ne nPc, upd_same]), fun d hd => ?_⟩ upd_same (at2 upd_same)⟩
    rcases List.mem_cons.mp hd with rfl | hd
    · exact ⟨nPc.symm, at2 upd_same⟩
    · exact ⟨(hC d hd).1, at2 (old d _ (hC d hd).1 (hC d hd).2)⟩
  | some cv =>
    obtain ⟨cn, hcn, rfl⟩ := hin pos cv hc
    refine PySem.W.kla_makeFunctionHit (closure_ok hfree) I.ok.glob (I.mod.glob.keeps I.bk) hcode (TB.code.keeps I.bk) hPs ht hc bP fun ctv h' tk hx hsz => ?_
    have I1 : Inv X pins σ H { s with heap := h', toks := tk } := I.kept hx
    have nf : H h'.objs.size = none := I1.hok.fresh (Nat.le_refl _)
    have I2 := I1.laid (a := h'.objs.size) (t' := tk) (o := FunO h'.objs.size (X.env.qual ++ "<lambda>") params body scope (cloFrom X.env.cells scope.names []) cn) (h' := h'.push (PySem.W.kla_obj "<lambda>" (X.env.qual ++ "<lambda>") params body scope (cloFrom X.env.cells scope.names []) ((X.mg "__name__").getD .none) cn ctv))
      (fun b o e => Heap.get?_push_of_some _ e) (Nat.le_refl _) ⟨⟨_, ctv, Heap.get?_push_size _ rfl⟩, ⟨_, Heap.get?_push_size _ rfl⟩, fun h1 h2 ⟨p1, c1, b1⟩ kk => ⟨p1, c1, kk _ b1⟩⟩
    have at2 : ∀ {b o}, H b = some o → upd H h'.objs.size (FunO h'.objs.size (X.env.qual ++ "<lambda>") params body scope (cloFrom X.env.cells scope.names []) cn) b = some o := fun {b o} e => (upd_ne (ne_of_none e nf)).trans e
    exact ⟨.ref h'.objs.size, _, I2, rfl, q _ cn _ (fun b o e => at2 (off_le e).1) ⟨C, at2 hP, fun d hd => ⟨(hC d hd).1, at2 (hC d hd).2⟩⟩ upd_same (at2 (hC cn hcn).2)⟩
/-! ### the body, an item handed -/
/-- an expression within the lambda's frame that gives data without lists -/
structure EK (X : Cx) (scope : Scope) (x : Str) (e : Expr) (t : L2.St → V → Hp → (PyData → Prop) → Prop) : Prop where
  run : ∀ (σ : L2.St) (H : Hp) (cenv : Env) (A' : Around) (E' : Value → Shared → Prop) (s : Shared) (m : Str → Option Value) (v : V) (q : PyData → Prop), Sees X σ scope x H cenv s m v → t σ v H q →
    wpAny (model X.prog X.w) A' (eval e cenv) (fun y s₃ => (∃ d, Reads s₃.heap y d [] ∧ q d) ∧ Keeps s s₃) E' s
variable {scope : Scope} {x : Str} {e e1 e2 : Expr} {t t1 t2 : TV} {pos : Pos}
def kInt (t : TV) : L2.St → V → Hp → (PyData → Prop) → Prop := fun σ v H q => t σ v H fun z => ∃ i, z = .int i ∧ q (.int i)
def kPair (t1 t2 : TV) : L2.St → V → Hp → (PyData → Prop) → Prop := fun σ v H q => t1 σ v H fun z => ∃ i, z = .int i ∧ t2 σ v H fun y => ∃ j, y = .int j ∧ q (.tuple [.int i, .int j])
theorem ek_int (he : EE X scope x e t) : EK X scope x e (kInt t) := by
  refine ⟨fun σ H cenv A' E' s m v q h ht => ?_⟩
  refine wpAny_mono (he.run σ H cenv A' E' s m v _ h ht) (fun y s1 hy => ?_) fun _ _ e => e
  obtain ⟨⟨z, rz, i, rfl, hq⟩, kp⟩ := hy
  obtain ⟨tk, rfl⟩ := rz
  exact ⟨⟨_, .int i tk, hq⟩, kp⟩
theorem ek_pair {x1} (h1 : EE X scope x e1 t1) (h2 : EE X scope x e2 t2) (hs : ∀ cenv : Env, backTo pos (starEach [e1, e2] cenv) = (false, eval e1 cenv) :: (false, eval e2 cenv) :: backTo pos (starEach [] cenv)) : EK X scope x (.Tuple [e1, e2] x1 pos) (kPair t1 t2) := by
  refine ⟨fun σ H cenv A' E' s m v q h ht => wpAny_Tuple_spliced ?_⟩
  rw [hs]
  refine Calls.spliced_cons (wpAny_mono (h1.run σ H cenv A' E' s m v _ h ht) (fun y s1 hy => ?_) fun _ _ e => e)
  obtain ⟨⟨z, rz, i, rfl, hq⟩, k1⟩ := hy
  obtain ⟨tk1, rfl⟩ := rz
  refine Calls.spliced_cons (wpAny_mono (h2.run σ H cenv A' E' s1 m v _ (h.keeps k1) hq) (fun y s2 hy => ?_) fun _ _ e => e)
  obtain ⟨⟨z, rz, j, rfl, hq⟩, k2⟩ := hy
  obtain ⟨tk2, rfl⟩ := rz
  refine Calls.spliced_nil ⟨by rw [sizeLine_eq]; simp, ⟨.tuple [.int i, .int j], ?_, hq⟩, keeps_trans (keeps_trans k1 k2) ⟨_, _, rfl, fun b o e => Heap.get?_push_of_some _ e⟩⟩
  exact .tuple (as := []) (Heap.get?_push_size _ rfl) rfl rfl (.cons (.int i tk1) (.cons (.int j tk2) .nil))
/-! ### the call -/
/-- the scope of a lambda with the one parameter x -/
structure OneP (sc scope : Scope) (x : Str) : Prop where
  kind : scope.kind = .function
  co : scope.isCoroutine = false
  gen : scope.isGenerator = false
  cell : ∀ y ∈ scope.names, y.2 ≠ .cell
  loc : scope.names.lookup x = some .local
  free : ∀ y ∈ scope.names, y.2 = .free → sc.names.lookup y.1 = some .cell ∨ sc.names.lookup y.1 = some .free
def onePB (sc scope : Scope) (x : Str) : Bool :=
  decide (scope.kind = .function) && (!scope.isCoroutine && (!scope.isGenerator && (decide (scope.names.lookup x = some .local) && scope.names.all fun y => !decide (y.2 = .cell) && (!decide (y.2 = .free) || (decide (sc.names.lookup y.1 = some .cell) || decide (sc.names.lookup y.1 = some .free))))))
theorem oneP_by {sc scope : Scope} {x : Str} (h : onePB sc scope x = true) : OneP sc scope x := by
  unfold onePB at h
  simp only [Bool.and_eq_true, Bool.or_eq_true, Bool.not_eq_true', decide_eq_true_eq, decide_eq_false_iff_not, List.all_eq_true] at h
  obtain ⟨h1, h2, h3, h4, h5⟩ := h
  refine ⟨h1, h2, h3, fun y hy => (h5 y hy).1, h4, fun y hy e => ?_⟩
  rcases (h5 y hy).2 with z | z
  · exact absurd e z
  · exact z
theorem OneP.has {X : Cx} {scope : Scope} {x : Str} (L : OneP X.env.scope scope x) (ok : X.Ok) : ∀ y ∈ scope.names, y.2 = .free → ∃ c, X.env.cells.lookup y.1 = some c := fun y hy e => by
  rcases L.free y hy e with k | k
  · exact ok.has _ (.inl k)
  · exact ok.has _ (.inr k)
section
variable {pr : Program} {w : World} {A : Around} {s : Shared}
theorem lam_call {f c : Addr} {q x : Str} {params : Arguments} {body : Expr} {scope sc : Scope} {clos : List (Str × Addr)} {pm ctv v : Value} {k : PyData} (L : OneP sc scope x) (room : A.depth < recursionLimit)
    (ho : s.heap.get? f = some (PySem.W.kla_obj "<lambda>" q params body scope clos pm c ctv)) (hcd : s.heap.CodeRec (.ref c) q) (hb : bindArgs (PySem.W.kla_fn "<lambda>" q params body scope clos pm (.ref c) ctv) ⟨[v], []⟩ = pure [(x, v)]) (nl : s.heap.NoLimit)
    (run : ∀ (Lo : Addr) (h1 : Heap) (tk : Nat) (A' : Around) (E' : Value → Shared → Prop), h1.Ns Lo (fun y => [(x, v)].reverse.lookup y) → (∀ b o, s.heap.get? b = some o → h1.get? b = some o) →
      wpAny (model pr w) A' (eval body (PySem.W.envX q scope Lo f (.ref c) clos)) (fun y s₃ => (∃ d, Reads s₃.heap y d [] ∧ d = k) ∧ Keeps { s with heap := h1, toks := tk } s₃) E' { s with heap := h1, toks := tk }) :
    wpAny (model pr w) A (call (.ref f) [v]) (PySem.W.KeyPure k s) (fun _ _ => False) s := by
  refine wpAny_call (PySem.W.kla_callFunE room ho rfl L.co L.gen rfl hcd ?_)
  rw [hb]
  refine wpAny_pure (wpAny_newFunctionEnv L.cell (fun y hy => by rw [List.mem_singleton.mp hy]; exact L.loc) (fun h1 hns but => ⟨nl.fresh _ but, ?_⟩) L.kind)
  have old : ∀ b o, s.heap.get? b = some o → h1.get? b = some o := fun b o e => but.extBut b o (Nat.ne_of_lt (Heap.lt_size e)) (Heap.get?_push_of_some _ e)
  refine PySem.W.kla_codeExpr (wpAny_mono (run s.heap.objs.size h1 _ _ _ hns old) (fun y s3 hy => ?_) fun _ _ z => z)
  obtain ⟨⟨d, rd, rfl⟩, h3, t3, rfl, kp⟩ := hy
  exact ⟨h3, t3, rfl, fun b o e => kp b o (old b o e), rd⟩
end
/-- the function at f, handed an item -/
theorem lam_turn {params : Arguments} {body : Expr} {f c : Addr} {tk : L2.St → V → Hp → (PyData → Prop) → Prop} {kd : PyData} {y : V} {v : Value} {A : Around} {h : Heap} {tk0 : Nat} (I : Inv X pins σ H s) (L : OneP X.env.scope scope x) (ek : EK X scope x body tk) (room : A.depth < recursionLimit)
    (hv : ∀ (i : Nat) (y : Str), X.N[i]? = some y → X.env.kindOf y = some .cell → Vis X.env.scope y) (hf : H f = some (FunO f (X.env.qual ++ "<lambda>") params body scope (cloFrom X.env.cells scope.names []) c)) (hc : H c = some (LamX.CodeO c (X.env.qual ++ "<lambda>")))
    (hb : ∀ pm ctv : Value, bindArgs (PySem.W.kla_fn "<lambda>" (X.env.qual ++ "<lambda>") params body scope (cloFrom X.env.cells scope.names []) pm (.ref c) ctv) ⟨[v], []⟩ = pure [(x, v)])
    (hk : tk σ y H fun d => d = kd) (ry : RelV y v) (kp : ∀ b o, s.heap.get? b = some o → h.get? b = some o) :
    wpAny (model X.prog X.w) A (call (.ref f) [v]) (PySem.W.KeyPure kd { s with heap := h, toks := tk0 }) (fun _ _ => False) { s with heap := h, toks := tk0 } := by
  have cap1 : ∀ (i : Nat) (y : Str) (z : V), X.N[i]? = some y → σ[i]? = some (some z) → X.env.kindOf y = some .cell → ∃ c u, X.env.cells.lookup y = some c ∧ s.heap.IsCell c (some u) ∧ RelV z u := by
    intro i y z e1 e2 e3
    obtain ⟨m, _, hlk⟩ := I.loc
    obtain ⟨u, ru, lk⟩ := hlk i y z e1 e2 (hv i y e1 e3)
    rcases lk with ⟨q, _⟩ | ⟨_, c, hc, hcell⟩
    · rw [e3] at q; cases q
    · exact ⟨c, u, hc, hcell, ru⟩
  obtain ⟨pm, ctv, ho⟩ := fun_get (I.hok.kept kp) hf
  refine lam_call (s := { s with heap := h, toks := tk0 }) L room ho (code_rec (I.hok.kept kp) hc) (hb pm ctv) (I.nolimit.keeps kp) fun Lo h1 tk1 A' E' hns k1 => ?_
  refine ek.run σ H _ A' E' { s with heap := h1, toks := tk1 } _ y _ ⟨rfl, rfl, I.hok.kept fun b o e => k1 b o (kp b o e), I.kIn.keeps fun b o e => k1 b o (kp b o e), fun i y z e1 e2 e3 => ?_, hns, v, by simp, ry⟩ hk
  obtain ⟨c, u, a1, ⟨ob, a2, a3⟩, a4⟩ := cap1 i y z e1 e2 e3
  exact ⟨c, u, a1, ⟨ob, k1 c ob (kp c ob a2), a3⟩, a4⟩
/-- sorted(xs, key=lambda): what the keys are as data -/
theorem sortLam_run {Q : VK} {k : Nat} {params : Arguments} {body : Expr} {l f c : Addr} {tk : L2.St → V → Hp → (PyData → Prop) → Prop} {ys : List V} {kf : V → PyData} (hr : Room k X.A) (I : Inv X pins σ H s) (L : OneP X.env.scope scope x) (ek : EK X scope x body tk)
    (hv : ∀ (i : Nat) (y : Str), X.N[i]? = some y → X.env.kindOf y = some .cell → Vis X.env.scope y) (hf : H f = some (FunO f (X.env.qual ++ "<lambda>") params body scope (cloFrom X.env.cells scope.names []) c)) (hc : H c = some (LamX.CodeO c (X.env.qual ++ "<lambda>")))
    (hb : ∀ (v pm ctv : Value), bindArgs (PySem.W.kla_fn "<lambda>" (X.env.qual ++ "<lambda>") params body scope (cloFrom X.env.cells scope.names []) pm (.ref c) ctv) ⟨[v], []⟩ = pure [(x, v)])
    (hs : SqL X.K H l ys) (hk : ∀ y ∈ ys, tk σ y H fun d => d = kf y) (al : PySem.W.AllAlike (ys.map kf)) (so : PySem.W.Sortable (ys.map kf)) (dp : ∀ y ∈ ys, (kf y).depth ≤ 32)
    (q : ∀ a, H a = none → Q (.ref a) (upd H a (.lst (ys.mergeSort (PySem.W.dataLe false kf))))) :
    wpAny (model X.prog X.w) X.A (call (.builtin "sorted") [.ref l] [(Str.ofString "key", .ref f)]) (EP X pins σ Q) X.xe s := by
  obtain ⟨its, rv, hl, hz⟩ := I.list hs
  have ev : PySem.W.EachIs (fun v y => RelV y v) its ys := HX.vals_each rv
  refine PySem.W.sorted_key_data (f := .ref f) (b := false) kf hl.isList ev al so hz (fun y hy => ?_) (PyProof.Rows.ksk_s1 _ _) (fun _ => PyProof.Rows.ksk_l1 _ _) (fun _ => PyProof.Rows.ksk_t1 _ _) (fun v y ry hy h tk0 kp => ?_) (fun out cn h' tk0 kp fr hD ln eo => ?_)
  · have h1 := dp y hy
    have h2 := hr.un
    omega
  · exact lam_turn I L ek (by have := hr.dp; show X.A.depth < recursionLimit; omega) hv hf hc (hb v) (hk y hy) ry kp
  · have nf : H (s.heap.objs.size + 1) = none := I.hok.fresh (Nat.le_succ _)
    have pl : (ys.mergeSort (PySem.W.dataLe false kf)).length ≤ sizeLine := by rw [(List.mergeSort_perm _ _).length_eq]; exact hz
    exact ⟨.ref (s.heap.objs.size + 1), _, I.laid (a := s.heap.objs.size + 1) (o := .lst (ys.mergeSort (PySem.W.dataLe false kf))) (t' := tk0) kp (Nat.le_succ _) ⟨pl, out, cn, HX.each_vals eo, hD⟩, rfl, q _ nf⟩
/-- which item min takes, by whole keys -/
def bestAt (kf : V → Int) (ys : List V) : Nat := argBest (fun i j => decide (kf (ys.getD i .non) < kf (ys.getD j .non))) (ys.length - 1)
theorem best_lt {kf : V → Int} {ys : List V} (h : ys ≠ []) : bestAt kf ys < ys.length := by
  have hp : 0 < ys.length := List.length_pos_iff.mpr h
  have := (PySem.argBest_lt (fun i => kf (ys.getD i .non)) (ys.length - 1)).1
  unfold bestAt
  omega
theorem best_le {kf : V → Int} {ys : List V} (h : ys ≠ []) {y : V} (hy : y ∈ ys) : kf (ys.getD (bestAt kf ys) .non) ≤ kf y := by
  obtain ⟨j, hj, e⟩ := List.getElem_of_mem hy
  have := (PySem.argBest_lt (fun i => kf (ys.getD i .non)) (ys.length - 1)).2 j (by omega)
  rw [List.getD_eq_getElem?_getD (l := ys) (i := j), List.getElem?_eq_getElem hj, Option.getD_some, e] at this
  exact this
theorem minLam_run {Q : VK} {k : Nat} {params : Arguments} {body : Expr} {l f c : Addr} {tk : L2.St → V → Hp → (PyData → Prop) → Prop} {ys : List V} {kf : V → Int} (hr : Room k X.A) (I : Inv X pins σ H s) (L : OneP X.env.scope scope x) (ek : EK X scope x body tk)
    (hv : ∀ (i : Nat) (y : Str), X.N[i]? = some y → X.env.kindOf y = some .cell → Vis X.env.scope y) (hf : H f = some (FunO f (X.env.qual ++ "<lambda>") params body scope (cloFrom X.env.cells scope.names []) c)) (hc : H c = some (LamX.CodeO c (X.env.qual ++ "<lambda>")))
    (hb : ∀ (v pm ctv : Value), bindArgs (PySem.W.kla_fn "<lambda>" (X.env.qual ++ "<lambda>") params body scope (cloFrom X.env.cells scope.names []) pm (.ref c) ctv) ⟨[v], []⟩ = pure [(x, v)])
    (hs : SqL X.K H l ys) (hk : ∀ y ∈ ys, tk σ y H fun d => d = .int (kf y)) (ne : ys ≠ [])
    (q : Q (ys.getD (bestAt kf ys) .non) H) :
    wpAny (model X.prog X.w) X.A (call (.builtin "min") [.ref l] [(Str.ofString "key", .ref f)]) (EP X pins σ Q) X.xe s := by
  obtain ⟨its, rv, hl, hz⟩ := I.list hs
  have hIL := hl.isList
  have hlen : its.length = ys.length := rv.length.symm
  have hp : 0 < ys.length := List.length_pos_iff.mpr ne
  have lt : l < s.heap.objs.size := by
    obtain ⟨_, e, _⟩ := _root_.id hIL
    exact Heap.lt_size e
  refine PySem.call_min_walkK (wpAny_pyIter_list hIL ?_)
  generalize ho : ({ cls := .type "list_iterator", data := .fields #[.ref l, .int 0 0] } : Obj) = o
  have lS : (s.heap.push o).objs.size = s.heap.objs.size + 1 := Heap.size_push ..
  have hitr : (s.heap.push o).IsListIter s.heap.objs.size l 0 := by
    subst ho
    exact ⟨_, Heap.get?_push_size _ rfl, rfl, rfl⟩
  have W := (Walks.list (prog := X.prog) (w := X.w) (A := X.A.in1) hr.hd s.heap.objs.size l (Nat.ne_of_lt lt) its.toArray).toS
  have key : ∀ (i : Nat) (v : Value), its.toArray[i]? = some v → ∃ y, ys[i]? = some y ∧ RelV y v := fun i v hv => HX.vals_at rv (by simpa using hv)
  have nin : ∀ b o', s.heap.get? b = some o' → b ∉ (s.heap.push o).objs.size :: [s.heap.objs.size] := fun b o' e m => by
    have h1 := Heap.lt_size e
    rcases List.mem_cons.mp m with z | z
    · rw [z, lS] at h1
      exact absurd h1 (Nat.not_lt.mpr (Nat.le_succ _))
    · rw [List.mem_singleton.mp z] at h1; exact Nat.lt_irrefl _ h1
  refine ⟨s.heap.objs.size, _, _, _, its.toArray.size, _, _, (fun s' => ∃ h' tk', s' = { s with heap := h', toks := tk' } ∧ ∀ b o', s.heap.get? b = some o' → h'.get? b = some o'),
    (fun i u _ => ∃ t, u = .int (kf (ys.getD i .non)) t), (fun i j => decide (kf (ys.getD i .non) < kf (ys.getD j .non))), rfl, W, ⟨hitr, hIL.push _⟩, fun b hb => ?_, by rw [List.size_toArray, hlen]; exact hp, ?_, ⟨_, s.toks, rfl, fun b o' e => Heap.get?_push_of_some _ e⟩, fun v s' hP hJ => ?_⟩
  · simp only [List.mem_cons, List.not_mem_nil, or_false] at hb
    show b < (s.heap.push o).objs.size
    rw [lS]
    rcases hb with rfl | rfl
    · exact Nat.lt_succ_self _
    · exact Nat.lt_succ_of_lt lt
  · refine ⟨fun s1 s2 hJ mv => ?_, fun i u s1 s2 h _ => h, fun i v s1 o1 Q1 E1 hi hP hJ hst hS kk => ?_, fun i j ki kj s1 Q1 E1 hJ h1 h2 hQ => ?_⟩
    · obtain ⟨h1, t1, rfl, k1⟩ := hJ
      obtain ⟨h2, g2, d2, t2, o2⟩ := s2
      obtain rfl : g2 = s.gens := mv.gens
      obtain rfl : d2 = s.drawn := mv.drawn
      obtain rfl : o2 = s.os := mv.os
      exact ⟨h2, t2, rfl, fun b o' e => mv.heap b o' (nin b o' e) (k1 b o' e)⟩
    · obtain ⟨h1, t1, rfl, k1⟩ := hJ
      obtain ⟨y, hy, ry⟩ := key i v hP
      have hym := List.mem_of_getElem? hy
      refine wpAny_mono (lam_turn (A := X.A.in1) (h := h1) (tk0 := t1) I L ek (by have := hr.dp; show X.A.depth < recursionLimit; omega) hv hf hc (hb v) (hk y hym) ry k1) (fun u s2 hu => ?_) fun _ _ z => z.elim
      obtain ⟨h2, t2, rfl, k2, rd⟩ := hu
      have ei : ys.getD i .non = y := by rw [List.getD_eq_getElem?_getD, hy]; rfl
      cases rd with
      | int i0 tt =>
        refine kk _ _ ⟨h2, t2, rfl, fun b o' e => k2 b o' (k1 b o' e)⟩ ?_ (k2 _ _ hS) ⟨tt, by rw [ei]⟩ fun _ _ h => h
        obtain ⟨a1, a2⟩ := hst
        exact ⟨a1.at fun u e => k2 _ u e, by obtain ⟨ob, e, r⟩ := a2; exact ⟨ob, k2 _ _ e, r⟩⟩
    · obtain ⟨t1, rfl⟩ := h1
      obtain ⟨t2, rfl⟩ := h2
      exact wpAny_lt_int hQ
  · obtain ⟨h1, t1, rfl, k1⟩ := hJ
    have hb2 : bestAt kf ys < ys.length := best_lt ne
    obtain ⟨y, hy, ry⟩ := key _ v hP
    have ei : ys.getD (bestAt kf ys) .non = y := by
      unfold bestAt
      rw [List.getD_eq_getElem?_getD]
      rw [List.size_toArray, hlen] at hy
      rw [hy]
      rfl
    exact ⟨y, H, I.kept k1, ry, by rw [← ei]; exact q⟩
/-! ### the calls as expressions -/
/-- what a call with a lambda as its key comes to: the list, then the lambda, then R -/
def tKeyLam (P : Addr) (q : Str) (R : L2.St → List V → Hp → VK → Prop) (ta : TA) : TE := fun σ H Q => ta σ H fun vs H1 => TabL H1 P q ∧ ∀ H2, (∀ b o, off P H1 b = some o → H2 b = some o) → TabL H2 P q → R σ vs H2 Q
def rSortLam (K : PySem.W.Frag) (tk : L2.St → V → Hp → (PyData → Prop) → Prop) : L2.St → List V → Hp → VK → Prop := fun σ vs H Q => ∃ l ys kf, vs = [.ref l] ∧ SqL K H l ys ∧ (∀ y ∈ ys, tk σ y H fun d => d = kf y) ∧ PySem.W.AllAlike (ys.map kf) ∧ PySem.W.Sortable (ys.map kf) ∧ (∀ y ∈ ys, (kf y).depth ≤ 32) ∧
  ∀ a, H a = none → Q (.ref a) (upd H a (.lst (ys.mergeSort (PySem.W.dataLe false kf))))
def rMinLam (K : PySem.W.Frag) (tk : L2.St → V → Hp → (PyData → Prop) → Prop) : L2.St → List V → Hp → VK → Prop := fun σ vs H Q => ∃ l ys kf, vs = [.ref l] ∧ SqL K H l ys ∧ (∀ y ∈ ys, tk σ y H fun d => d = .int (kf y)) ∧ ys ≠ [] ∧ Q (ys.getD (bestAt kf ys) .non) H
/-- what is asked of the lambda, its def's code object and table -/
structure LamFor (X : Cx) (P : Addr) (params : Arguments) (body : Expr) (scope : Scope) (x : Str) : Prop where
  one : OneP X.env.scope scope x
  def_ : defaultsOf params X.env = ([], [])
  bind : ∀ (v pm cv ctv : Value), bindArgs (PySem.W.kla_fn "<lambda>" (X.env.qual ++ "<lambda>") params body scope (cloFrom X.env.cells scope.names []) pm cv ctv) ⟨[v], []⟩ = pure [(x, v)]
  vis : ∀ (i : Nat) (y : Str), X.N[i]? = some y → X.env.kindOf y = some .cell → Vis X.env.scope y
theorem pe_keyLam {id : String} {nm : Str} {k : Nat} {c P : Addr} {a : Expr} {params : Arguments} {body : Expr} {p pos lpos kpos : Pos} {ta : TE} {R : L2.St → List V → Hp → VK → Prop} {tk : L2.St → V → Hp → (PyData → Prop) → Prop}
    (hr : Room k X.A) (hg : Gl X nm) (hm : X.mg nm = none) (hboot : bootBuiltins nm = some (.builtin id)) (TB : GxR.TabB X.base X.mg c P) (hcode : X.env.code = .ref c) (LF : LamFor X P params body scope x) (ek : EK X scope x body tk)
    (rule : ∀ (pins : List (Addr × Obj)) (σ : L2.St) (H : Hp) (s : Shared) (l f c2 : Addr) (Q : VK), Inv X pins σ H s → H f = some (FunO f (X.env.qual ++ "<lambda>") params body scope (cloFrom X.env.cells scope.names []) c2) → H c2 = some (LamX.CodeO c2 (X.env.qual ++ "<lambda>")) → R σ [.ref l] H Q →
      wpAny (model X.prog X.w) X.A (call (.builtin id) [.ref l] [(Str.ofString "key", .ref f)]) (EP X pins σ Q) X.xe s)
    (isl : ∀ σ vs H Q, R σ vs H Q → ∃ l : Addr, vs = [.ref l])
    (ha : PE X a ta) (hs : starEach [a] X.env = (false, eval a X.env) :: starEach [] X.env := by rfl) (hn : nm ≠ "__name__" := by decide) (hdb : (nm == ("__debug__" : Str)) = false := by decide)
    (he : backTo pos (starEach [a] X.env) = (false, eval a X.env) :: backTo pos (starEach [] X.env) := by rfl) (hpl : (backTo pos (starEach [a] X.env)).any (·.1) = false := by rfl)
    (hall : (backToKw pos (keywordEach [⟨some "key", .Lambda params body scope lpos, kpos⟩] X.env)).all (·.1.isSome) = true := by rfl) (hnone : (backToKw pos (keywordEach [⟨some "key", .Lambda params body scope lpos, kpos⟩] X.env)).any (·.1.isNone) = false := by rfl)
    (hks : (backToKw pos (keywordEach [⟨some "key", .Lambda params body scope lpos, kpos⟩] X.env)).filterMap (·.1) = [Str.ofString "key"] := by rfl) :
    PE X (.Call (.Name nm p) [a] [⟨some "key", .Lambda params body scope lpos, kpos⟩] pos) (tKeyLam P (X.env.qual ++ "<lambda>") R (tCons ta tNil)) := by
  refine ⟨fun pins s σ H Q I h => ?_⟩
  refine wpAny_Call_Name_kw (ld_blt I hg hm hboot ?_ hn hdb)
  refine PyProof.Rows.callWith_kw (thn ((pa_cons ha pa_nil hs).run pos pins s σ H _ I h) fun us s1 ⟨vs, H1, I1, r1, tab, q1⟩ => ?_) he hpl hall hnone
  refine thn ((pk_cons (pe_lam TB hcode LF.def_ (LF.one.has I1.ok)) pk_nil).run pos pins s1 σ H1 (fun zs H2 => ∃ f c2, zs = [.ref f] ∧ H2 f = some (FunO f (X.env.qual ++ "<lambda>") params body scope (cloFrom X.env.cells scope.names []) c2) ∧ H2 c2 = some (LamX.CodeO c2 (X.env.qual ++ "<lambda>")) ∧ R σ vs H2 Q) I1
    ⟨tab, fun f c2 H2 o2 t2 hf hc2 => ⟨f, c2, rfl, hf, hc2, q1 H2 o2 t2⟩⟩) fun ws s2 ⟨zs, H2, I2, r2, f, c2, hz, hf, hc2, q2⟩ => ?_
  subst hz
  obtain ⟨l, rfl⟩ := isl _ _ _ _ q2
  rw [hks]
  obtain rfl := Vals.ref1 r1
  obtain rfl := Vals.ref1 r2
  exact rule pins σ H2 s2 l f c2 Q I2 hf hc2 q2
theorem pe_sortLam {k : Nat} {c P : Addr} {a : Expr} {params : Arguments} {body : Expr} {p pos lpos kpos : Pos} {ta : TE} {tk : L2.St → V → Hp → (PyData → Prop) → Prop}
    (hr : Room k X.A) (hg : Gl X "sorted") (hm : X.mg "sorted" = none) (TB : GxR.TabB X.base X.mg c P) (hcode : X.env.code = .ref c) (LF : LamFor X P params body scope x) (ek : EK X scope x body tk) (ha : PE X a ta)
    (hs : starEach [a] X.env = (false, eval a X.env) :: starEach [] X.env := by rfl) (he : backTo pos (starEach [a] X.env) = (false, eval a X.env) :: backTo pos (starEach [] X.env) := by rfl) (hpl : (backTo pos (starEach [a] X.env)).any (·.1) = false := by rfl)
    (hall : (backToKw pos (keywordEach [⟨some "key", .Lambda params body scope lpos, kpos⟩] X.env)).all (·.1.isSome) = true := by rfl) (hnone : (backToKw pos (keywordEach [⟨some "key", .Lambda params body scope lpos, kpos⟩] X.env)).any (·.1.isNone) = false := by rfl)
    (hks : (backToKw pos (keywordEach [⟨some "key", .Lambda params body scope lpos, kpos⟩] X.env)).filterMap (·.1) = [Str.ofString "key"] := by rfl) :
    PE X (.Call (.Name "sorted" p) [a] [⟨some "key", .Lambda params body scope lpos, kpos⟩] pos) (tKeyLam P (X.env.qual ++ "<lambda>") (rSortLam X.K tk) (tCons ta tNil)) :=
  pe_keyLam hr hg hm PyProof.Rows.boot_sorted TB hcode LF ek (fun pins σ H s l f c2 Q I hf hc ⟨l', ys, kf, e, hs, hk, al, so, dp, q⟩ => by
    cases e
    exact sortLam_run hr I LF.one ek LF.vis hf hc (fun v pm ctv => LF.bind v pm _ ctv) hs hk al so dp q) (fun σ vs H Q ⟨l, _, _, e, _⟩ => ⟨l, e⟩) ha hs (by decide) (by decide) he hpl hall hnone hks
theorem pe_minLam {k : Nat} {c P : Addr} {a : Expr} {params : Arguments} {body : Expr} {p pos lpos kpos : Pos} {ta : TE} {tk : L2.St → V → Hp → (PyData → Prop) → Prop}
    (hr : Room k X.A) (hg : Gl X "min") (hm : X.mg "min" = none) (TB : GxR.TabB X.base X.mg c P) (hcode : X.env.code = .ref c) (LF : LamFor X P params body scope x) (ek : EK X scope x body tk) (ha : PE X a ta)
    (hs : starEach [a] X.env = (false, eval a X.env) :: starEach [] X.env := by rfl) (he : backTo pos (starEach [a] X.env) = (false, eval a X.env) :: backTo pos (starEach [] X.env) := by rfl) (hpl : (backTo pos (starEach [a] X.env)).any (·.1) = false := by rfl)
    (hall : (backToKw pos (keywordEach [⟨some "key", .Lambda params body scope lpos, kpos⟩] X.env)).all (·.1.isSome) = true := by rfl) (hnone : (backToKw pos (keywordEach [⟨some "key", .Lambda params body scope lpos, kpos⟩] X.env)).any (·.1.isNone) = false := by rfl)
    (hks : (backToKw pos (keywordEach [⟨some "key", .Lambda params body scope lpos, kpos⟩] X.env)).filterMap (·.1) = [Str.ofString "key"] := by rfl) :
    PE X (.Call (.Name "min" p) [a] [⟨some "key", .Lambda params body scope lpos, kpos⟩] pos) (tKeyLam P (X.env.qual ++ "<lambda>") (rMinLam X.K tk) (tCons ta tNil)) :=
  pe_keyLam hr hg hm PyProof.Rows.boot_min TB hcode LF ek (fun pins σ H s l f c2 Q I hf hc ⟨l', ys, kf, e, hs, hk, ne, q⟩ => by
    cases e
    exact minLam_run hr I LF.one ek LF.vis hf hc (fun v pm ctv => LF.bind v pm _ ctv) hs hk ne q) (fun σ vs H Q ⟨l, _, _, e, _⟩ => ⟨l, e⟩) ha hs (by decide) (by decide) he hpl hall hnone hks
/-! ### d[y] within the lambda's frame -/
def eGet (t u : TV) : TV := fun σ v H q => t σ v H fun z => u σ v H fun y => ∃ (a : Addr) (kvs : List (Key × V)) (k : Key) (w : V), z = .ref a ∧ Rd H a (.dK kvs) ∧ y = kV k ∧ valV kvs k = some w ∧ q w
theorem ee_get {d i : Expr} {t u : TV} (hd : EE X scope x d t) (hi : EE X scope x i u) (hs : NoSl i) : EE X scope x (.Subscript d i pos) (eGet t u) := by
  refine ⟨fun σ H cenv A' E' s m v q h ht => subD_of PySem.F.slot_dict_getitem.lookup hs ?_⟩
  refine wpAny_mono (hd.run σ H cenv A' E' s m v _ h ht) (fun y1 s1 hy => ?_) fun _ _ e => e
  obtain ⟨⟨z, rz, hu⟩, k1⟩ := hy
  refine wpAny_mono (hi.run σ H cenv A' E' s1 m v _ (h.keeps k1) hu) (fun y2 s2 hy2 => ?_) fun _ _ e => e
  obtain ⟨⟨z2, rz2, a, kvs, k, w, rfl, hr, rfl, hv, hq⟩, k2⟩ := hy2
  obtain rfl : y1 = Value.ref a := rz
  have h2 := (h.keeps k1).keeps k2
  obtain ⟨_, lo, vs, rel, dd⟩ := dk_rd h2.hok hr
  obtain ⟨w', hw, rw'⟩ := RelO.some_of (v := w) (o := valueAt vs k) (by rw [← hv]; exact rel.val k)
  refine ⟨dd.typeIs, wpAny_getItem_of (kV_is rz2) dd.mapOf hw ⟨⟨w, rw', hq⟩, keeps_trans (keeps_trans k1 k2) (GxR.keeps_tok _ _)⟩⟩
end
end LamK

/-! HXb: the head's facts over a part of the heap that is collected with a number of bits for what is seen (no list is searched for doubles), the statics' names with it. -/
namespace He
open PySem PySem.Spec PyProof.Rows L2
/-- those not seen yet, seen from now on -/
def newB {α : Type} : List Addr → Nat → List Addr → (Nat → List Addr → α) → α
  | [], v, acc, k => k v acc
  | a :: r, v, acc, k => HandSHeadRun.frNat a fun a => match Nat.beq (Nat.land (Nat.shiftRight v a) 1) 0 with
    | true => HandSHeadRun.frNat (Nat.lor v (Nat.shiftLeft 1 a)) fun v => newB r v (a :: acc) k
    | false => newB r v acc k
def refsAt (g : Addr → Option Obj) (a : Addr) : List Addr := match g a with
  | some o => refsD o
  | none => []
/-- every one that the list names, n steps on -/
def asB (g : Addr → Option Obj) : Nat → Nat → List Addr → List Addr → List Addr
  | 0, _, _, all => all
  | n + 1, v, now, all => newB (now.flatMap (refsAt g)) v [] fun v l => asB g n v l.reverse (all ++ l.reverse)
def obsBG (n : Nat) (ex : PySem.W.Frag → Bool) (fa : List Fa) (fn : List DefD) (g : Addr → Option Obj) : AlD := obsX ex fa fn (frG g (asB g n (Nat.shiftLeft 1 mainGlobals) [mainGlobals] [mainGlobals] ++ [cStatics]))
def hookB (n : Nat) (ex : PySem.W.Frag → Bool) (fa : List Fa) (fn : List DefD) : PySem.W.Hook where
  α := AlD
  obs := fun s => obsBG n ex fa fn s.heap.get?
  val := fun _ => valD fn
  says := fun _ h => ∃ K : PySem.W.Frag, K.In h ∧ SaysX ex fa fn K
  of := fun _ _ e => ⟨_, frG_in, e⟩
  keeps := fun _ _ _ ⟨K, hK, c⟩ k => ⟨K, PySem.W.Frag.In.keeps hK k, c⟩
theorem obsBG_eq {n : Nat} {ex : PySem.W.Frag → Bool} {fa : List Fa} {fn : List DefD} {g : Addr → Option Obj} {s : Shared} (h : ∀ a, g a = s.heap.get? a) : obsBG n ex fa fn g = (hookB n ex fa fn).obs s := by
  have e : g = s.heap.get? := funext h
  rw [e] <;> rfl
end He

set_option Elab.async false
set_option linter.all false
set_option maxRecDepth 100000
set_option maxHeartbeats 4000000
/-! HXq: a def whose code object has a table (it makes a generator): the head's facts, the def's rule, the end. -/
namespace AnyL
open PySem PySem.Spec PyProof.Rows L2
/-- the code object of the def at f, its table -/
def cdV (K : PySem.W.Frag) (f : Addr) : Addr := match K.lookup f with
  | some ⟨_, _, .func fd, _⟩ => (match fd.code with
    | .ref c => c
    | _ => 0)
  | _ => 0
def tbV (K : PySem.W.Frag) (f : Addr) : Addr := match K.lookup (cdV K f) with
  | some ⟨_, _, .fields vs, _⟩ => (match (vs[11]? : Option Value) with
    | some (.ref P) => P
    | _ => 0)
  | _ => 0
def fldsB (vs : Array Value) : Bool := match vs.getD 18 .none, vs.getD 7 .none, vs.getD 9 .none, vs.getD 10 .none with
  | .str _ _, .int _ _, .bool _, .int _ _ => true
  | _, _, _, _ => false
theorem fldsB_ok {vs : Array Value} (h : fldsB vs = true) : ∃ file tf flags tg inF text tt, vs.getD 18 .none = .str file tf ∧ vs.getD 7 .none = .int flags tg ∧ vs.getD 9 .none = .bool inF ∧ vs.getD 10 .none = .int text tt := by
  unfold fldsB at h
  split at h
  · rename_i a b c d e f e1 e2 e3 e4
    exact ⟨_, _, _, _, _, _, _, e1, e2, e3, e4⟩
  · cases h
def codeB (K : PySem.W.Frag) (f : Addr) : Bool := match K.lookup f with
  | some ⟨_, _, .func fd, _⟩ => (match fd.code with
    | .ref c => (match K.lookup c with
      | some ⟨.type t, _, .fields vs, _⟩ => decide (t = "code") && ((match (vs[11]? : Option Value) with
        | some (.ref P) => decide (c ≠ P) && (K.lookup P).isNone
        | _ => false) && fldsB vs)
      | _ => false)
    | _ => false)
  | _ => false
structure CodeOf (K : PySem.W.Frag) (f : Addr) : Prop where
  fn : ∃ oc od fd osl, K.lookup f = some ⟨oc, od, .func fd, osl⟩ ∧ fd.code = .ref (cdV K f)
  hd : ∀ h : Heap, K.In h → PySem.W.CodeHd h (cdV K f) (tbV K f)
  out : K.lookup (tbV K f) = none
theorem codeB_ok {K : PySem.W.Frag} {f : Addr} (h : codeB K f = true) : CodeOf K f := by
  unfold codeB at h
  cases q : K.lookup f with
  | none => rw [q] at h; cases h
  | some o =>
    obtain ⟨oc, od, dt, osl⟩ := o
    rw [q] at h
    cases dt with
    | func fd =>
      cases q2 : fd.code with
      | ref c =>
        simp only [q2] at h
        have ec : cdV K f = c := by
          unfold cdV
          rw [q]
          simp only [q2]
        cases q3 : K.lookup c with
        | none => simp only [q3] at h; cases h
        | some o2 =>
          obtain ⟨cc, cd, ct, cs⟩ := o2
          rw [q3] at h
          cases cc with
          | type t =>
            cases ct with
            | fields vs =>
              have h : (decide (t = "code") && ((match (vs[11]? : Option Value) with
                | some (.ref P) => decide (c ≠ P) && (K.lookup P).isNone
                | _ => false) && fldsB vs)) = true := h
              obtain ⟨h1, h2⟩ := He.ba h
              obtain ⟨h3, h4⟩ := He.ba h2
              cases q4 : vs[11]? with
              | none => rw [q4] at h3; cases h3
              | some v11 =>
                rw [q4] at h3
                cases v11 with
                | ref P =>
                  obtain ⟨h5, h6⟩ := He.ba (show (decide (c ≠ P) && (K.lookup P).isNone) = true from h3)
                  have et : tbV K f = P := by
                    unfold tbV
                    rw [ec, q3]
                    simp only [q4]
                  refine ⟨⟨oc, od, fd, osl, q, by rw [ec]; exact q2⟩, fun hp X => ?_, by rw [et]; exact Option.isNone_iff_eq_none.mp h6⟩
                  rw [ec, et]
                  obtain ⟨file, tf, flags, tg, inF, text, tt, a1, a2, a3, a4⟩ := fldsB_ok h4
                  refine ⟨_, vs, file, tf, flags, tg, inF, text, tt, X _ _ q3, congrArg Value.type (of_decide_eq_true h1), rfl, q4, ?_, a1, a2, a3, a4, of_decide_eq_true h5⟩
                  rw [Array.getD_eq_getD_getElem?, q4]
                  rfl
                | _ => cases h3
            | _ => cases h
          | _ => cases ct <;> cases h
      | _ => simp only [q2] at h; cases h
    | _ => cases h
section
variable {P : Program} {w : World} {K : PySem.W.Frag} {mg : Str → Option Value} {base : Heap} {x qual : Str} {params : Arguments} {body : List Stmt} {scope : Scope} {dvs : List V} {kws : List (Str × V)} {f : Addr} {fd : FuncData}
/-- the rule for such a def: its code object is known -/
theorem tab_ok {CX : CXT} {N ps : List Str} {k : Nat} {sp : Sp} (F : FunD K x qual params body scope dvs kws f fd) (C : CodeOf K f) (S : FnScope N ps scope) (len : ∀ vs H Q E, sp vs H Q E → vs.length = ps.length)
    (hbody : ∀ (A : Around) (outer : List Env) (s : Shared) (H : Hp) (vs : List V) (Q : VK) (E : XK), Room k (A.deeper (envOfC qual scope s.heap.objs.size f (.ref (cdV K f)))) → sp vs H Q E →
      ∃ t, PSs (cxOf CX P w K mg base N qual scope f (.ref (cdV K f)) A outer s H E) body t ∧ t { nx := fun _ H' => Q .non H', rt := Q } (start N vs) H) : FnOk P w K mg base CX (k + 1) f fd ps sp := by
  obtain ⟨oc, od, dV, kV, doc, pm, an, cdv, ct, osl, rfl, lk, hcd, _, _⟩ := F.ex
  obtain ⟨oc2, od2, fd2, osl2, lk2, hc⟩ := C.fn
  rw [lk] at lk2
  cases lk2
  have e : cdv = .ref (cdV K f) := hc
  subst e
  exact fn_of lk hcd S len fun A outer s H vs Q E hr hsp => hbody A outer s H vs Q E hr hsp
/-- from a table that is known to one of which only this is known: it is a table -/
theorem fn_retab {k : Nat} {ps : List Str} {sp : Sp} {T : Addr} (F : FnOk P w K mg base C8.CX0 k f fd ps sp) :
    FnOk P w K mg base C8.CX0 k f fd ps (fun vs H Q E => H T = some (.tbl #[]) ∧ sp vs (upd H T (TabO T)) (fun v H' => H' T = some (TabO T) ∧ ∀ H2, Q v H2) E) := by
  refine ⟨fun vs H Q E h => F.len _ _ _ _ h.2, fun A outer s H args us vs Q E hr e0 hb hv ⟨hT, h⟩ => ?_⟩
  have at_ : ∀ b, b ≠ T → upd H T (TabO T) b = H b := fun b hb => upd_ne hb
  have nT : ∀ b, H b = none → b ≠ T := fun b e z => by rw [z, hT] at e; cases e
  have hn : ∀ b, H b = none → upd H T (TabO T) b = none := fun b e => (at_ b (nT b e)).trans e
  have e1 : s.heap.get? T = some { cls := .none, data := .fields #[] } := e0.hok T _ hT
  have hok : HOk P w (upd H T (TabO T)) s.heap := fun b u e => by
    by_cases hb : b = T
    · subst hb
      rw [upd_same] at e
      cases e
      exact tabO_ok e1 True.intro
    · rw [at_ b hb] at e
      refine (e0.hok b u e).stay (fun d v _ q => q) (fun d q => ?_) fun d xs q => ?_
      · rw [at_ d (fun z => by rw [z, hT] at q; cases q)]; exact q
      · rw [at_ d (fun z => by rw [z, hT] at q; cases q)]; exact q
  refine codeAny_mono (F.run A outer s (upd H T (TabO T)) args us vs _ E hr ⟨e0.frames, e0.mod, fun b o e => ⟨(e0.bs b o e).1, hn b (e0.bs b o e).2⟩, e0.bsz, e0.funs, fun b hb => hn b (e0.frf b hb), hok, e0.bare⟩ hb hv h) fun r s' q => ?_
  cases r with
  | error e => exact q
  | ok fl =>
    cases fl with
    | ret u =>
      obtain ⟨v, H', o1, o2, un, hk, rv, hT', q2⟩ := q
      obtain ⟨qs, g1, g2⟩ := tabO_get hk hT'
      refine ⟨v, upd H' T (.tbl qs), o1, o2, ?_, ?_, rv, q2 _⟩
      · have back : ∀ b, b ≠ T → upd H' T (.tbl qs) b = H' b := fun b hb => upd_ne hb
        refine ⟨fun b o e n h1 h2 => un.keep b o e (hn b n) h1 h2, fun b o e n h1 h2 => un.slot b o e (hn b n) h1 h2, fun b o e n h1 => ?_, un.there, fun b xs e => ?_, fun b o u e => ?_, fun b ps e => ?_⟩
        · rw [back b (nT b n)]
          exact un.free b o e (hn b n) h1
        · have hb : b ≠ T := fun z => by rw [z, hT] at e; cases e
          rw [back b hb]
          exact un.tups b xs (by rw [at_ b hb]; exact e)
        · have hb : b ≠ T := fun z => by rw [z, hT] at e; cases e
          rw [back b hb]
          exact un.frzs b o u (by rw [at_ b hb]; exact e)
        · by_cases hb : b = T
          · subst hb
            rw [hT] at e
            cases e
            exact ⟨qs, by rw [upd_same]; simp⟩
          · rw [back b hb]
            exact un.tbls b ps (by rw [at_ b hb]; exact e)
      · intro b u e
        by_cases hb : b = T
        · subst hb
          rw [upd_same] at e
          cases e
          exact g1
        · rw [upd_ne hb] at e
          refine (hk b u e).stay (fun d v _ q => q) (fun d q => ?_) fun d xs q => ?_
          · rw [upd_ne (fun z => by rw [z, hT'] at q; cases q)]; exact q
          · rw [upd_ne (fun z => by rw [z, hT'] at q; cases q)]; exact q
    | next => exact q
    | brk => exact q
    | cont => exact q
end
/-- the generator's scope within a def whose captured names are cells -/
theorem gens_of {qual x : Str} {dscope gscope : Scope} {n f : Addr} {cdv : Value} (hk : gscope.kind = .function) (hco : gscope.isCoroutine = false) (hc : (gscope.names.all fun y => decide (y.2 ≠ NameKind.cell)) = true)
    (hd : gscope.names.lookup (".0" : Str) = some NameKind.local) (hl : gscope.names.lookup x = some .local) (hf : (gscope.names.all fun y => decide (y.2 = NameKind.free → dscope.names.lookup y.1 = some .cell)) = true) : GxR.GenS (envOfC qual dscope n f cdv) gscope x := by
  refine ⟨hk, hco, fun y hy => of_decide_eq_true (List.all_eq_true.mp hc y hy), hd, hl, fun y hy e => ?_⟩
  have q := of_decide_eq_true (List.all_eq_true.mp hf y hy) e
  exact Option.isSome_iff_exists.mp (PySem.W.cellsFrom_some _ _ _ (.inl q))
theorem clo_acc {cells : List (Str × Addr)} {y : Str} {c : Addr} (e : cells.lookup y = some c) : ∀ (names : List (Str × NameKind)) (acc : List (Str × Addr)), (acc.lookup y = some c ∨ (acc.lookup y = none ∧ (y, NameKind.free) ∈ names)) → (cloFrom cells names acc).lookup y = some c
  | [], acc, h => by
    rcases h with h | ⟨_, h⟩
    · exact h
    · cases h
  | (n, k) :: r, acc, h => by
    unfold cloFrom
    by_cases hk : (k == NameKind.free) = true
    · rw [if_pos hk]
      refine clo_acc e r _ ?_
      rw [List.lookup_cons]
      cases hb : y == n with
      | true =>
        have en : y = n := by simpa using hb
        subst en
        left
        rw [e]
        rfl
      | false =>
        have ne : y ≠ n := by simpa using hb
        rcases h with h | ⟨h1, h2⟩
        · exact .inl h
        · rcases List.mem_cons.mp h2 with z | z
          · exact absurd (congrArg Prod.fst z) ne
          · exact .inr ⟨h1, z⟩
    · rw [if_neg hk]
      refine clo_acc e r _ (h.imp id fun ⟨h1, h2⟩ => ⟨h1, ?_⟩)
      rcases List.mem_cons.mp h2 with z | z
      · have : k = NameKind.free := (congrArg Prod.snd z).symm
        exact absurd (by rw [this]; rfl) hk
      · exact z
theorem clo_at {cells : List (Str × Addr)} {y : Str} {names : List (Str × NameKind)} (h : (y, NameKind.free) ∈ names) : ∀ c, cells.lookup y = some c → (cloFrom cells names []).lookup y = some c :=
  fun c e => clo_acc e names [] (.inr ⟨rfl, h⟩)
theorem sqL_retab {K : PySem.W.Frag} {H : Hp} {T a : Addr} {xs : List V} {o : HO} (n : K.lookup T = none) (hT : H T = some (.tbl #[])) (h : SqL K H a xs) : SqL K (upd H T o) a xs := by
  have na : a ≠ T := fun z => by
    rw [z] at h
    rcases h with (h | ⟨_, h⟩) | ⟨_, _, _, h, _⟩
    · rw [hT] at h; cases h
    · rw [hT] at h; cases h
    · rw [n] at h; cases h
  rcases h with (h | ⟨o, h⟩) | h
  · exact .inl (.inl ((upd_ne na).trans h))
  · exact .inl (.inr ⟨o, (upd_ne na).trans h⟩)
  · exact .inr h
end AnyL
namespace He
open PySem PySem.Spec PyProof.Rows L2
/-- what an object names, but for what a code object names -/
def refsT (g : Addr → Option Obj) (a : Addr) : List Addr := match g a with
  | some o => (match o.data with
    | .fields vs => (match Nat.ble 12 vs.size with
      | true => []
      | false => refsD o)
    | _ => refsD o)
  | none => []
def asT (g : Addr → Option Obj) : Nat → Nat → List Addr → List Addr → List Addr
  | 0, _, _, all => all
  | n + 1, v, now, all => newB (now.flatMap (refsT g)) v [] fun v l => asT g n v l.reverse (all ++ l.reverse)
def emptyB (g : Addr → Option Obj) (P : Addr) : Bool := match g P with
  | some ⟨.none, none, .fields vs, sl⟩ => Nat.beq vs.size 0 && Nat.beq sl.size 0
  | _ => false
theorem emptyB_ok {g : Addr → Option Obj} {P : Addr} (h : emptyB g P = true) : g P = some { cls := .none, data := .fields #[] } := by
  unfold emptyB at h
  split at h
  · rename_i vs sl e
    obtain ⟨h1, h2⟩ := ba h
    rw [e, Array.eq_empty_of_size_eq_zero (Nat.eq_of_beq_eq_true h1), Array.eq_empty_of_size_eq_zero (Nat.eq_of_beq_eq_true h2)]
  · cases h
def exT (ex : PySem.W.Frag → Bool) (xs : List Str) (g : Addr → Option Obj) (K : PySem.W.Frag) : Bool := (xs.all fun x => AnyL.codeB K (ga K x) && emptyB g (AnyL.tbV K (ga K x))) && ex K
def obsTG (n : Nat) (ex : PySem.W.Frag → Bool) (xs : List Str) (fa : List Fa) (fn : List DefD) (g : Addr → Option Obj) : AlD := obsX (exT ex xs g) fa fn (frG g (asT g n (Nat.shiftLeft 1 mainGlobals) [mainGlobals] [mainGlobals] ++ [cStatics]))
/-- the tables are there, empty -/
def Empties (K : PySem.W.Frag) (xs : List Str) (h : Heap) : Prop := ∀ x ∈ xs, AnyL.CodeOf K (ga K x) ∧ h.get? (AnyL.tbV K (ga K x)) = some { cls := .none, data := .fields #[] }
theorem saysT {ex : PySem.W.Frag → Bool} {xs : List Str} {fa : List Fa} {fn : List DefD} {K : PySem.W.Frag} {h : Heap} (e : SaysX (exT ex xs h.get?) fa fn K) : SaysX ex fa fn K ∧ Empties K xs h := by
  have h0 : obsX (exT ex xs h.get?) fa fn K = valD fn := e
  obtain ⟨h1, h2⟩ := e.both
  obtain ⟨h3, h4⟩ := ba h1
  refine ⟨?_, fun x hx => ?_⟩
  · have e1 : ex K = exT ex xs h.get? K := h4.trans h1.symm
    show (ex K && (obsD fa fn K).1, (obsD fa fn K).2) = valD fn
    rw [e1]
    exact h0
  · obtain ⟨a, b⟩ := ba (List.all_eq_true.mp h3 x hx)
    exact ⟨AnyL.codeB_ok a, emptyB_ok b⟩
def hookT (n : Nat) (ex : PySem.W.Frag → Bool) (xs : List Str) (fa : List Fa) (fn : List DefD) : PySem.W.Hook where
  α := AlD
  obs := fun s => obsTG n ex xs fa fn s.heap.get?
  val := fun _ => valD fn
  says := fun _ h => ∃ K : PySem.W.Frag, K.In h ∧ SaysX ex fa fn K ∧ Empties K xs h
  of := fun _ _ e => ⟨_, frG_in, saysT e⟩
  keeps := fun _ _ _ ⟨K, hK, c, t⟩ k => ⟨K, PySem.W.Frag.In.keeps hK k, c, fun x hx => ⟨(t x hx).1, k _ _ (t x hx).2⟩⟩
theorem obsTG_eq {n : Nat} {ex : PySem.W.Frag → Bool} {xs : List Str} {fa : List Fa} {fn : List DefD} {g : Addr → Option Obj} {s : Shared} (h : ∀ a, g a = s.heap.get? a) : obsTG n ex xs fa fn g = (hookT n ex xs fa fn).obs s := by
  have e : g = s.heap.get? := funext h
  rw [e] <;> rfl
end He

set_option Elab.async false
set_option linter.all false
set_option maxRecDepth 100000
set_option maxHeartbeats 4000000
/-! HXlb: the end for a def whose table tells a lambda's code. -/
namespace LamK
open PySem PySem.Spec PyProof.Rows L2 AnyL
theorem oneP_of {dscope lscope : Scope} {x : Str} (h : onePB dscope lscope x = true) {env : Env} (e : env.scope = dscope := by rfl) : OneP env.scope lscope x := by
  rw [e]
  exact oneP_by h
section
variable {P : Program} {w : World} {K : PySem.W.Frag} {mg : Str → Option Value} {base : Heap} {f : Addr} {fd : FuncData}
/-- from a table that is known to one of which less is known: o0 at the start, G at the end -/
theorem fn_retabG {k : Nat} {ps : List Str} {sp : Sp} {T : Addr} {o0 : HO} {G : Hp → Prop} (F : FnOk P w K mg base C8.CX0 k f fd ps sp) (x0 : ∃ φ, o0 = .ext φ)
    (ok0 : ∀ (H : Hp) (h : Heap), h.get? T = some { cls := .none, data := .fields #[] } → ObjOk P w H h T o0) (get : ∀ (H : Hp) (h : Heap), HOk P w H h → G H → ∃ qs : Array Value, h.get? T = some { cls := .none, data := .fields qs }) (ext : ∀ H, G H → ∃ φ, H T = some (.ext φ)) :
    FnOk P w K mg base C8.CX0 k f fd ps (fun vs H Q E => H T = some (.tbl #[]) ∧ sp vs (upd H T o0) (fun v H' => G H' ∧ ∀ H2, Q v H2) E) := by
  refine ⟨fun vs H Q E h => F.len _ _ _ _ h.2, fun A outer s H args us vs Q E hr e0 hb hv ⟨hT, h⟩ => ?_⟩
  have at_ : ∀ b, b ≠ T → upd H T o0 b = H b := fun b hb => upd_ne hb
  have nT : ∀ b, H b = none → b ≠ T := fun b e z => by rw [z, hT] at e; cases e
  have hn : ∀ b, H b = none → upd H T o0 b = none := fun b e => (at_ b (nT b e)).trans e
  have e1 : s.heap.get? T = some { cls := .none, data := .fields #[] } := e0.hok T _ hT
  have hok : HOk P w (upd H T o0) s.heap := fun b u e => by
    by_cases hb : b = T
    · subst hb
      rw [upd_same] at e
      cases e
      exact ok0 _ _ e1
    · rw [at_ b hb] at e
      refine (e0.hok b u e).stay (fun d v _ q => q) (fun d q => ?_) fun d xs q => ?_
      · rw [at_ d (fun z => by rw [z, hT] at q; cases q)]; exact q
      · rw [at_ d (fun z => by rw [z, hT] at q; cases q)]; exact q
  refine codeAny_mono (F.run A outer s (upd H T o0) args us vs _ E hr ⟨e0.frames, e0.mod, fun b o e => ⟨(e0.bs b o e).1, hn b (e0.bs b o e).2⟩, e0.bsz, e0.funs, fun b hb => hn b (e0.frf b hb), hok, e0.bare⟩ hb hv h) fun r s' q => ?_
  cases r with
  | error e => exact q
  | ok fl =>
    cases fl with
    | ret u =>
      obtain ⟨v, H', o1, o2, un, hk, rv, hG, q2⟩ := q
      obtain ⟨qs, g1⟩ := get _ _ hk hG
      obtain ⟨φ, hT'⟩ := ext _ hG
      refine ⟨v, upd H' T (.tbl qs), o1, o2, ?_, ?_, rv, q2 _⟩
      · have back : ∀ b, b ≠ T → upd H' T (.tbl qs) b = H' b := fun b hb => upd_ne hb
        refine ⟨fun b o e n h1 h2 => un.keep b o e (hn b n) h1 h2, fun b o e n h1 h2 => un.slot b o e (hn b n) h1 h2, fun b o e n h1 => ?_, un.there, fun b xs e => ?_, fun b o u e => ?_, fun b ps e => ?_⟩
        · rw [back b (nT b n)]
          exact un.free b o e (hn b n) h1
        · have hb : b ≠ T := fun z => by rw [z, hT] at e; cases e
          rw [back b hb]
          exact un.tups b xs (by rw [at_ b hb]; exact e)
        · have hb : b ≠ T := fun z => by rw [z, hT] at e; cases e
          rw [back b hb]
          exact un.frzs b o u (by rw [at_ b hb]; exact e)
        · by_cases hb : b = T
          · subst hb
            rw [hT] at e
            cases e
            exact ⟨qs, by rw [upd_same]; simp⟩
          · rw [back b hb]
            exact un.tbls b ps (by rw [at_ b hb]; exact e)
      · intro b u e
        by_cases hb : b = T
        · subst hb
          rw [upd_same] at e
          cases e
          exact g1
        · rw [upd_ne hb] at e
          refine (hk b u e).stay (fun d v _ q => q) (fun d q => ?_) fun d xs q => ?_
          · rw [upd_ne (fun z => by rw [z, hT'] at q; cases q)]; exact q
          · rw [upd_ne (fun z => by rw [z, hT'] at q; cases q)]; exact q
    | next => exact q
    | brk => exact q
    | cont => exact q
theorem fn_retabC {k : Nat} {ps : List Str} {sp : Sp} {T : Addr} {q : Str} (F : FnOk P w K mg base C8.CX0 k f fd ps sp) :
    FnOk P w K mg base C8.CX0 k f fd ps (fun vs H Q E => H T = some (.tbl #[]) ∧ sp vs (upd H T (TabC T [])) (fun v H' => TabL H' T q ∧ ∀ H2, Q v H2) E) :=
  fn_retabG F ⟨_, rfl⟩ (fun _ _ e => ⟨⟨#[], e, True.intro, fun pos cv hc => by
      have z : codeAmong pos [] = some cv := hc
      simp [codeAmong] at z⟩, ⟨_, e⟩, fun _ _ ⟨p1, b1, b2, b3⟩ kk => ⟨p1, kk _ b1, b2, b3⟩⟩)
    (fun _ _ hk ⟨C, hC, _⟩ => (tab_get hk hC).imp fun _ h => h.1) (fun _ ⟨C, hC, _⟩ => ⟨_, hC⟩)
end
end LamK

set_option Elab.async false
set_option linter.all false
set_option maxRecDepth 100000
set_option maxHeartbeats 4000000
namespace K20
open PySem PySem.Spec PyProof.Rows L2 HX

def top (i : Nat) : Stmt := PySem.Challenge.pw_reachbook_k20_least_way.main.body.getD i (.Pass ⟨0, 0, 0, 0⟩)
abbrev s_wall : Stmt := (top 0)
abbrev N_wall : List Str := ["k"]
theorem sc_wall : FnScope N_wall ["k"] (defScope s_wall) := ⟨rfl, rfl, rfl, by decide +kernel, rfl, by decide +kernel, by decide +kernel⟩
abbrev s_has_only : Stmt := (top 16)
abbrev N_has_only : List Str := ["text", "signs", "sign"]
theorem sc_has_only : FnScope N_has_only ["text", "signs"] (defScope s_has_only) := ⟨rfl, rfl, rfl, by decide +kernel, rfl, by decide +kernel, by decide +kernel⟩
abbrev s_is_whole : Stmt := (top 17)
abbrev N_is_whole : List Str := ["thing"]
theorem sc_is_whole : FnScope N_is_whole ["thing"] (defScope s_is_whole) := ⟨rfl, rfl, rfl, by decide +kernel, rfl, by decide +kernel, by decide +kernel⟩
abbrev s_is_among : Stmt := (top 18)
abbrev N_is_among : List Str := ["thing", "least", "most"]
theorem sc_is_among : FnScope N_is_among ["thing", "least", "most"] (defScope s_is_among) := ⟨rfl, rfl, rfl, by decide +kernel, rfl, by decide +kernel, by decide +kernel⟩
abbrev s_is_name : Stmt := (top 19)
abbrev N_is_name : List Str := ["thing"]
theorem sc_is_name : FnScope N_is_name ["thing"] (defScope s_is_name) := ⟨rfl, rfl, rfl, by decide +kernel, rfl, by decide +kernel, by decide +kernel⟩
abbrev s_number_text : Stmt := (top 20)
abbrev N_number_text : List Str := ["number"]
theorem sc_number_text : FnScope N_number_text ["number"] (defScope s_number_text) := ⟨rfl, rfl, rfl, by decide +kernel, rfl, by decide +kernel, by decide +kernel⟩
abbrev s_number_of : Stmt := (top 21)
abbrev N_number_of : List Str := ["word"]
theorem sc_number_of : FnScope N_number_of ["word"] (defScope s_number_of) := ⟨rfl, rfl, rfl, by decide +kernel, rfl, by decide +kernel, by decide +kernel⟩
abbrev s_words_of : Stmt := (top 22)
abbrev N_words_of : List Str := ["line", "words"]
theorem sc_words_of : FnScope N_words_of ["line"] (defScope s_words_of) := ⟨rfl, rfl, rfl, by decide +kernel, rfl, by decide +kernel, by decide +kernel⟩
abbrev s_need_all : Stmt := (top 24)
abbrev N_need_all : List Str := ["web", "names", "points", "name"]
theorem sc_need_all : FnScope N_need_all ["web", "names"] (defScope s_need_all) := ⟨rfl, rfl, rfl, by decide +kernel, rfl, by decide +kernel, by decide +kernel⟩
abbrev s_names_in : Stmt := (top 25)
abbrev N_names_in : List Str := ["web", "came", "name"]
theorem sc_names_in : FnScope N_names_in ["web", "came"] (defScope s_names_in) := ⟨rfl, rfl, rfl, by decide +kernel, rfl, by decide +kernel, by decide +kernel⟩
abbrev s_free_steps : Stmt := (top 26)
abbrev N_free_steps : List Str := ["names", "ties", "steps", "tie", "name"]
theorem sc_free_steps : FnScope N_free_steps ["names", "ties"] (defScope s_free_steps) := ⟨rfl, rfl, rfl, by decide +kernel, rfl, by decide +kernel, by decide +kernel⟩
abbrev s_numbers_to : Stmt := (top 27)
abbrev N_numbers_to : List Str := ["came", "target", "numbers", "step", "number", "ahead"]
theorem sc_numbers_to : FnScope N_numbers_to ["came", "target"] (defScope s_numbers_to) := ⟨rfl, rfl, rfl, by decide +kernel, rfl, by decide +kernel, by decide +kernel⟩
abbrev s_Border_init : Stmt := (inClass (top 29) 0)
abbrev N_Border_init : List Str := ["self", "names"]
theorem sc_Border_init : FnScope N_Border_init ["self", "names"] (defScope s_Border_init) := ⟨rfl, rfl, rfl, by decide +kernel, rfl, by decide +kernel, by decide +kernel⟩
abbrev s_border_by : Stmt := (top 31)
abbrev N_border_by : List Str := ["web", "came"]
theorem sc_border_by : FnScope N_border_by ["web", "came"] (defScope s_border_by) := ⟨rfl, rfl, rfl, by decide +kernel, rfl, by decide +kernel, by decide +kernel⟩
abbrev s_way_by : Stmt := (top 32)
abbrev N_way_by : List Str := ["came", "target"]
theorem sc_way_by : FnScope N_way_by ["came", "target"] (defScope s_way_by) := ⟨rfl, rfl, rfl, by decide +kernel, rfl, by decide +kernel, by decide +kernel⟩
abbrev s_Least_init : Stmt := (inClass (top 34) 0)
abbrev N_Least_init : List Str := ["self", "numbers", "load", "heights"]
theorem sc_Least_init : FnScope N_Least_init ["self", "numbers", "load", "heights"] (defScope s_Least_init) := ⟨rfl, rfl, rfl, by decide +kernel, rfl, by decide +kernel, by decide +kernel⟩
abbrev s_least_came : Stmt := (top 35)
abbrev N_least_came : List Str := ["web", "one", "steps", "loads", "came", "heights", "left", "ahead", "number", "name", "height", "tie"]
theorem sc_least_came : FnScope N_least_came ["web", "one"] (defScope s_least_came) := ⟨rfl, rfl, rfl, by decide +kernel, rfl, by decide +kernel, by decide +kernel⟩
abbrev s_least_way : Stmt := (top 36)
abbrev N_least_way : List Str := ["web", "one", "other", "came", "heights", "ordered", "name"]
theorem sc_least_way : FnScope N_least_way ["web", "one", "other"] (defScope s_least_way) := ⟨rfl, rfl, rfl, by decide +kernel, rfl, by decide +kernel, by decide +kernel⟩
abbrev s_Tie_init : Stmt := (inClass (top 41) 0)
abbrev N_Tie_init : List Str := ["self", "number", "tail", "head", "load", "is_oneway"]
theorem sc_Tie_init : FnScope N_Tie_init ["self", "number", "tail", "head", "load", "is_oneway"] (defScope s_Tie_init) := ⟨rfl, rfl, rfl, by decide +kernel, rfl, by decide +kernel, by decide +kernel⟩
abbrev s_between : Stmt := (top 42)
abbrev N_between : List Str := ["tie", "tail", "head"]
theorem sc_between : FnScope N_between ["tie", "tail", "head"] (defScope s_between) := ⟨rfl, rfl, rfl, by decide +kernel, rfl, by decide +kernel, by decide +kernel⟩
abbrev s_turned : Stmt := (top 43)
abbrev N_turned : List Str := ["tie", "name", "other", "tail", "head"]
theorem sc_turned : FnScope N_turned ["tie", "name", "other"] (defScope s_turned) := ⟨rfl, rfl, rfl, by decide +kernel, rfl, by decide +kernel, by decide +kernel⟩
abbrev s_Web_init : Stmt := (inClass (top 44) 0)
abbrev N_Web_init : List Str := ["self"]
theorem sc_Web_init : FnScope N_Web_init ["self"] (defScope s_Web_init) := ⟨rfl, rfl, rfl, by decide +kernel, rfl, by decide +kernel, by decide +kernel⟩
abbrev s_Web_points : Stmt := (inClass (top 44) 1)
abbrev N_Web_points : List Str := ["self"]
theorem sc_Web_points : FnScope N_Web_points ["self"] (defScope s_Web_points) := ⟨rfl, rfl, rfl, by decide +kernel, rfl, by decide +kernel, by decide +kernel⟩
abbrev s_Web_ties : Stmt := (inClass (top 44) 2)
abbrev N_Web_ties : List Str := ["self", "tie"]
theorem sc_Web_ties : FnScope N_Web_ties ["self"] (defScope s_Web_ties) := ⟨rfl, rfl, rfl, by decide +kernel, rfl, by decide +kernel, by decide +kernel⟩
abbrev s_Web_given : Stmt := (inClass (top 44) 3)
abbrev N_Web_given : List Str := ["self"]
theorem sc_Web_given : FnScope N_Web_given ["self"] (defScope s_Web_given) := ⟨rfl, rfl, rfl, by decide +kernel, rfl, by decide +kernel, by decide +kernel⟩
abbrev s_Web_put_point : Stmt := (inClass (top 44) 4)
abbrev N_Web_put_point : List Str := ["self", "name"]
theorem sc_Web_put_point : FnScope N_Web_put_point ["self", "name"] (defScope s_Web_put_point) := ⟨rfl, rfl, rfl, by decide +kernel, rfl, by decide +kernel, by decide +kernel⟩
abbrev s_Web_put_tie : Stmt := (inClass (top 44) 7)
abbrev N_Web_put_tie : List Str := ["self", "tail", "head", "load", "is_oneway"]
theorem sc_Web_put_tie : FnScope N_Web_put_tie ["self", "tail", "head", "load", "is_oneway"] (defScope s_Web_put_tie) := ⟨rfl, rfl, rfl, by decide +kernel, rfl, by decide +kernel, by decide +kernel⟩
abbrev s_Web_join : Stmt := (inClass (top 44) 11)
abbrev N_Web_join : List Str := ["self", "name", "other", "turned", "tie"]
theorem sc_Web_join : FnScope N_Web_join ["self", "name", "other"] (defScope s_Web_join) := ⟨rfl, rfl, rfl, by decide +kernel, rfl, by decide +kernel, by decide +kernel⟩
abbrev s_Web_need_point : Stmt := (inClass (top 44) 14)
abbrev N_Web_need_point : List Str := ["self", "name"]
theorem sc_Web_need_point : FnScope N_Web_need_point ["self", "name"] (defScope s_Web_need_point) := ⟨rfl, rfl, rfl, by decide +kernel, rfl, by decide +kernel, by decide +kernel⟩
abbrev s_Web_need_new_name : Stmt := (inClass (top 44) 15)
abbrev N_Web_need_new_name : List Str := ["self", "name"]
theorem sc_Web_need_new_name : FnScope N_Web_need_new_name ["self", "name"] (defScope s_Web_need_new_name) := ⟨rfl, rfl, rfl, by decide +kernel, rfl, by decide +kernel, by decide +kernel⟩
abbrev s_Web_need_new_point : Stmt := (inClass (top 44) 16)
abbrev N_Web_need_new_point : List Str := ["self", "name"]
theorem sc_Web_need_new_point : FnScope N_Web_need_new_point ["self", "name"] (defScope s_Web_need_new_point) := ⟨rfl, rfl, rfl, by decide +kernel, rfl, by decide +kernel, by decide +kernel⟩
abbrev s_need_load : Stmt := (top 45)
abbrev N_need_load : List Str := ["load"]
theorem sc_need_load : FnScope N_need_load ["load"] (defScope s_need_load) := ⟨rfl, rfl, rfl, by decide +kernel, rfl, by decide +kernel, by decide +kernel⟩
abbrev s_tie_line : Stmt := (top 46)
abbrev N_tie_line : List Str := ["tie", "word", "number"]
theorem sc_tie_line : FnScope N_tie_line ["tie"] (defScope s_tie_line) := ⟨rfl, rfl, rfl, by decide +kernel, rfl, by decide +kernel, by decide +kernel⟩
abbrev s_web_lines : Stmt := (top 47)
abbrev N_web_lines : List Str := ["web", "lines", "name", "tie"]
theorem sc_web_lines : FnScope N_web_lines ["web"] (defScope s_web_lines) := ⟨rfl, rfl, rfl, by decide +kernel, rfl, by decide +kernel, by decide +kernel⟩
abbrev s_put_point_words : Stmt := (top 48)
abbrev N_put_point_words : List Str := ["web", "words"]
theorem sc_put_point_words : FnScope N_put_point_words ["web", "words"] (defScope s_put_point_words) := ⟨rfl, rfl, rfl, by decide +kernel, rfl, by decide +kernel, by decide +kernel⟩
abbrev s_put_tie_words : Stmt := (top 49)
abbrev N_put_tie_words : List Str := ["web", "words", "number", "load"]
theorem sc_put_tie_words : FnScope N_put_tie_words ["web", "words"] (defScope s_put_tie_words) := ⟨rfl, rfl, rfl, by decide +kernel, rfl, by decide +kernel, by decide +kernel⟩
abbrev s_set_given_words : Stmt := (top 50)
abbrev N_set_given_words : List Str := ["web", "words", "number"]
theorem sc_set_given_words : FnScope N_set_given_words ["web", "words"] (defScope s_set_given_words) := ⟨rfl, rfl, rfl, by decide +kernel, rfl, by decide +kernel, by decide +kernel⟩
abbrev s_take_words : Stmt := (top 51)
abbrev N_take_words : List Str := ["web", "words"]
theorem sc_take_words : FnScope N_take_words ["web", "words"] (defScope s_take_words) := ⟨rfl, rfl, rfl, by decide +kernel, rfl, by decide +kernel, by decide +kernel⟩
abbrev s_stands : Stmt := (top 52)
abbrev N_stands : List Str := ["web", "words"]
theorem sc_stands : FnScope N_stands ["web", "words"] (defScope s_stands) := ⟨rfl, rfl, rfl, by decide +kernel, rfl, by decide +kernel, by decide +kernel⟩
abbrev s_web_of : Stmt := (top 53)
abbrev N_web_of : List Str := ["lines", "web", "is_ended", "place", "line", "words"]
theorem sc_web_of : FnScope N_web_of ["lines"] (defScope s_web_of) := ⟨rfl, rfl, rfl, by decide +kernel, rfl, by decide +kernel, by decide +kernel⟩
abbrev s_law_number : Stmt := (top 55)
abbrev N_law_number : List Str := ["_law_script", "_law_k", "_law_cell", "_law_more"]
theorem sc_law_number : FnScope N_law_number ["_law_script", "_law_k"] (defScope s_law_number) := ⟨rfl, rfl, rfl, by decide +kernel, rfl, by decide +kernel, by decide +kernel⟩
abbrev s_law_mixed : Stmt := (top 56)
abbrev N_law_mixed : List Str := ["_law_number_here", "_law_k"]
theorem sc_law_mixed : FnScope N_law_mixed ["_law_number_here", "_law_k"] (defScope s_law_mixed) := ⟨rfl, rfl, rfl, by decide +kernel, rfl, by decide +kernel, by decide +kernel⟩
abbrev s_law_names : Stmt := (top 57)
abbrev N_law_names : List Str := ["_law_number_here", "_law_many", "_law_letters", "_law_step", "_law_base", "_law_border", "_law_at", "_law_signs", "_law_j", "_law_k", "_law_sign"]
theorem sc_law_names : FnScope N_law_names ["_law_number_here", "_law_many"] (defScope s_law_names) := ⟨rfl, rfl, rfl, by decide +kernel, rfl, by decide +kernel, by decide +kernel⟩
abbrev s_law_great : Stmt := (top 58)
abbrev N_law_great : List Str := ["_law_script", "_law_k", "_law_cell"]
theorem sc_law_great : FnScope N_law_great ["_law_script", "_law_k"] (defScope s_law_great) := ⟨rfl, rfl, rfl, by decide +kernel, rfl, by decide +kernel, by decide +kernel⟩
abbrev s_law_row : Stmt := (top 59)
abbrev N_law_row : List Str := ["_law_script", "_law_k", "_law_names_here", "_law_number_here", "_law_tail", "_law_head", "_law_load", "_law_row_here"]
theorem sc_law_row : FnScope N_law_row ["_law_script", "_law_k", "_law_names_here"] (defScope s_law_row) := ⟨rfl, rfl, rfl, by decide +kernel, rfl, by decide +kernel, by decide +kernel⟩
abbrev s_law_by_number : Stmt := (top 60)
abbrev N_law_by_number : List Str := ["_law_row_here"]
theorem sc_law_by_number : FnScope N_law_by_number ["_law_row_here"] (defScope s_law_by_number) := ⟨rfl, rfl, rfl, by decide +kernel, rfl, by decide +kernel, by decide +kernel⟩
abbrev s_law_web : Stmt := (top 61)
abbrev N_law_web : List Str := ["_law_names_here", "_law_rows", "_law_lines", "_law_last", "_law_row_here", "_law_word", "_law_ends", "_law_name"]
theorem sc_law_web : FnScope N_law_web ["_law_names_here", "_law_rows"] (defScope s_law_web) := ⟨rfl, rfl, rfl, by decide +kernel, rfl, by decide +kernel, by decide +kernel⟩
abbrev s_law_beside : Stmt := (top 62)
abbrev N_law_beside : List Str := ["_law_script", "_law_names_here", "_law_rows", "_law_found", "_law_j", "_law_name", "_law_more"]
theorem sc_law_beside : FnScope N_law_beside ["_law_script", "_law_names_here", "_law_rows"] (defScope s_law_beside) := ⟨rfl, rfl, rfl, by decide +kernel, rfl, by decide +kernel, by decide +kernel⟩
abbrev s_law_turns : Stmt := (top 63)
abbrev N_law_turns : List Str := ["_law_row_here", "_law_is_ahead"]
theorem sc_law_turns : FnScope N_law_turns ["_law_row_here", "_law_is_ahead"] (defScope s_law_turns) := ⟨rfl, rfl, rfl, by decide +kernel, rfl, by decide +kernel, by decide +kernel⟩
abbrev s_law_reach : Stmt := (top 64)
abbrev N_law_reach : List Str := ["_law_rows", "_law_start", "_law_is_ahead", "_law_gone", "_law_shunned", "_law_seen", "_law_many", "_law_row_here", "_law_begin", "_law_end"]
theorem sc_law_reach : FnScope N_law_reach ["_law_rows", "_law_start", "_law_is_ahead", "_law_gone", "_law_shunned"] (defScope s_law_reach) := ⟨rfl, rfl, rfl, by decide +kernel, rfl, by decide +kernel, by decide +kernel⟩
abbrev s_law_whole : Stmt := (top 65)
abbrev N_law_whole : List Str := ["_law_thing"]
theorem sc_law_whole : FnScope N_law_whole ["_law_thing"] (defScope s_law_whole) := ⟨rfl, rfl, rfl, by decide +kernel, rfl, by decide +kernel, by decide +kernel⟩
abbrev s_law_way : Stmt := (top 66)
abbrev N_law_way : List Str := ["_law_rows", "_law_numbers", "_law_one", "_law_other", "_law_is_ahead", "_law_spots", "_law_number_here", "_law_ends", "_law_row_here", "_law_begin", "_law_end"]
theorem sc_law_way : FnScope N_law_way ["_law_rows", "_law_numbers", "_law_one", "_law_other", "_law_is_ahead"] (defScope s_law_way) := ⟨rfl, rfl, rfl, by decide +kernel, rfl, by decide +kernel, by decide +kernel⟩
abbrev s_law_in_order : Stmt := (top 67)
abbrev N_law_in_order : List Str := ["_law_names_here", "_law_found", "_law_due", "_law_name"]
theorem sc_law_in_order : FnScope N_law_in_order ["_law_names_here", "_law_found", "_law_due"] (defScope s_law_in_order) := ⟨rfl, rfl, rfl, by decide +kernel, rfl, by decide +kernel, by decide +kernel⟩
abbrev s_law_right : Stmt := (top 68)
abbrev N_law_right : List Str := ["_law_names_here", "_law_rows", "_law_found", "_law_one", "_law_other", "_law_seen", "_law_heights", "_law_row_here", "_law_begin", "_law_end", "_law_name"]
theorem sc_law_right : FnScope N_law_right ["_law_names_here", "_law_rows", "_law_found", "_law_one", "_law_other"] (defScope s_law_right) := ⟨rfl, rfl, rfl, by decide +kernel, rfl, by decide +kernel, by decide +kernel⟩
abbrev s_law_told : Stmt := (top 69)
abbrev N_law_told : List Str := ["_law_found", "_law_told_here"]
theorem sc_law_told : FnScope N_law_told ["_law_found"] (defScope s_law_told) := ⟨rfl, rfl, rfl, by decide +kernel, rfl, by decide +kernel, by decide +kernel⟩
abbrev s_law_kept : Stmt := (top 70)
abbrev N_law_kept : List Str := ["_law_numbers", "_law_heights", "_law_found"]
theorem sc_law_kept : FnScope N_law_kept [] (defScope s_law_kept) := ⟨rfl, rfl, rfl, by decide +kernel, rfl, by decide +kernel, by decide +kernel⟩
abbrev s_law : Stmt := (top 71)
abbrev N_law : List Str := ["_law_script", "_law_names_here", "_law_rows", "_law_web_here", "_law_beside_here", "_law_lines", "_law_k", "_law_number_here", "_law_one", "_law_other", "_law_told_here"]
theorem sc_law : FnScope N_law ["_law_script"] (defScope s_law) := ⟨rfl, rfl, rfl, by decide +kernel, rfl, by decide +kernel, by decide +kernel⟩
structure Tx (K : PySem.W.Frag) (mg : Str → Option Value) where
  b_bool : mg "bool" = none
  b_dict : mg "dict" = none
  b_enumerate : mg "enumerate" = none
  b_int : mg "int" = none
  b_isinstance : mg "isinstance" = none
  b_len : mg "len" = none
  b_list : mg "list" = none
  b_min : mg "min" = none
  b_point : mg "point" = none
  b_range : mg "range" = none
  b_sorted : mg "sorted" = none
  b_str : mg "str" = none
  b_sum : mg "sum" = none
  c_LETTERS : ∃ t, mg "LETTERS" = some (.str "abcdefghijklmnopqrstuvwxyz" t)
  c_FIGURES : ∃ t, mg "FIGURES" = some (.str "0123456789" t)
  c_MOST_LETTERS : ∃ t, mg "MOST_LETTERS" = some (.int 12 t)
  c_MOST_FIGURES : ∃ t, mg "MOST_FIGURES" = some (.int 61 t)
  c_MOST : ∃ t, mg "MOST" = some (.int 1000000000000000000000000000000000000000000000000000000000000 t)
  c_MOST_POINTS : ∃ t, mg "MOST_POINTS" = some (.int 16 t)
  c_MOST_TIES : ∃ t, mg "MOST_TIES" = some (.int 48 t)
  g_Border : mg "Border" = some (.ref (He.ga K "Border"))
  cl_Border : Cls K (He.ga K "Border")
  mk_Border : Mk K (He.ga K "Border") (He.ma K (He.ga K "Border") "__init__")
  na_Border_names : NoAttr K (He.ga K "Border") "names"
  g_Least : mg "Least" = some (.ref (He.ga K "Least"))
  cl_Least : Cls K (He.ga K "Least")
  mk_Least : Mk K (He.ga K "Least") (He.ma K (He.ga K "Least") "__init__")
  na_Least_numbers : NoAttr K (He.ga K "Least") "numbers"
  na_Least_load : NoAttr K (He.ga K "Least") "load"
  na_Least_heights : NoAttr K (He.ga K "Least") "heights"
  g_Tie : mg "Tie" = some (.ref (He.ga K "Tie"))
  cl_Tie : Cls K (He.ga K "Tie")
  mk_Tie : Mk K (He.ga K "Tie") (He.ma K (He.ga K "Tie") "__init__")
  na_Tie_number : NoAttr K (He.ga K "Tie") "number"
  na_Tie_tail : NoAttr K (He.ga K "Tie") "tail"
  na_Tie_head : NoAttr K (He.ga K "Tie") "head"
  na_Tie_load : NoAttr K (He.ga K "Tie") "load"
  na_Tie_is_oneway : NoAttr K (He.ga K "Tie") "is_oneway"
  g_Web : mg "Web" = some (.ref (He.ga K "Web"))
  cl_Web : Cls K (He.ga K "Web")
  mk_Web : Mk K (He.ga K "Web") (He.ma K (He.ga K "Web") "__init__")
  na_Web_points : NoAttr K (He.ga K "Web") "_points"
  na_Web_ties : NoAttr K (He.ga K "Web") "_ties"
  na_Web_given : NoAttr K (He.ga K "Web") "_given"
  g_wall : mg "_wall" = some (.ref (He.ga K "_wall"))
  g_has_only : mg "_has_only" = some (.ref (He.ga K "_has_only"))
  g_is_whole : mg "is_whole" = some (.ref (He.ga K "is_whole"))
  g_is_among : mg "is_among" = some (.ref (He.ga K "is_among"))
  g_is_name : mg "is_name" = some (.ref (He.ga K "is_name"))
  g_number_text : mg "number_text" = some (.ref (He.ga K "number_text"))
  g_number_of : mg "number_of" = some (.ref (He.ga K "number_of"))
  g_words_of : mg "words_of" = some (.ref (He.ga K "words_of"))
  g_need_all : mg "need_all" = some (.ref (He.ga K "need_all"))
  g_names_in : mg "names_in" = some (.ref (He.ga K "names_in"))
  g_free_steps : mg "free_steps" = some (.ref (He.ga K "free_steps"))
  g_numbers_to : mg "numbers_to" = some (.ref (He.ga K "numbers_to"))
  g_border_by : mg "border_by" = some (.ref (He.ga K "border_by"))
  g_way_by : mg "way_by" = some (.ref (He.ga K "way_by"))
  g_least_came : mg "_least_came" = some (.ref (He.ga K "_least_came"))
  g_least_way : mg "least_way" = some (.ref (He.ga K "least_way"))
  g_between : mg "_between" = some (.ref (He.ga K "_between"))
  g_turned : mg "_turned" = some (.ref (He.ga K "_turned"))
  m_Web_points : Meth K (He.ga K "Web") "points" (He.ma K (He.ga K "Web") "points")
  m_Web_ties : Meth K (He.ga K "Web") "ties" (He.ma K (He.ga K "Web") "ties")
  m_Web_given : Meth K (He.ga K "Web") "given" (He.ma K (He.ga K "Web") "given")
  m_Web_put_point : Meth K (He.ga K "Web") "put_point" (He.ma K (He.ga K "Web") "put_point")
  m_Web_put_tie : Meth K (He.ga K "Web") "put_tie" (He.ma K (He.ga K "Web") "put_tie")
  m_Web_join : Meth K (He.ga K "Web") "join" (He.ma K (He.ga K "Web") "join")
  m_Web_need_point : Meth K (He.ga K "Web") "_need_point" (He.ma K (He.ga K "Web") "_need_point")
  m_Web_need_new_name : Meth K (He.ga K "Web") "_need_new_name" (He.ma K (He.ga K "Web") "_need_new_name")
  m_Web_need_new_point : Meth K (He.ga K "Web") "_need_new_point" (He.ma K (He.ga K "Web") "_need_new_point")
  g_need_load : mg "_need_load" = some (.ref (He.ga K "_need_load"))
  g_tie_line : mg "_tie_line" = some (.ref (He.ga K "_tie_line"))
  g_web_lines : mg "web_lines" = some (.ref (He.ga K "web_lines"))
  g_put_point_words : mg "_put_point_words" = some (.ref (He.ga K "_put_point_words"))
  g_put_tie_words : mg "_put_tie_words" = some (.ref (He.ga K "_put_tie_words"))
  g_set_given_words : mg "_set_given_words" = some (.ref (He.ga K "_set_given_words"))
  g_take_words : mg "_take_words" = some (.ref (He.ga K "_take_words"))
  g_stands : mg "_stands" = some (.ref (He.ga K "_stands"))
  g_web_of : mg "web_of" = some (.ref (He.ga K "web_of"))
  g_law_number : mg "_law_number" = some (.ref (He.ga K "_law_number"))
  g_law_mixed : mg "_law_mixed" = some (.ref (He.ga K "_law_mixed"))
  g_law_names : mg "_law_names" = some (.ref (He.ga K "_law_names"))
  g_law_great : mg "_law_great" = some (.ref (He.ga K "_law_great"))
  g_law_row : mg "_law_row" = some (.ref (He.ga K "_law_row"))
  g_law_by_number : mg "_law_by_number" = some (.ref (He.ga K "_law_by_number"))
  g_law_web : mg "_law_web" = some (.ref (He.ga K "_law_web"))
  g_law_beside : mg "_law_beside" = some (.ref (He.ga K "_law_beside"))
  g_law_turns : mg "_law_turns" = some (.ref (He.ga K "_law_turns"))
  g_law_reach : mg "_law_reach" = some (.ref (He.ga K "_law_reach"))
  g_law_whole : mg "_law_whole" = some (.ref (He.ga K "_law_whole"))
  g_law_way : mg "_law_way" = some (.ref (He.ga K "_law_way"))
  g_law_in_order : mg "_law_in_order" = some (.ref (He.ga K "_law_in_order"))
  g_law_right : mg "_law_right" = some (.ref (He.ga K "_law_right"))
  g_law_told : mg "_law_told" = some (.ref (He.ga K "_law_told"))
  g_law_kept : mg "_law_kept" = some (.ref (He.ga K "_law_kept"))
  g_law : mg "law" = some (.ref (He.ga K "law"))
  fd_wall : FuncData
  F_wall : FunD K "_wall" "_wall" (defArgs s_wall) (defBody s_wall) (defScope s_wall) [] [] (He.ga K "_wall") fd_wall
  k_wall : Binds K fd_wall ["k"] []
  fd_has_only : FuncData
  F_has_only : FunD K "_has_only" "_has_only" (defArgs s_has_only) (defBody s_has_only) (defScope s_has_only) [] [] (He.ga K "_has_only") fd_has_only
  k_has_only : Binds K fd_has_only ["text", "signs"] []
  fd_is_whole : FuncData
  F_is_whole : FunD K "is_whole" "is_whole" (defArgs s_is_whole) (defBody s_is_whole) (defScope s_is_whole) [] [] (He.ga K "is_whole") fd_is_whole
  k_is_whole : Binds K fd_is_whole ["thing"] []
  fd_is_among : FuncData
  F_is_among : FunD K "is_among" "is_among" (defArgs s_is_among) (defBody s_is_among) (defScope s_is_among) [] [] (He.ga K "is_among") fd_is_among
  k_is_among : Binds K fd_is_among ["thing", "least", "most"] []
  fd_is_name : FuncData
  F_is_name : FunD K "is_name" "is_name" (defArgs s_is_name) (defBody s_is_name) (defScope s_is_name) [] [] (He.ga K "is_name") fd_is_name
  k_is_name : Binds K fd_is_name ["thing"] []
  fd_number_text : FuncData
  F_number_text : FunD K "number_text" "number_text" (defArgs s_number_text) (defBody s_number_text) (defScope s_number_text) [] [] (He.ga K "number_text") fd_number_text
  k_number_text : Binds K fd_number_text ["number"] []
  fd_number_of : FuncData
  F_number_of : FunD K "number_of" "number_of" (defArgs s_number_of) (defBody s_number_of) (defScope s_number_of) [] [] (He.ga K "number_of") fd_number_of
  k_number_of : Binds K fd_number_of ["word"] []
  fd_words_of : FuncData
  F_words_of : FunD K "words_of" "words_of" (defArgs s_words_of) (defBody s_words_of) (defScope s_words_of) [] [] (He.ga K "words_of") fd_words_of
  k_words_of : Binds K fd_words_of ["line"] []
  fd_need_all : FuncData
  F_need_all : FunD K "need_all" "need_all" (defArgs s_need_all) (defBody s_need_all) (defScope s_need_all) [] [] (He.ga K "need_all") fd_need_all
  k_need_all : Binds K fd_need_all ["web", "names"] []
  fd_names_in : FuncData
  F_names_in : FunD K "names_in" "names_in" (defArgs s_names_in) (defBody s_names_in) (defScope s_names_in) [] [] (He.ga K "names_in") fd_names_in
  k_names_in : Binds K fd_names_in ["web", "came"] []
  fd_free_steps : FuncData
  F_free_steps : FunD K "free_steps" "free_steps" (defArgs s_free_steps) (defBody s_free_steps) (defScope s_free_steps) [] [] (He.ga K "free_steps") fd_free_steps
  k_free_steps : Binds K fd_free_steps ["names", "ties"] []
  fd_numbers_to : FuncData
  F_numbers_to : FunD K "numbers_to" "numbers_to" (defArgs s_numbers_to) (defBody s_numbers_to) (defScope s_numbers_to) [] [] (He.ga K "numbers_to") fd_numbers_to
  k_numbers_to : Binds K fd_numbers_to ["came", "target"] []
  fd_Border_init : FuncData
  F_Border_init : FunD K "__init__" "Border.__init__" (defArgs s_Border_init) (defBody s_Border_init) (defScope s_Border_init) [] [] (He.ma K (He.ga K "Border") "__init__") fd_Border_init
  k_Border_init : Binds K fd_Border_init ["self", "names"] []
  fd_border_by : FuncData
  F_border_by : FunD K "border_by" "border_by" (defArgs s_border_by) (defBody s_border_by) (defScope s_border_by) [] [] (He.ga K "border_by") fd_border_by
  k_border_by : Binds K fd_border_by ["web", "came"] []
  fd_way_by : FuncData
  F_way_by : FunD K "way_by" "way_by" (defArgs s_way_by) (defBody s_way_by) (defScope s_way_by) [] [] (He.ga K "way_by") fd_way_by
  k_way_by : Binds K fd_way_by ["came", "target"] []
  fd_Least_init : FuncData
  F_Least_init : FunD K "__init__" "Least.__init__" (defArgs s_Least_init) (defBody s_Least_init) (defScope s_Least_init) [] [] (He.ma K (He.ga K "Least") "__init__") fd_Least_init
  k_Least_init : Binds K fd_Least_init ["self", "numbers", "load", "heights"] []
  fd_least_came : FuncData
  F_least_came : FunD K "_least_came" "_least_came" (defArgs s_least_came) (defBody s_least_came) (defScope s_least_came) [] [] (He.ga K "_least_came") fd_least_came
  k_least_came : Binds K fd_least_came ["web", "one"] []
  fd_least_way : FuncData
  F_least_way : FunD K "least_way" "least_way" (defArgs s_least_way) (defBody s_least_way) (defScope s_least_way) [] [] (He.ga K "least_way") fd_least_way
  k_least_way : Binds K fd_least_way ["web", "one", "other"] []
  fd_Tie_init : FuncData
  F_Tie_init : FunD K "__init__" "Tie.__init__" (defArgs s_Tie_init) (defBody s_Tie_init) (defScope s_Tie_init) [] [] (He.ma K (He.ga K "Tie") "__init__") fd_Tie_init
  k_Tie_init : Binds K fd_Tie_init ["self", "number", "tail", "head", "load", "is_oneway"] []
  fd_between : FuncData
  F_between : FunD K "_between" "_between" (defArgs s_between) (defBody s_between) (defScope s_between) [] [] (He.ga K "_between") fd_between
  k_between : Binds K fd_between ["tie", "tail", "head"] []
  fd_turned : FuncData
  F_turned : FunD K "_turned" "_turned" (defArgs s_turned) (defBody s_turned) (defScope s_turned) [] [] (He.ga K "_turned") fd_turned
  k_turned : Binds K fd_turned ["tie", "name", "other"] []
  fd_Web_init : FuncData
  F_Web_init : FunD K "__init__" "Web.__init__" (defArgs s_Web_init) (defBody s_Web_init) (defScope s_Web_init) [] [] (He.ma K (He.ga K "Web") "__init__") fd_Web_init
  k_Web_init : Binds K fd_Web_init ["self"] []
  fd_Web_points : FuncData
  F_Web_points : FunD K "points" "Web.points" (defArgs s_Web_points) (defBody s_Web_points) (defScope s_Web_points) [] [] (He.ma K (He.ga K "Web") "points") fd_Web_points
  k_Web_points : Binds K fd_Web_points ["self"] []
  fd_Web_ties : FuncData
  F_Web_ties : FunD K "ties" "Web.ties" (defArgs s_Web_ties) (defBody s_Web_ties) (defScope s_Web_ties) [] [] (He.ma K (He.ga K "Web") "ties") fd_Web_ties
  k_Web_ties : Binds K fd_Web_ties ["self"] []
  fd_Web_given : FuncData
  F_Web_given : FunD K "given" "Web.given" (defArgs s_Web_given) (defBody s_Web_given) (defScope s_Web_given) [] [] (He.ma K (He.ga K "Web") "given") fd_Web_given
  k_Web_given : Binds K fd_Web_given ["self"] []
  fd_Web_put_point : FuncData
  F_Web_put_point : FunD K "put_point" "Web.put_point" (defArgs s_Web_put_point) (defBody s_Web_put_point) (defScope s_Web_put_point) [] [] (He.ma K (He.ga K "Web") "put_point") fd_Web_put_point
  k_Web_put_point : Binds K fd_Web_put_point ["self", "name"] []
  fd_Web_put_tie : FuncData
  F_Web_put_tie : FunD K "put_tie" "Web.put_tie" (defArgs s_Web_put_tie) (defBody s_Web_put_tie) (defScope s_Web_put_tie) [.int 0, .bl false] [] (He.ma K (He.ga K "Web") "put_tie") fd_Web_put_tie
  k_Web_put_tie_0 : ∃ ds, Vals [.int 0, .bl false] ds ∧ Binds K fd_Web_put_tie ["self", "tail", "head", "load", "is_oneway"] ds
  k_Web_put_tie_1 : ∃ ds, Vals [.bl false] ds ∧ Binds K fd_Web_put_tie ["self", "tail", "head", "load", "is_oneway"] ds
  k_Web_put_tie_2 : ∃ ds, Vals [] ds ∧ Binds K fd_Web_put_tie ["self", "tail", "head", "load", "is_oneway"] ds
  fd_Web_join : FuncData
  F_Web_join : FunD K "join" "Web.join" (defArgs s_Web_join) (defBody s_Web_join) (defScope s_Web_join) [] [] (He.ma K (He.ga K "Web") "join") fd_Web_join
  k_Web_join : Binds K fd_Web_join ["self", "name", "other"] []
  fd_Web_need_point : FuncData
  F_Web_need_point : FunD K "_need_point" "Web._need_point" (defArgs s_Web_need_point) (defBody s_Web_need_point) (defScope s_Web_need_point) [] [] (He.ma K (He.ga K "Web") "_need_point") fd_Web_need_point
  k_Web_need_point : Binds K fd_Web_need_point ["self", "name"] []
  fd_Web_need_new_name : FuncData
  F_Web_need_new_name : FunD K "_need_new_name" "Web._need_new_name" (defArgs s_Web_need_new_name) (defBody s_Web_need_new_name) (defScope s_Web_need_new_name) [] [] (He.ma K (He.ga K "Web") "_need_new_name") fd_Web_need_new_name
  k_Web_need_new_name : Binds K fd_Web_need_new_name ["self", "name"] []
  fd_Web_need_new_point : FuncData
  F_Web_need_new_point : FunD K "_need_new_point" "Web._need_new_point" (defArgs s_Web_need_new_point) (defBody s_Web_need_new_point) (defScope s_Web_need_new_point) [] [] (He.ma K (He.ga K "Web") "_need_new_point") fd_Web_need_new_point
  k_Web_need_new_point : Binds K fd_Web_need_new_point ["self", "name"] []
  fd_need_load : FuncData
  F_need_load : FunD K "_need_load" "_need_load" (defArgs s_need_load) (defBody s_need_load) (defScope s_need_load) [] [] (He.ga K "_need_load") fd_need_load
  k_need_load : Binds K fd_need_load ["load"] []
  fd_tie_line : FuncData
  F_tie_line : FunD K "_tie_line" "_tie_line" (defArgs s_tie_line) (defBody s_tie_line) (defScope s_tie_line) [] [] (He.ga K "_tie_line") fd_tie_line
  k_tie_line : Binds K fd_tie_line ["tie"] []
  fd_web_lines : FuncData
  F_web_lines : FunD K "web_lines" "web_lines" (defArgs s_web_lines) (defBody s_web_lines) (defScope s_web_lines) [] [] (He.ga K "web_lines") fd_web_lines
  k_web_lines : Binds K fd_web_lines ["web"] []
  fd_put_point_words : FuncData
  F_put_point_words : FunD K "_put_point_words" "_put_point_words" (defArgs s_put_point_words) (defBody s_put_point_words) (defScope s_put_point_words) [] [] (He.ga K "_put_point_words") fd_put_point_words
  k_put_point_words : Binds K fd_put_point_words ["web", "words"] []
  fd_put_tie_words : FuncData
  F_put_tie_words : FunD K "_put_tie_words" "_put_tie_words" (defArgs s_put_tie_words) (defBody s_put_tie_words) (defScope s_put_tie_words) [] [] (He.ga K "_put_tie_words") fd_put_tie_words
  k_put_tie_words : Binds K fd_put_tie_words ["web", "words"] []
  fd_set_given_words : FuncData
  F_set_given_words : FunD K "_set_given_words" "_set_given_words" (defArgs s_set_given_words) (defBody s_set_given_words) (defScope s_set_given_words) [] [] (He.ga K "_set_given_words") fd_set_given_words
  k_set_given_words : Binds K fd_set_given_words ["web", "words"] []
  fd_take_words : FuncData
  F_take_words : FunD K "_take_words" "_take_words" (defArgs s_take_words) (defBody s_take_words) (defScope s_take_words) [] [] (He.ga K "_take_words") fd_take_words
  k_take_words : Binds K fd_take_words ["web", "words"] []
  fd_stands : FuncData
  F_stands : FunD K "_stands" "_stands" (defArgs s_stands) (defBody s_stands) (defScope s_stands) [] [] (He.ga K "_stands") fd_stands
  k_stands : Binds K fd_stands ["web", "words"] []
  fd_web_of : FuncData
  F_web_of : FunD K "web_of" "web_of" (defArgs s_web_of) (defBody s_web_of) (defScope s_web_of) [] [] (He.ga K "web_of") fd_web_of
  k_web_of : Binds K fd_web_of ["lines"] []
  fd_law_number : FuncData
  F_law_number : FunD K "_law_number" "_law_number" (defArgs s_law_number) (defBody s_law_number) (defScope s_law_number) [] [] (He.ga K "_law_number") fd_law_number
  k_law_number : Binds K fd_law_number ["_law_script", "_law_k"] []
  fd_law_mixed : FuncData
  F_law_mixed : FunD K "_law_mixed" "_law_mixed" (defArgs s_law_mixed) (defBody s_law_mixed) (defScope s_law_mixed) [] [] (He.ga K "_law_mixed") fd_law_mixed
  k_law_mixed : Binds K fd_law_mixed ["_law_number_here", "_law_k"] []
  fd_law_names : FuncData
  F_law_names : FunD K "_law_names" "_law_names" (defArgs s_law_names) (defBody s_law_names) (defScope s_law_names) [] [] (He.ga K "_law_names") fd_law_names
  k_law_names : Binds K fd_law_names ["_law_number_here", "_law_many"] []
  fd_law_great : FuncData
  F_law_great : FunD K "_law_great" "_law_great" (defArgs s_law_great) (defBody s_law_great) (defScope s_law_great) [] [] (He.ga K "_law_great") fd_law_great
  k_law_great : Binds K fd_law_great ["_law_script", "_law_k"] []
  fd_law_row : FuncData
  F_law_row : FunD K "_law_row" "_law_row" (defArgs s_law_row) (defBody s_law_row) (defScope s_law_row) [] [] (He.ga K "_law_row") fd_law_row
  k_law_row : Binds K fd_law_row ["_law_script", "_law_k", "_law_names_here"] []
  fd_law_by_number : FuncData
  F_law_by_number : FunD K "_law_by_number" "_law_by_number" (defArgs s_law_by_number) (defBody s_law_by_number) (defScope s_law_by_number) [] [] (He.ga K "_law_by_number") fd_law_by_number
  k_law_by_number : Binds K fd_law_by_number ["_law_row_here"] []
  fd_law_web : FuncData
  F_law_web : FunD K "_law_web" "_law_web" (defArgs s_law_web) (defBody s_law_web) (defScope s_law_web) [] [] (He.ga K "_law_web") fd_law_web
  k_law_web : Binds K fd_law_web ["_law_names_here", "_law_rows"] []
  fd_law_beside : FuncData
  F_law_beside : FunD K "_law_beside" "_law_beside" (defArgs s_law_beside) (defBody s_law_beside) (defScope s_law_beside) [] [] (He.ga K "_law_beside") fd_law_beside
  k_law_beside : Binds K fd_law_beside ["_law_script", "_law_names_here", "_law_rows"] []
  fd_law_turns : FuncData
  F_law_turns : FunD K "_law_turns" "_law_turns" (defArgs s_law_turns) (defBody s_law_turns) (defScope s_law_turns) [] [] (He.ga K "_law_turns") fd_law_turns
  k_law_turns : Binds K fd_law_turns ["_law_row_here", "_law_is_ahead"] []
  fd_law_reach : FuncData
  F_law_reach : FunD K "_law_reach" "_law_reach" (defArgs s_law_reach) (defBody s_law_reach) (defScope s_law_reach) [] [] (He.ga K "_law_reach") fd_law_reach
  k_law_reach : Binds K fd_law_reach ["_law_rows", "_law_start", "_law_is_ahead", "_law_gone", "_law_shunned"] []
  fd_law_whole : FuncData
  F_law_whole : FunD K "_law_whole" "_law_whole" (defArgs s_law_whole) (defBody s_law_whole) (defScope s_law_whole) [] [] (He.ga K "_law_whole") fd_law_whole
  k_law_whole : Binds K fd_law_whole ["_law_thing"] []
  fd_law_way : FuncData
  F_law_way : FunD K "_law_way" "_law_way" (defArgs s_law_way) (defBody s_law_way) (defScope s_law_way) [] [] (He.ga K "_law_way") fd_law_way
  k_law_way : Binds K fd_law_way ["_law_rows", "_law_numbers", "_law_one", "_law_other", "_law_is_ahead"] []
  fd_law_in_order : FuncData
  F_law_in_order : FunD K "_law_in_order" "_law_in_order" (defArgs s_law_in_order) (defBody s_law_in_order) (defScope s_law_in_order) [] [] (He.ga K "_law_in_order") fd_law_in_order
  k_law_in_order : Binds K fd_law_in_order ["_law_names_here", "_law_found", "_law_due"] []
  fd_law_right : FuncData
  F_law_right : FunD K "_law_right" "_law_right" (defArgs s_law_right) (defBody s_law_right) (defScope s_law_right) [] [] (He.ga K "_law_right") fd_law_right
  k_law_right : Binds K fd_law_right ["_law_names_here", "_law_rows", "_law_found", "_law_one", "_law_other"] []
  fd_law_told : FuncData
  F_law_told : FunD K "_law_told" "_law_told" (defArgs s_law_told) (defBody s_law_told) (defScope s_law_told) [] [] (He.ga K "_law_told") fd_law_told
  k_law_told : Binds K fd_law_told ["_law_found"] []
  fd_law_kept : FuncData
  F_law_kept : FunD K "_law_kept" "_law_kept" (defArgs s_law_kept) (defBody s_law_kept) (defScope s_law_kept) [] [] (He.ga K "_law_kept") fd_law_kept
  k_law_kept : Binds K fd_law_kept [] []
  fd_law : FuncData
  F_law : FunD K "law" "law" (defArgs s_law) (defBody s_law) (defScope s_law) [] [] (He.ga K "law") fd_law
  k_law : Binds K fd_law ["_law_script"] []
/-- the table of _least_came's code object -/
abbrev tb (K : PySem.W.Frag) : Addr := AnyL.tbV K (He.ga K "_least_came")
structure Js (P : Program) (w : World) (K : PySem.W.Frag) (mg : Str → Option Value) (base : Heap) : Prop where
  tab : GxR.TabB base mg (AnyL.cdV K (He.ga K "_least_came")) (AnyL.tbV K (He.ga K "_least_came"))
  cdo : AnyL.CodeOf K (He.ga K "_least_came")
/-- what an instance of a class is -/
def isA (K : PySem.W.Frag) (x : Str) : Bool :=
  decide (PySem.W.findIn K (.ref (He.ga K x)) "__class__" = some (some (.builtin "object.__class__"))) && decide (PySem.W.mroIn K (He.ga K x) (.type "object") = some true)
def isTo (K : PySem.W.Frag) (x y : Str) (b : Bool) : Bool := decide (PySem.W.kitOne K (.ref (He.ga K x)) (.ref (He.ga K y)) = some b)
def extra (K : PySem.W.Frag) : Bool :=
  (isA K "Border" && isA K "Least") && (decide (PySem.W.specialIn K (.builtin "object.__class__") "__get__" = some (some (.builtin "getset_descriptor.__get__"))) &&
  (decide (PySem.W.takesIn K (.builtin "object.__class__") = some true) && (isTo K "Border" "Border" true && (isTo K "Least" "Border" false && isTo K "Least" "Least" true))))
end K20

set_option Elab.async false
set_option linter.all false
set_option maxRecDepth 100000
set_option maxHeartbeats 4000000
namespace K20
open PySem PySem.Spec PyProof.Rows L2 HX

def d_wall : He.DefD := ⟨("_wall", none), "_wall", "_wall", defArgs s_wall, defBody s_wall, defScope s_wall, [], []⟩
def d_has_only : He.DefD := ⟨("_has_only", none), "_has_only", "_has_only", defArgs s_has_only, defBody s_has_only, defScope s_has_only, [], []⟩
def d_is_whole : He.DefD := ⟨("is_whole", none), "is_whole", "is_whole", defArgs s_is_whole, defBody s_is_whole, defScope s_is_whole, [], []⟩
def d_is_among : He.DefD := ⟨("is_among", none), "is_among", "is_among", defArgs s_is_among, defBody s_is_among, defScope s_is_among, [], []⟩
def d_is_name : He.DefD := ⟨("is_name", none), "is_name", "is_name", defArgs s_is_name, defBody s_is_name, defScope s_is_name, [], []⟩
def d_number_text : He.DefD := ⟨("number_text", none), "number_text", "number_text", defArgs s_number_text, defBody s_number_text, defScope s_number_text, [], []⟩
def d_number_of : He.DefD := ⟨("number_of", none), "number_of", "number_of", defArgs s_number_of, defBody s_number_of, defScope s_number_of, [], []⟩
def d_words_of : He.DefD := ⟨("words_of", none), "words_of", "words_of", defArgs s_words_of, defBody s_words_of, defScope s_words_of, [], []⟩
def d_need_all : He.DefD := ⟨("need_all", none), "need_all", "need_all", defArgs s_need_all, defBody s_need_all, defScope s_need_all, [], []⟩
def d_names_in : He.DefD := ⟨("names_in", none), "names_in", "names_in", defArgs s_names_in, defBody s_names_in, defScope s_names_in, [], []⟩
def d_free_steps : He.DefD := ⟨("free_steps", none), "free_steps", "free_steps", defArgs s_free_steps, defBody s_free_steps, defScope s_free_steps, [], []⟩
def d_numbers_to : He.DefD := ⟨("numbers_to", none), "numbers_to", "numbers_to", defArgs s_numbers_to, defBody s_numbers_to, defScope s_numbers_to, [], []⟩
def d_Border_init : He.DefD := ⟨("Border", some "__init__"), "__init__", "Border.__init__", defArgs s_Border_init, defBody s_Border_init, defScope s_Border_init, [], []⟩
def d_border_by : He.DefD := ⟨("border_by", none), "border_by", "border_by", defArgs s_border_by, defBody s_border_by, defScope s_border_by, [], []⟩
def d_way_by : He.DefD := ⟨("way_by", none), "way_by", "way_by", defArgs s_way_by, defBody s_way_by, defScope s_way_by, [], []⟩
def d_Least_init : He.DefD := ⟨("Least", some "__init__"), "__init__", "Least.__init__", defArgs s_Least_init, defBody s_Least_init, defScope s_Least_init, [], []⟩
def d_least_came : He.DefD := ⟨("_least_came", none), "_least_came", "_least_came", defArgs s_least_came, defBody s_least_came, defScope s_least_came, [], []⟩
def d_least_way : He.DefD := ⟨("least_way", none), "least_way", "least_way", defArgs s_least_way, defBody s_least_way, defScope s_least_way, [], []⟩
def d_Tie_init : He.DefD := ⟨("Tie", some "__init__"), "__init__", "Tie.__init__", defArgs s_Tie_init, defBody s_Tie_init, defScope s_Tie_init, [], []⟩
def d_between : He.DefD := ⟨("_between", none), "_between", "_between", defArgs s_between, defBody s_between, defScope s_between, [], []⟩
def d_turned : He.DefD := ⟨("_turned", none), "_turned", "_turned", defArgs s_turned, defBody s_turned, defScope s_turned, [], []⟩
def d_Web_init : He.DefD := ⟨("Web", some "__init__"), "__init__", "Web.__init__", defArgs s_Web_init, defBody s_Web_init, defScope s_Web_init, [], []⟩
def d_Web_points : He.DefD := ⟨("Web", some "points"), "points", "Web.points", defArgs s_Web_points, defBody s_Web_points, defScope s_Web_points, [], []⟩
def d_Web_ties : He.DefD := ⟨("Web", some "ties"), "ties", "Web.ties", defArgs s_Web_ties, defBody s_Web_ties, defScope s_Web_ties, [], []⟩
def d_Web_given : He.DefD := ⟨("Web", some "given"), "given", "Web.given", defArgs s_Web_given, defBody s_Web_given, defScope s_Web_given, [], []⟩
def d_Web_put_point : He.DefD := ⟨("Web", some "put_point"), "put_point", "Web.put_point", defArgs s_Web_put_point, defBody s_Web_put_point, defScope s_Web_put_point, [], []⟩
def d_Web_put_tie : He.DefD := ⟨("Web", some "put_tie"), "put_tie", "Web.put_tie", defArgs s_Web_put_tie, defBody s_Web_put_tie, defScope s_Web_put_tie, [.int 0, .bl false], []⟩
def d_Web_join : He.DefD := ⟨("Web", some "join"), "join", "Web.join", defArgs s_Web_join, defBody s_Web_join, defScope s_Web_join, [], []⟩
def d_Web_need_point : He.DefD := ⟨("Web", some "_need_point"), "_need_point", "Web._need_point", defArgs s_Web_need_point, defBody s_Web_need_point, defScope s_Web_need_point, [], []⟩
def d_Web_need_new_name : He.DefD := ⟨("Web", some "_need_new_name"), "_need_new_name", "Web._need_new_name", defArgs s_Web_need_new_name, defBody s_Web_need_new_name, defScope s_Web_need_new_name, [], []⟩
def d_Web_need_new_point : He.DefD := ⟨("Web", some "_need_new_point"), "_need_new_point", "Web._need_new_point", defArgs s_Web_need_new_point, defBody s_Web_need_new_point, defScope s_Web_need_new_point, [], []⟩
def d_need_load : He.DefD := ⟨("_need_load", none), "_need_load", "_need_load", defArgs s_need_load, defBody s_need_load, defScope s_need_load, [], []⟩
def d_tie_line : He.DefD := ⟨("_tie_line", none), "_tie_line", "_tie_line", defArgs s_tie_line, defBody s_tie_line, defScope s_tie_line, [], []⟩
def d_web_lines : He.DefD := ⟨("web_lines", none), "web_lines", "web_lines", defArgs s_web_lines, defBody s_web_lines, defScope s_web_lines, [], []⟩
def d_put_point_words : He.DefD := ⟨("_put_point_words", none), "_put_point_words", "_put_point_words", defArgs s_put_point_words, defBody s_put_point_words, defScope s_put_point_words, [], []⟩
def d_put_tie_words : He.DefD := ⟨("_put_tie_words", none), "_put_tie_words", "_put_tie_words", defArgs s_put_tie_words, defBody s_put_tie_words, defScope s_put_tie_words, [], []⟩
def d_set_given_words : He.DefD := ⟨("_set_given_words", none), "_set_given_words", "_set_given_words", defArgs s_set_given_words, defBody s_set_given_words, defScope s_set_given_words, [], []⟩
def d_take_words : He.DefD := ⟨("_take_words", none), "_take_words", "_take_words", defArgs s_take_words, defBody s_take_words, defScope s_take_words, [], []⟩
def d_stands : He.DefD := ⟨("_stands", none), "_stands", "_stands", defArgs s_stands, defBody s_stands, defScope s_stands, [], []⟩
def d_web_of : He.DefD := ⟨("web_of", none), "web_of", "web_of", defArgs s_web_of, defBody s_web_of, defScope s_web_of, [], []⟩
def d_law_number : He.DefD := ⟨("_law_number", none), "_law_number", "_law_number", defArgs s_law_number, defBody s_law_number, defScope s_law_number, [], []⟩
def d_law_mixed : He.DefD := ⟨("_law_mixed", none), "_law_mixed", "_law_mixed", defArgs s_law_mixed, defBody s_law_mixed, defScope s_law_mixed, [], []⟩
def d_law_names : He.DefD := ⟨("_law_names", none), "_law_names", "_law_names", defArgs s_law_names, defBody s_law_names, defScope s_law_names, [], []⟩
def d_law_great : He.DefD := ⟨("_law_great", none), "_law_great", "_law_great", defArgs s_law_great, defBody s_law_great, defScope s_law_great, [], []⟩
def d_law_row : He.DefD := ⟨("_law_row", none), "_law_row", "_law_row", defArgs s_law_row, defBody s_law_row, defScope s_law_row, [], []⟩
def d_law_by_number : He.DefD := ⟨("_law_by_number", none), "_law_by_number", "_law_by_number", defArgs s_law_by_number, defBody s_law_by_number, defScope s_law_by_number, [], []⟩
def d_law_web : He.DefD := ⟨("_law_web", none), "_law_web", "_law_web", defArgs s_law_web, defBody s_law_web, defScope s_law_web, [], []⟩
def d_law_beside : He.DefD := ⟨("_law_beside", none), "_law_beside", "_law_beside", defArgs s_law_beside, defBody s_law_beside, defScope s_law_beside, [], []⟩
def d_law_turns : He.DefD := ⟨("_law_turns", none), "_law_turns", "_law_turns", defArgs s_law_turns, defBody s_law_turns, defScope s_law_turns, [], []⟩
def d_law_reach : He.DefD := ⟨("_law_reach", none), "_law_reach", "_law_reach", defArgs s_law_reach, defBody s_law_reach, defScope s_law_reach, [], []⟩
def d_law_whole : He.DefD := ⟨("_law_whole", none), "_law_whole", "_law_whole", defArgs s_law_whole, defBody s_law_whole, defScope s_law_whole, [], []⟩
def d_law_way : He.DefD := ⟨("_law_way", none), "_law_way", "_law_way", defArgs s_law_way, defBody s_law_way, defScope s_law_way, [], []⟩
def d_law_in_order : He.DefD := ⟨("_law_in_order", none), "_law_in_order", "_law_in_order", defArgs s_law_in_order, defBody s_law_in_order, defScope s_law_in_order, [], []⟩
def d_law_right : He.DefD := ⟨("_law_right", none), "_law_right", "_law_right", defArgs s_law_right, defBody s_law_right, defScope s_law_right, [], []⟩
def d_law_told : He.DefD := ⟨("_law_told", none), "_law_told", "_law_told", defArgs s_law_told, defBody s_law_told, defScope s_law_told, [], []⟩
def d_law_kept : He.DefD := ⟨("_law_kept", none), "_law_kept", "_law_kept", defArgs s_law_kept, defBody s_law_kept, defScope s_law_kept, [], []⟩
def d_law : He.DefD := ⟨("law", none), "law", "law", defArgs s_law, defBody s_law, defScope s_law, [], []⟩
def fn : List He.DefD := [d_wall, d_has_only, d_is_whole, d_is_among, d_is_name, d_number_text, d_number_of, d_words_of, d_need_all, d_names_in, d_free_steps, d_numbers_to, d_Border_init, d_border_by, d_way_by, d_Least_init, d_least_came, d_least_way, d_Tie_init, d_between, d_turned, d_Web_init, d_Web_points, d_Web_ties, d_Web_given, d_Web_put_point, d_Web_put_tie, d_Web_join, d_Web_need_point, d_Web_need_new_name, d_Web_need_new_point, d_need_load, d_tie_line, d_web_lines, d_put_point_words, d_put_tie_words, d_set_given_words, d_take_words, d_stands, d_web_of, d_law_number, d_law_mixed, d_law_names, d_law_great, d_law_row, d_law_by_number, d_law_web, d_law_beside, d_law_turns, d_law_reach, d_law_whole, d_law_way, d_law_in_order, d_law_right, d_law_told, d_law_kept, d_law]
def fa : List He.Fa := [.free "bool", .free "dict", .free "enumerate", .free "int", .free "isinstance", .free "len", .free "list", .free "min", .free "point", .free "range", .free "sorted", .free "str", .free "sum", .str "LETTERS" "abcdefghijklmnopqrstuvwxyz", .str "FIGURES" "0123456789", .int "MOST_LETTERS" 12, .int "MOST_FIGURES" 61, .int "MOST" 1000000000000000000000000000000000000000000000000000000000000, .int "MOST_POINTS" 16, .int "MOST_TIES" 48, .glo "Border", .cls "Border", .mkr "Border", .noat "Border" "names", .glo "Least", .cls "Least", .mkr "Least", .noat "Least" "numbers", .noat "Least" "load", .noat "Least" "heights", .glo "Tie", .cls "Tie", .mkr "Tie", .noat "Tie" "number", .noat "Tie" "tail", .noat "Tie" "head", .noat "Tie" "load", .noat "Tie" "is_oneway", .glo "Web", .cls "Web", .mkr "Web", .noat "Web" "_points", .noat "Web" "_ties", .noat "Web" "_given", .glo "_wall", .glo "_has_only", .glo "is_whole", .glo "is_among", .glo "is_name", .glo "number_text", .glo "number_of", .glo "words_of", .glo "need_all", .glo "names_in", .glo "free_steps", .glo "numbers_to", .glo "border_by", .glo "way_by", .glo "_least_came", .glo "least_way", .glo "_between", .glo "_turned", .meth "Web" "points", .meth "Web" "ties", .meth "Web" "given", .meth "Web" "put_point", .meth "Web" "put_tie", .meth "Web" "join", .meth "Web" "_need_point", .meth "Web" "_need_new_name", .meth "Web" "_need_new_point", .glo "_need_load", .glo "_tie_line", .glo "web_lines", .glo "_put_point_words", .glo "_put_tie_words", .glo "_set_given_words", .glo "_take_words", .glo "_stands", .glo "web_of", .glo "_law_number", .glo "_law_mixed", .glo "_law_names", .glo "_law_great", .glo "_law_row", .glo "_law_by_number", .glo "_law_web", .glo "_law_beside", .glo "_law_turns", .glo "_law_reach", .glo "_law_whole", .glo "_law_way", .glo "_law_in_order", .glo "_law_right", .glo "_law_told", .glo "_law_kept", .glo "law"]
abbrev R : PySem.W.OpenRow := PySem.W.OpenLaw.row PySem.Challenge.rw_reachbook_k20_least_way
abbrev hk : PySem.W.Hook := He.hookT 6 extra ["_least_came"] fa fn
def ob (s : PySem.W.SharedT) : He.AlD := He.obsTG 6 extra ["_least_came"] fa fn (HandSHeadRun.getT s)
theorem ob_eq (s : PySem.W.SharedT) : ob s = hk.obs s.abs := He.obsTG_eq (HandSHeadRun.getT_eq s)
def loose0 : List Str := ["_wall", "WebError", "BadName", "Twice", "TooMany", "BadTie", "BadLoad", "SamePoint", "NoPoint", "BadLine", "_has_only", "is_whole", "is_among", "is_name", "number_text", "number_of", "words_of", "need_all", "names_in", "free_steps", "numbers_to", "Border", "border_by", "way_by", "Least", "_least_came", "least_way", "Tie", "_between", "_turned"]
def loose1 : List Str := ["Web", "_need_load", "_tie_line", "web_lines", "_put_point_words", "_put_tie_words", "_set_given_words", "_take_words", "_stands", "web_of", "_law_number", "_law_mixed", "_law_names", "_law_great", "_law_row", "_law_by_number", "_law_web", "_law_beside", "_law_turns", "_law_reach", "_law_whole", "_law_way", "_law_in_order", "_law_right", "_law_told", "_law_kept", "LETTERS", "FIGURES", "MOST_LETTERS", "MOST_FIGURES"]
def loose2 : List Str := ["MOST", "MOST_POINTS", "MOST_TIES"]
def loose : List Str := loose0 ++ loose1 ++ loose2
theorem run (w : World) : HandSHeadRun.RunEq R (PySem.W.view R.prog [71]) hk ob 9000 loose w := by
  intro os
  kernel_rfl
end K20

set_option Elab.async false
set_option linter.all false
set_option maxRecDepth 100000
set_option maxHeartbeats 2000000
/-! HXw: steps of a reading over attributes, methods, makings, dicts and their views, sets, tuples. -/
namespace HX
open PySem PySem.Spec PyProof.Rows L2
def kFld (K : PySem.W.Frag) (f : Str) (Q : VK) : VK := fun x H1 => ∃ a C dx fs v, x = .ref a ∧ H1 a = some (.ins C dx fs) ∧ Cls K C ∧ NoAttr K C f ∧ fs.lookup f = some v ∧ Q v H1
def kSFld (K : PySem.W.Frag) (f : Str) (y : V) (D : Ends) (σ : L2.St) : VK := fun x H2 => ∃ a C dx fs, x = .ref a ∧ H2 a = some (.ins C dx fs) ∧ Cls K C ∧ NoAttr K C f ∧ fs.length < 1000 ∧ D.nx σ (upd H2 a (.ins C dx (putF f y fs)))
def kMeth (m : Str) (sp : Sp) (dvs : List V) (E : XK) (t : TA) (σ : L2.St) (Q : VK) : VK := fun x H1 => ∃ a C dx fs, x = .ref a ∧ H1 a = some (.ins C dx fs) ∧ fs.lookup m = none ∧ t σ H1 fun vs H2 => sp (x :: (vs ++ dvs)) H2 Q E
def kFldAug (K : PySem.W.Frag) (tv : TE) (rd : V → V → Hp → VK → Prop) (f : Str) (D : Ends) (σ : L2.St) : VK := fun x H1 => ∃ a C dx fs v, x = .ref a ∧ H1 a = some (.ins C dx fs) ∧ Cls K C ∧ NoAttr K C f ∧ fs.lookup f = some v ∧ tv σ H1 fun y H2 => rd v y H2 fun z H3 => ∃ dx' fs', H3 a = some (.ins C dx' fs') ∧ fs'.length < 1000 ∧ D.nx σ (upd H3 a (.ins C dx' (putF f z fs')))
def kVals (R : It → Hp → Prop) : VK := fun x H1 => ∃ d o kvs, x = .ref d ∧ H1 d = some (.frz o (.dK kvs)) ∧ R (Itd d o kvs) H1
def kItems (R : It → Hp → Prop) : VK := fun x H1 => ∃ d o kvs, x = .ref d ∧ H1 d = some (.frz o (.dK kvs)) ∧ R (Iti d o kvs) H1
def kDGet (x : V) (Q : VK) : VK := fun y H2 => ∃ a v, x = .ref a ∧ DGet H2 a y (some v) ∧ Q v H2
def kDPut (x v : V) (D : Ends) (σ : L2.St) : VK := fun y H3 => ∃ a H4, x = .ref a ∧ DPut H3 a y v H4 ∧ D.nx σ H4
def kDIn (y : V) (Q : VK) : VK := fun x H2 => ∃ a o, x = .ref a ∧ DGet H2 a y o ∧ Q (.bl o.isSome) H2
def kDNotIn (y : V) (Q : VK) : VK := fun x H2 => ∃ a o, x = .ref a ∧ DGet H2 a y o ∧ Q (.bl !o.isSome) H2
def kDPop1 (ty : TE) (σ : L2.St) (Q : VK) : VK := fun x H1 => ∃ a, x = .ref a ∧ IsD H1 a ∧ ty σ H1 fun y H2 => ∃ kvs k v, H2 a = some (.dK kvs) ∧ y = kV k ∧ valV kvs k = some v ∧ Q v (upd H2 a (.dK (dropK kvs k)))
def kDDel (x : V) (D : Ends) (σ : L2.St) : VK := fun y H2 => ∃ a kvs k, x = .ref a ∧ H2 a = some (.dK kvs) ∧ y = kV k ∧ (valV kvs k).isSome = true ∧ D.nx σ (upd H2 a (.dK (dropK kvs k)))
def DcW (J : It) (g : TG) (tt : TT) (tk tv : TE) (vs : List Nat) (σ : L2.St) (H1 : Hp) (Q : VK) : Prop := ∀ D, H1 D = none → ∃ W : Nat → Nat → Hp → Prop, (∃ m, W 0 m (upd H1 D (.dK []))) ∧ ∀ i m H, W i m H →
  (J.stop i H ∧ Q (.ref D) H) ∨ (J.go i H ∧ ∃ Nx : Hp → Prop, (∀ H', Nx H' → ∃ m', m' < m ∧ W (i + 1) m' H') ∧ ∀ x H', J.yld i H x H' → g x (wipe σ vs) H' fun σ2 H2 => wipe σ2 vs = wipe σ vs ∧ tt σ2 H2 fun b H3 =>
    if b = true then tk σ2 H3 fun y H4 => tv σ2 H4 fun z H5 => ∃ kvs k, y = kV k ∧ H5 D = some (.dK kvs) ∧ kvs.length < sizeLine ∧ Nx (upd H5 D (.dK (putK kvs k z))) else Nx H3)
def kEnum (K : PySem.W.Frag) (R : It → Hp → Prop) : List V → Hp → Prop := fun vs H1 => ∃ a xs, vs = [.ref a] ∧ SqL K H1 a xs ∧ R (Ite K a) H1
section
variable {K : PySem.W.Frag} {σ : L2.St} {H : Hp} {i : Nat} {v x y z : V} {ta tb te tc td tv ty tk : TE} {tas : TA} {Q : VK} {D : Ends} {t u : TS} {g : TG} {tt : TT} {R : It → Hp → Prop} {a C dx : Addr} {fs : List (Str × V)} {f : Str} {sp : Sp} {dvs : List V} {E : XK} {kvs : List (Key × V)} {k : Key} {QB : Bool → Hp → Prop}
theorem i_fld (q : ta σ H (kFld K f Q)) : tFld K ta f σ H Q := q
theorem i_kFld (h : H a = some (.ins C dx fs)) (c1 : Cls K C) (c2 : NoAttr K C f) (e : fs.lookup f = some v) (q : Q v H) : kFld K f Q (.ref a) H := ⟨a, C, dx, fs, v, rfl, h, c1, c2, e, q⟩
theorem i_sfld (q : tv σ H fun y H1 => ta σ H1 (kSFld K f y D σ)) : sFld K ta tv f D σ H := q
theorem i_kSFld (h : H a = some (.ins C dx fs)) (c1 : Cls K C) (c2 : NoAttr K C f) (e : fs.length < 1000) (q : D.nx σ (upd H a (.ins C dx (putF f y fs)))) : kSFld K f y D σ (.ref a) H := ⟨a, C, dx, fs, rfl, h, c1, c2, e, q⟩
theorem i_meth (q : ta σ H (kMeth f sp dvs E tas σ Q)) (hC : ∀ a C' dx fs, H a = some (.ins C' dx fs) → C' = C) : True := trivial
def kMethC (C : Addr) (m : Str) (sp : Sp) (dvs : List V) (E : XK) (t : TA) (σ : L2.St) (Q : VK) : VK := fun x H1 => ∃ a dx fs, x = .ref a ∧ H1 a = some (.ins C dx fs) ∧ fs.lookup m = none ∧ t σ H1 fun vs H2 => sp (x :: (vs ++ dvs)) H2 Q E
theorem i_methC (q : ta σ H (kMethC C f sp dvs E tas σ Q)) : tMeth C f sp dvs E ta tas σ H Q := q
theorem i_kMethC (h : H a = some (.ins C dx fs)) (e : fs.lookup f = none) (q : tas σ H fun vs H2 => sp (.ref a :: (vs ++ dvs)) H2 Q E) : kMethC C f sp dvs E tas σ Q (.ref a) H := ⟨a, dx, fs, rfl, h, e, q⟩
theorem i_make (q : tas σ H fun vs H1 => ∀ x dx : Addr, H1 x = none → H1 dx = none → dx ≠ x → sp (.ref x :: (vs ++ dvs)) (upd (upd H1 dx (.own x)) x (.ins C dx [])) (fun v H2 => v = .non ∧ Q (.ref x) H2) E) : tMake C sp dvs E tas σ H Q := q
theorem i_fldaug {rd : V → V → Hp → VK → Prop} (q : ta σ H (kFldAug K tv rd f D σ)) : sFldAug K ta tv rd f D σ H := q
theorem i_kFldAugI {j : Int} {m : Int} (h : H a = some (.ins C dx fs)) (c1 : Cls K C) (c2 : NoAttr K C f) (e : fs.lookup f = some (.int j)) (n : fs.length < 1000) (q : D.nx σ (upd H a (.ins C dx (putF f (.int (j + m)) fs)))) : kFldAug K (tC (.int m)) rAdd f D σ (.ref a) H := ⟨a, C, dx, fs, .int j, rfl, h, c1, c2, e, ⟨j, m, rfl, rfl, dx, fs, h, n, q⟩⟩
theorem i_lock {d : Addr} {o : HO} (h : H d = some o) (c : Mut (some o)) (q : ∀ od, t { nx := fun σ' H' => H' d = some (.frz od o) ∧ D.nx σ' (upd H' d o), rt := fun v H' => H' d = some (.frz od o) ∧ D.rt v (upd H' d o), bk := fun σ' H' => H' d = some (.frz od o) ∧ D.bk σ' (upd H' d o), ct := fun σ' H' => H' d = some (.frz od o) ∧ D.ct σ' (upd H' d o) } σ (upd H d (.frz od o))) : tLock t D σ H := ⟨d, o, h, c, q⟩
theorem i_lockE {d : Addr} {o : HO} (h : H d = some o) (c : Mut (some o)) (q : ∀ od, te σ (upd H d (.frz od o)) fun v H' => H' d = some (.frz od o) ∧ Q v (upd H' d o)) : tLockE te σ H Q := ⟨d, o, h, c, q⟩
theorem i_vals (q : td σ H (kVals R)) : iVals td σ H R := q
theorem i_items (q : td σ H (kItems R)) : iItems td σ H R := q
theorem i_kVals {d : Addr} {o : Obj} (h : H d = some (.frz o (.dK kvs))) (q : R (Itd d o kvs) H) : kVals R (.ref d) H := ⟨d, o, kvs, rfl, h, q⟩
theorem i_kItems {d : Addr} {o : Obj} (h : H d = some (.frz o (.dK kvs))) (q : R (Iti d o kvs) H) : kItems R (.ref d) H := ⟨d, o, kvs, rfl, h, q⟩
theorem i_dget (q : td σ H fun x H1 => ty σ H1 (kDGet x Q)) : tDGet td ty σ H Q := q
theorem i_kDGet (h : H a = some (.dK kvs)) (e : valV kvs k = some v) (q : Q v H) : kDGet (.ref a) Q (kV k) H := ⟨a, v, rfl, .inl ⟨kvs, k, .inl h, rfl, e.symm⟩, q⟩
theorem i_kDGetI {j : Int} (h : H a = some (.dK kvs)) (e : valV kvs (Sum.inl j) = some v) (q : Q v H) : kDGet (.ref a) Q (.int j) H := i_kDGet (k := Sum.inl j) h e q
theorem i_kDGetS {j : Str} (h : H a = some (.dK kvs)) (e : valV kvs (Sum.inr j) = some v) (q : Q v H) : kDGet (.ref a) Q (.str j) H := i_kDGet (k := Sum.inr j) h e q
theorem i_dput (q : tv σ H fun v H1 => td σ H1 fun x H2 => ty σ H2 (kDPut x v D σ)) : sDPut td ty tv D σ H := q
theorem i_kDPutI {j : Int} (h : H a = some (.dK kvs)) (c : kvs.length < sizeLine) (q : D.nx σ (upd H a (.dK (putK kvs (Sum.inl j) v)))) : kDPut (.ref a) v D σ (.int j) H := ⟨a, _, rfl, .inl ⟨kvs, Sum.inl j, h, rfl, c, rfl⟩, q⟩
theorem i_kDPutS {j : Str} (h : H a = some (.dK kvs)) (c : kvs.length < sizeLine) (q : D.nx σ (upd H a (.dK (putK kvs (Sum.inr j) v)))) : kDPut (.ref a) v D σ (.str j) H := ⟨a, _, rfl, .inl ⟨kvs, Sum.inr j, h, rfl, c, rfl⟩, q⟩
theorem i_din (q : ty σ H fun y H1 => td σ H1 (kDIn y Q)) : tDIn ty td σ H Q := q
theorem i_kDInI {j : Int} (h : H a = some (.dK kvs)) (q : Q (.bl (valV kvs (Sum.inl j)).isSome) H) : kDIn (.int j) Q (.ref a) H := ⟨a, _, rfl, .inl ⟨kvs, Sum.inl j, .inl h, rfl, rfl⟩, q⟩
theorem i_dnotin (q : ty σ H fun y H1 => td σ H1 (kDNotIn y Q)) : tDNotIn ty td σ H Q := q
theorem i_kDNotInI {j : Int} (h : H a = some (.dK kvs)) (q : Q (.bl !(valV kvs (Sum.inl j)).isSome) H) : kDNotIn (.int j) Q (.ref a) H := ⟨a, _, rfl, .inl ⟨kvs, Sum.inl j, .inl h, rfl, rfl⟩, q⟩
theorem i_isL {xs : List V} (h : H a = some (.lst xs)) (q : Q (.bl true) H) : rIsi K [.ref a, .ty "list"] H Q := ⟨_, _, _, _, _, rfl, .ty _, .base (.lst h), kit_ty (by decide +kernel), q⟩
theorem i_dpop1 (q : td σ H (kDPop1 ty σ Q)) : tDPop1 td ty σ H Q := q
theorem i_kDPop1I {j : Int} (h : H a = some (.dK kvs)) (q : ty σ H fun y H2 => y = .int j ∧ H2 = H) (e : valV kvs (Sum.inl j) = some v) (r : Q v (upd H a (.dK (dropK kvs (Sum.inl j))))) : True := trivial
theorem i_ddel (q : td σ H fun x H1 => ty σ H1 (kDDel x D σ)) : sDDel td ty D σ H := q
theorem i_kDDelI {j : Int} (h : H a = some (.dK kvs)) (e : (valV kvs (Sum.inl j)).isSome = true) (q : D.nx σ (upd H a (.dK (dropK kvs (Sum.inl j))))) : kDDel (.ref a) D σ (.int j) H := ⟨a, kvs, Sum.inl j, rfl, h, rfl, e, q⟩
theorem i_dc {wi : TI} {vs : List Nat} (q : wi σ H fun J H1 => DcW J g tt tk tv vs σ H1 Q) : tDc wi g tt tk tv vs σ H Q := q
theorem i_enum (q : tas σ H (kEnum K R)) : iEnum K tas σ H R := q
theorem i_kEnum {xs : List V} (h : SqL K H a xs) (q : R (Ite K a) H) : kEnum K R [.ref a] H := ⟨a, xs, rfl, h, q⟩
theorem i_rIn {xs : List V} {b : Bool} (h : SqL K H a xs) (c1 : flatV x = true) (c2 : xs.all flatV = true) (q : Q (.bl (if b = true then !inV x xs else inV x xs)) H) : rIn K b x (.ref a) H Q := ⟨a, xs, rfl, .inl h, c1, c2, q⟩
theorem i_rInT {xs : List V} {b : Bool} (h : SqT K H a xs) (c1 : flatV x = true) (c2 : xs.all flatV = true) (q : Q (.bl (if b = true then !inV x xs else inV x xs)) H) : rIn K b x (.ref a) H Q := ⟨a, xs, rfl, .inr h, c1, c2, q⟩
theorem i_dict (h : H a = some (.dK kvs)) (q : ∀ p, H p = none → Q (.ref p) (upd H p (.dK kvs))) : xDict [.ref a] H Q := ⟨a, kvs, rfl, .inl h, q⟩
theorem i_slT {xs : List V} {lo hi : Option Int} (h : SqT K H a xs) (c : ¬(HT.sIx xs.length 0 lo = 0 ∧ HT.sIx xs.length xs.length hi = xs.length)) (q : ∀ p, H p = none → Q (.ref p) (upd H p (.tup (cutV xs lo hi)))) : rSlT K (.ref a) lo hi H Q := ⟨a, xs, rfl, h, c, q⟩
theorem i_slS {z : Str} {lo hi : Option Int} (c : z.length ≤ sizeLine) (q : Q (.str (cutS z lo hi)) H) : rSlS (.str z) lo hi H Q := ⟨z, rfl, c, q⟩
end
/-- a dict's comprehension, by an invariant -/
theorem dc_it {J : It} {n : Nat} {G : Hp → Prop} {Y : Nat → Hp → V → Hp → Prop} (w : Walk J n G Y) {g : TG} {tt : TT} {tk tv : TE} {vs : List Nat} {σ : L2.St} {H1 : Hp} {D : Addr} {Qd : Hp → Prop}
    (Pv : Nat → Hp → Prop) (h0 : Pv 0 (upd H1 D (.dK []))) (hG : ∀ i H, i ≤ n → Pv i H → G H)
    (hs : ∀ i x H H', i < n → Pv i H → Y i H x H' → g x (wipe σ vs) H' fun σ2 H2 => wipe σ2 vs = wipe σ vs ∧ tt σ2 H2 fun b H3 =>
      if b = true then tk σ2 H3 fun y H4 => tv σ2 H4 fun z H5 => ∃ kvs k, y = kV k ∧ H5 D = some (.dK kvs) ∧ kvs.length < sizeLine ∧ Pv (i + 1) (upd H5 D (.dK (putK kvs k z))) else Pv (i + 1) H3)
    (hd : ∀ H, Pv n H → Qd H) : ∃ W : Nat → Nat → Hp → Prop, (∃ m, W 0 m (upd H1 D (.dK []))) ∧ ∀ i m H, W i m H →
  (J.stop i H ∧ Qd H) ∨ (J.go i H ∧ ∃ Nx : Hp → Prop, (∀ H', Nx H' → ∃ m', m' < m ∧ W (i + 1) m' H') ∧ ∀ x H', J.yld i H x H' → g x (wipe σ vs) H' fun σ2 H2 => wipe σ2 vs = wipe σ vs ∧ tt σ2 H2 fun b H3 =>
    if b = true then tk σ2 H3 fun y H4 => tv σ2 H4 fun z H5 => ∃ kvs k, y = kV k ∧ H5 D = some (.dK kvs) ∧ kvs.length < sizeLine ∧ Nx (upd H5 D (.dK (putK kvs k z))) else Nx H3) := by
  refine ⟨fun i m H => i + m = n ∧ Pv i H, ⟨n, by omega, h0⟩, ?_⟩
  rintro i m H ⟨e, p⟩
  by_cases hi : i < n
  · refine .inr ⟨w.goes i H hi (hG i H (by omega) p), Pv (i + 1), fun H' p' => ⟨m - 1, by omega, by omega, p'⟩, fun x H' y => ?_⟩
    exact hs i x H H' hi p (w.yields i H x H' hi (hG i H (by omega) p) y)
  · obtain rfl : i = n := by omega
    exact .inl ⟨w.stops H (hG i H (by omega) p), hd H p⟩
end HX

set_option Elab.async false
set_option linter.all false
set_option maxRecDepth 100000
set_option maxHeartbeats 2000000
/-! KW: webs as plain data, and how they lie in the heap. -/
namespace WB
open PySem PySem.Spec PyProof.Rows L2 HX
/-! ### two lists side by side -/
inductive Two {α β : Type} (R : α → β → Prop) : List α → List β → Prop where
  | nil : Two R [] []
  | cons {a : α} {b : β} {as : List α} {bs : List β} (h : R a b) (t : Two R as bs) : Two R (a :: as) (b :: bs)
namespace Two
variable {α β γ δ : Type} {R : α → β → Prop} {as : List α} {bs : List β}
theorem len (h : Two R as bs) : as.length = bs.length := by
  induction h with
  | nil => rfl
  | cons _ _ ih => simp [ih]
theorem mono {S : α → β → Prop} (h : Two R as bs) (c : ∀ a b, R a b → S a b) : Two S as bs := by
  induction h with
  | nil => exact .nil
  | cons h _ ih => exact .cons (c _ _ h) ih
theorem app {cs : List α} {ds : List β} (h : Two R as bs) (g : Two R cs ds) : Two R (as ++ cs) (bs ++ ds) := by
  induction h with
  | nil => exact g
  | cons h _ ih => exact .cons h ih
theorem get (h : Two R as bs) : ∀ {i : Nat} {a : α}, as[i]? = some a → ∃ b, bs[i]? = some b ∧ R a b := by
  induction h with
  | nil => intro i a e; simp at e
  | cons h _ ih =>
    intro i a e
    cases i with
    | zero => cases e; exact ⟨_, rfl, h⟩
    | succ j => exact ih e
theorem getr (h : Two R as bs) : ∀ {i : Nat} {b : β}, bs[i]? = some b → ∃ a, as[i]? = some a ∧ R a b := by
  induction h with
  | nil => intro i a e; simp at e
  | cons h _ ih =>
    intro i a e
    cases i with
    | zero => cases e; exact ⟨_, rfl, h⟩
    | succ j => exact ih e
theorem map {S : γ → δ → Prop} {f : α → γ} {g : β → δ} (h : Two R as bs) (c : ∀ a b, R a b → S (f a) (g b)) : Two S (as.map f) (bs.map g) := by
  induction h with
  | nil => exact .nil
  | cons h _ ih => exact .cons (c _ _ h) ih
theorem filter {p : α → Bool} {q : β → Bool} (h : Two R as bs) (c : ∀ a b, R a b → p a = q b) : Two R (as.filter p) (bs.filter q) := by
  induction h with
  | nil => exact .nil
  | cons h t ih =>
    rw [List.filter_cons, List.filter_cons, c _ _ h]
    split
    · exact .cons h ih
    · exact ih
theorem any {p : α → Bool} {q : β → Bool} (h : Two R as bs) (c : ∀ a b, R a b → p a = q b) : as.any p = bs.any q := by
  induction h with
  | nil => rfl
  | cons h t ih => rw [List.any_cons, List.any_cons, c _ _ h, ih]
theorem find {p : α → Bool} {q : β → Bool} (h : Two R as bs) (c : ∀ a b, R a b → p a = q b) : (as.find? p = none ∧ bs.find? q = none) ∨ ∃ a b, as.find? p = some a ∧ bs.find? q = some b ∧ R a b := by
  induction h with
  | nil => exact .inl ⟨rfl, rfl⟩
  | @cons a b as bs h t ih =>
    rw [List.find?_cons, List.find?_cons, c _ _ h]
    cases q b with
    | true => exact .inr ⟨a, b, rfl, rfl, h⟩
    | false => exact ih
theorem take (h : Two R as bs) : ∀ n, Two R (as.take n) (bs.take n) := by
  induction h with
  | nil => intro n; simp; exact .nil
  | cons h t ih =>
    intro n
    cases n with
    | zero => exact .nil
    | succ m => exact .cons h (ih m)
theorem mem (h : Two R as bs) {a : α} (ha : a ∈ as) : ∃ b ∈ bs, R a b := by
  obtain ⟨i, hi⟩ := List.mem_iff_getElem?.mp ha
  obtain ⟨b, e, r⟩ := h.get hi
  exact ⟨b, List.mem_iff_getElem?.mpr ⟨i, e⟩, r⟩
end Two
/-! ### ties by their numbers -/
structure Ti where
  t : Str
  h : Str
  c : Int
  o : Bool
  deriving DecidableEq
abbrev Ts := List (Int × Ti)
def tget (ts : Ts) (n : Int) : Option Ti := (ts.find? fun x => decide (x.1 = n)).map (·.2)
def tput (ts : Ts) (n : Int) (t : Ti) : Ts := if (ts.any fun x => decide (x.1 = n)) = true then ts.map fun x => if x.1 = n then (x.1, t) else x else ts ++ [(n, t)]
def tdrop (ts : Ts) (n : Int) : Ts := ts.filter fun x => decide (x.1 ≠ n)
def turn (x y : Str) (t : Ti) : Ti := { t with t := if t.t = x then y else t.t, h := if t.h = x then y else t.h }
/-- a dict of numbers to things at addresses -/
def DP (R : Int → Ti → Addr → Prop) (kvs : List (Key × V)) (ts : Ts) : Prop := Two (fun kv nt => ∃ a, kv = ((Sum.inl nt.1 : Key), V.ref a) ∧ R nt.1 nt.2 a) kvs ts
namespace DP
variable {R S : Int → Ti → Addr → Prop} {kvs : List (Key × V)} {ts : Ts} {n : Int} {t : Ti} {a : Addr}
theorem nil : DP R [] [] := Two.nil
theorem mono (h : DP R kvs ts) (c : ∀ n t a, R n t a → S n t a) : DP S kvs ts := Two.mono h fun _ _ ⟨a, e, r⟩ => ⟨a, e, c _ _ _ r⟩
theorem len (h : DP R kvs ts) : kvs.length = ts.length := Two.len h
theorem keys (h : DP R kvs ts) : kvs.map (·.1) = (ts.map (·.1)).map Sum.inl := by
  induction h with
  | nil => rfl
  | cons h _ ih =>
    obtain ⟨a, rfl, _⟩ := h
    simp only [List.map_cons, ih]
theorem key_eq {kv : Key × V} {nt : Int × Ti} (h : ∃ a, kv = ((Sum.inl nt.1 : Key), V.ref a) ∧ R nt.1 nt.2 a) (n : Int) : decide (kv.1 = Sum.inl n) = decide (nt.1 = n) := by
  obtain ⟨a, rfl, _⟩ := h
  have : ((Sum.inl nt.1 : Key) = Sum.inl n) ↔ nt.1 = n := ⟨fun e => Sum.inl.inj e, fun e => by rw [e]⟩
  exact decide_eq_decide.mpr this
theorem get (h : DP R kvs ts) (e : tget ts n = some t) : ∃ a, valV kvs (Sum.inl n) = some (.ref a) ∧ R n t a := by
  rcases Two.find (p := fun kv => decide (kv.1 = (Sum.inl n : Key))) (q := fun x => decide (x.1 = n)) h (fun _ _ r => key_eq r n) with ⟨_, e2⟩ | ⟨kv, nt, e1, e2, a, rfl, r⟩
  · unfold tget at e; rw [e2] at e; simp at e
  · unfold tget at e
    rw [e2] at e
    have hn : nt.1 = n := by simpa using List.find?_some e2
    obtain ⟨m, u⟩ := nt
    cases e
    cases hn
    refine ⟨a, ?_, r⟩
    unfold valV
    rw [e1]; rfl
theorem none (h : DP R kvs ts) (e : tget ts n = none) : valV kvs (Sum.inl n) = .none := by
  rcases Two.find (p := fun kv => decide (kv.1 = (Sum.inl n : Key))) (q := fun x => decide (x.1 = n)) h (fun _ _ r => key_eq r n) with ⟨e1, e2⟩ | ⟨kv, nt, e1, e2, a, rfl, r⟩
  · unfold valV; rw [e1]; rfl
  · unfold tget at e; rw [e2] at e; simp at e
theorem some (h : DP R kvs ts) : (valV kvs (Sum.inl n)).isSome = (tget ts n).isSome := by
  cases e : tget ts n with
  | none => rw [h.none e]; rfl
  | some t =>
    obtain ⟨a, e2, _⟩ := h.get e
    rw [e2]; rfl
theorem put (h : DP R kvs ts) (r : R n t a) : DP R (putK kvs (Sum.inl n) (.ref a)) (tput ts n t) := by
  unfold putK tput
  have e := Two.any (p := fun kv => decide (kv.1 = (Sum.inl n : Key))) (q := fun x => decide (x.1 = n)) h (fun _ _ r => key_eq r n)
  rw [e]
  split
  · refine Two.map h fun kv nt r' => ?_
    have k := key_eq r' n
    obtain ⟨b, rfl, r2⟩ := r'
    by_cases hn : nt.1 = n
    · rw [if_pos hn, if_pos (by rw [hn])]
      exact ⟨a, rfl, by rw [hn]; exact r⟩
    · rw [if_neg hn, if_neg (fun e => hn (Sum.inl.inj e))]
      exact ⟨b, rfl, r2⟩
  · exact Two.app h (.cons ⟨a, rfl, r⟩ .nil)
theorem drop (h : DP R kvs ts) : DP R (dropK kvs (Sum.inl n)) (tdrop ts n) := by
  refine Two.filter h fun kv nt r => ?_
  have k := key_eq r n
  simp only [ne_eq, decide_not]
  rw [k]
theorem item (h : DP R kvs ts) {i : Nat} {kv : Key × V} (e : kvs[i]? = .some kv) : ∃ n t a, ts[i]? = .some (n, t) ∧ kv = (Sum.inl n, .ref a) ∧ R n t a := by
  obtain ⟨⟨n, t⟩, e1, a, rfl, r⟩ := Two.get h e
  exact ⟨n, t, a, e1, rfl, r⟩
theorem take (h : DP R kvs ts) (n : Nat) : DP R (kvs.take n) (ts.take n) := Two.take h n
theorem snoc (h : DP R kvs ts) (r : R n t a) : DP R (kvs ++ [(Sum.inl n, .ref a)]) (ts ++ [(n, t)]) := Two.app h (.cons ⟨a, rfl, r⟩ .nil)
end DP
/-! ### plain facts of ties -/
theorem tget_mem {ts : Ts} {n : Int} {t : Ti} (h : tget ts n = some t) : (n, t) ∈ ts := by
  unfold tget at h
  cases e : ts.find? fun x => decide (x.1 = n) with
  | none => rw [e] at h; simp at h
  | some x =>
    rw [e] at h
    have hn : x.1 = n := by simpa using List.find?_some e
    have hm := List.mem_of_find?_eq_some e
    obtain ⟨m, u⟩ := x
    cases h; cases hn
    exact hm
theorem tput_new {ts : Ts} {n : Int} {t : Ti} (h : ∀ x ∈ ts, x.1 ≠ n) : tput ts n t = ts ++ [(n, t)] := by
  unfold tput
  rw [if_neg]
  intro e
  obtain ⟨x, hx, e2⟩ := List.any_eq_true.mp e
  exact h x hx (by simpa using e2)
abbrev Rise (ts : Ts) : Prop := ts.Pairwise fun a b => a.1 < b.1
theorem tget_of {ts : Ts} (hs : Rise ts) {n : Int} {t : Ti} (h : (n, t) ∈ ts) : tget ts n = some t := by
  induction ts with
  | nil => simp at h
  | cons x r ih =>
    unfold tget
    rw [List.find?_cons]
    by_cases e : x.1 = n
    · rw [decide_eq_true e]
      rcases List.mem_cons.mp h with h | h
      · rw [← h]; rfl
      · have := (List.pairwise_cons.mp hs).1 _ h
        simp at this; omega
    · rw [decide_eq_false e]
      rcases List.mem_cons.mp h with h | h
      · exact absurd (by rw [← h]) e
      · exact ih (List.pairwise_cons.mp hs).2 h
theorem tput_keys {ts : Ts} {n : Int} {t u : Ti} (h : tget ts n = some u) : (tput ts n t).map (·.1) = ts.map (·.1) := by
  have a : (ts.any fun x => decide (x.1 = n)) = true := List.any_eq_true.mpr ⟨_, tget_mem h, by simp⟩
  unfold tput
  rw [if_pos a, List.map_map]
  apply List.map_congr_left
  intro x _
  show (if x.1 = n then (x.1, t) else x).1 = x.1
  split <;> rfl
theorem tput_eq {ts : Ts} {n : Int} {t u : Ti} (h : tget ts n = some u) : tput ts n t = ts.map fun x => if x.1 = n then (x.1, t) else x := by
  have a : (ts.any fun x => decide (x.1 = n)) = true := List.any_eq_true.mpr ⟨_, tget_mem h, by simp⟩
  unfold tput
  rw [if_pos a]
theorem rise_keys {ts us : Ts} (e : us.map (·.1) = ts.map (·.1)) (h : Rise ts) : Rise us := by
  have h1 : (ts.map (·.1)).Pairwise (· < ·) := List.pairwise_map.mpr h
  rw [← e] at h1
  exact List.pairwise_map.mp h1
/-! ### a web -/
structure Wb where
  ps : List Str
  ts : Ts
  g : Int
/-- a good name -/
def isNm (z : Str) : Bool := decide (1 ≤ z.length) && decide (z.length ≤ 12) && z.cps.toList.all fun c => decide (97 ≤ c) && decide (c ≤ 122)
def most : Int := 10 ^ 60
theorem most_pos : (0 : Int) < 10 ^ (60 : Int).toNat + 1 := by decide +kernel
structure TieOk (ps : List Str) (g : Int) (n : Int) (u : Ti) : Prop where
  lo : 1 ≤ n
  hi : n ≤ g
  t : u.t ∈ ps
  h : u.h ∈ ps
  ne : u.t ≠ u.h
  c0 : 0 ≤ u.c
  c1 : u.c ≤ most
structure Wok (w : Wb) : Prop where
  nd : w.ps.Nodup
  nm : ∀ x ∈ w.ps, isNm x = true
  le : w.ps.length ≤ 16
  tl : w.ts.length ≤ 48
  rise : Rise w.ts
  ok : ∀ n t, (n, t) ∈ w.ts → TieOk w.ps w.g n t
  g0 : 0 ≤ w.g
namespace Wb
def put (w : Wb) (x : Str) : Wb := { w with ps := w.ps ++ [x] }
def gone (w : Wb) (x : Str) : Wb := { w with ps := w.ps.erase x }
def ren (w : Wb) (x y : Str) : Wb := { w with ps := w.ps.set (w.ps.idxOf x) y, ts := w.ts.map fun nt => (nt.1, turn x y nt.2) }
def tie (w : Wb) (t : Ti) : Wb := { w with ts := w.ts ++ [(w.g + 1, t)], g := w.g + 1 }
def untie (w : Wb) (n : Int) : Wb := { w with ts := tdrop w.ts n }
def load (w : Wb) (n c : Int) : Wb := { w with ts := w.ts.map fun nt => if nt.1 = n then (nt.1, { nt.2 with c := c }) else nt }
def join (w : Wb) (x y : Str) : Wb := { w with ps := w.ps.erase y, ts := (w.ts.map fun nt => (nt.1, turn y x nt.2)).filter fun nt => decide (nt.2.t ≠ nt.2.h) }
def part (w : Wb) (x y : Str) (ns : List Int) : Wb := { w with ps := w.ps ++ [y], ts := w.ts.map fun nt => if nt.1 ∈ ns then (nt.1, turn x y nt.2) else nt }
end Wb
theorem Wok.put {w : Wb} (h : Wok w) {x : Str} (hx : x ∉ w.ps) (hn : isNm x = true) (hl : w.ps.length < 16) : Wok (w.put x) where
  nd := List.nodup_append.mpr ⟨h.nd, by simp, fun a ha b hb e => hx (by rw [List.mem_singleton.mp hb] at e; rw [← e]; exact ha)⟩
  nm := fun z hz => by
    rcases List.mem_append.mp hz with hz | hz
    · exact h.nm z hz
    · rw [List.mem_singleton.mp hz]; exact hn
  le := by
    show (w.ps ++ [x]).length ≤ 16
    rw [List.length_append, List.length_singleton]; omega
  tl := h.tl
  rise := h.rise
  ok := fun n t ht => have o := h.ok n t ht; { o with t := List.mem_append.mpr (.inl o.t), h := List.mem_append.mpr (.inl o.h) }
  g0 := h.g0
theorem Wok.gone {w : Wb} (h : Wok w) {x : Str} (hx : ∀ n t, (n, t) ∈ w.ts → t.t ≠ x ∧ t.h ≠ x) : Wok (w.gone x) where
  nd := h.nd.erase x
  nm := fun z hz => h.nm z (List.mem_of_mem_erase hz)
  le := Nat.le_trans (List.length_erase_le ..) h.le
  tl := h.tl
  rise := h.rise
  ok := fun n t ht => have o := h.ok n t ht; { o with t := (List.mem_erase_of_ne (hx n t ht).1).mpr o.t, h := (List.mem_erase_of_ne (hx n t ht).2).mpr o.h }
  g0 := h.g0
theorem set_idx {ps : List Str} {x y z : Str} (hx : x ∈ ps) (hz : z ∈ ps) (hne : z ≠ x) : z ∈ ps.set (ps.idxOf x) y := by
  induction ps with
  | nil => simp at hx
  | cons p r ih =>
    rw [List.idxOf_cons]
    by_cases e : p = x
    · subst e
      simp only [beq_self_eq_true, cond_true, List.set_cons_zero]
      rcases List.mem_cons.mp hz with h | h
      · exact absurd h hne
      · exact List.mem_cons_of_mem _ h
    · have eb : (p == x) = false := by simpa using e
      simp only [eb, cond_false, List.set_cons_succ]
      rcases List.mem_cons.mp hz with h | h
      · rw [h]; exact List.mem_cons_self
      · exact List.mem_cons_of_mem _ (ih ((List.mem_cons.mp hx).resolve_left (fun q => e q.symm)) h)
theorem set_new {ps : List Str} {x y : Str} (hx : x ∈ ps) : y ∈ ps.set (ps.idxOf x) y := by
  have hl : ps.idxOf x < ps.length := List.idxOf_lt_length_iff.mpr hx
  exact List.mem_iff_getElem?.mpr ⟨ps.idxOf x, by simp [hl]⟩
theorem set_nd {ps : List Str} {y : Str} (h : ps.Nodup) (hy : y ∉ ps) : ∀ i : Nat, (ps.set i y).Nodup := by
  induction ps with
  | nil => intro i; simp
  | cons p r ih =>
    intro i
    obtain ⟨h1, h2⟩ := List.nodup_cons.mp h
    cases i with
    | zero => exact List.nodup_cons.mpr ⟨fun m => hy (List.mem_cons_of_mem _ m), h2⟩
    | succ j =>
      refine List.nodup_cons.mpr ⟨fun m => ?_, ih h2 (fun m => hy (List.mem_cons_of_mem _ m)) j⟩
      rcases List.mem_or_eq_of_mem_set m with m | m
      · exact h1 m
      · exact hy (by rw [← m]; exact List.mem_cons_self)
theorem turn_end {x y : Str} {t : Ti} {ps : List Str} {z : Str} (hz : z = t.t ∨ z = t.h) : True := trivial
theorem Wok.ren {w : Wb} (h : Wok w) {x y : Str} (hx : x ∈ w.ps) (hy : y ∉ w.ps) (hn : isNm y = true) : Wok (w.ren x y) where
  nd := set_nd h.nd hy _
  nm := fun z hz => by
    rcases List.mem_or_eq_of_mem_set hz with m | m
    · exact h.nm z m
    · rw [m]; exact hn
  le := by
    show (w.ps.set _ y).length ≤ 16
    rw [List.length_set]; exact h.le
  tl := by
    show (w.ts.map _).length ≤ 48
    rw [List.length_map]; exact h.tl
  rise := rise_keys (by show (w.ts.map _).map _ = _; rw [List.map_map]; rfl) h.rise
  ok := fun n t ht => by
    obtain ⟨⟨m, u⟩, hm, e⟩ := List.mem_map.mp ht
    cases e
    have o := h.ok m u hm
    have ends : ∀ z, z ∈ w.ps → (if z = x then y else z) ∈ w.ps.set (w.ps.idxOf x) y := fun z hz => by
      split
      · exact set_new hx
      · rename_i hne; exact set_idx hx hz hne
    refine ⟨o.lo, o.hi, ends _ o.t, ends _ o.h, ?_, o.c0, o.c1⟩
    show (if u.t = x then y else u.t) ≠ (if u.h = x then y else u.h)
    have n1 : y ≠ u.t := fun e => hy (by rw [e]; exact o.t)
    have n2 : y ≠ u.h := fun e => hy (by rw [e]; exact o.h)
    have n3 := o.ne
    split
    · rename_i e1
      rw [if_neg (fun e2 => n3 (e1.trans e2.symm))]
      exact n2
    · split
      · exact n1.symm
      · exact n3
  g0 := h.g0
theorem Wok.tie {w : Wb} (h : Wok w) {t : Ti} (h1 : t.t ∈ w.ps) (h2 : t.h ∈ w.ps) (h3 : t.t ≠ t.h) (c0 : 0 ≤ t.c) (c1 : t.c ≤ most) (hl : w.ts.length < 48) : Wok (w.tie t) where
  nd := h.nd
  nm := h.nm
  le := h.le
  tl := by
    show (w.ts ++ _).length ≤ 48
    rw [List.length_append, List.length_singleton]; omega
  rise := by
    refine List.pairwise_append.mpr ⟨h.rise, by simp, fun a ha b hb => ?_⟩
    rw [List.mem_singleton.mp hb]
    have := (h.ok a.1 a.2 ha).hi
    show a.1 < w.g + 1
    omega
  ok := fun n u hu => by
    have hg := h.g0
    rcases List.mem_append.mp hu with hu | hu
    · have o := h.ok n u hu
      exact { o with hi := by have := o.hi; show n ≤ w.g + 1; omega }
    · cases List.mem_singleton.mp hu
      exact ⟨by omega, Int.le_refl _, h1, h2, h3, c0, c1⟩
  g0 := by have := h.g0; show 0 ≤ w.g + 1; omega
theorem Wok.untie {w : Wb} (h : Wok w) (n : Int) : Wok (w.untie n) where
  nd := h.nd
  nm := h.nm
  le := h.le
  tl := Nat.le_trans (List.length_filter_le ..) h.tl
  rise := h.rise.filter _
  ok := fun m t ht => h.ok m t (List.mem_filter.mp ht).1
  g0 := h.g0
theorem Wok.load {w : Wb} (h : Wok w) {n c : Int} (c0 : 0 ≤ c) (c1 : c ≤ most) : Wok (w.load n c) where
  nd := h.nd
  nm := h.nm
  le := h.le
  tl := by
    show (w.ts.map _).length ≤ 48
    rw [List.length_map]; exact h.tl
  rise := rise_keys (by
    show (w.ts.map _).map _ = _
    rw [List.map_map]
    apply List.map_congr_left
    intro x _
    show (if x.1 = n then (x.1, { x.2 with c := c }) else x).1 = x.1
    split <;> rfl) h.rise
  ok := fun m t ht => by
    obtain ⟨⟨k, u⟩, hm, e⟩ := List.mem_map.mp ht
    have o := h.ok k u hm
    by_cases hk : k = n
    · rw [if_pos hk] at e
      cases e
      exact { o with c0 := c0, c1 := c1 }
    · rw [if_neg hk] at e
      cases e
      exact o
  g0 := h.g0
theorem Wok.join {w : Wb} (h : Wok w) {x y : Str} (hx : x ∈ w.ps) (hy : y ∈ w.ps) (hne : x ≠ y) : Wok (w.join x y) where
  nd := h.nd.erase y
  nm := fun z hz => h.nm z (List.mem_of_mem_erase hz)
  le := Nat.le_trans (List.length_erase_le ..) h.le
  tl := Nat.le_trans (List.length_filter_le ..) (by rw [List.length_map]; exact h.tl)
  rise := by
    have r : Rise (w.ts.map fun nt => (nt.1, turn y x nt.2)) := rise_keys (by rw [List.map_map]; rfl) h.rise
    exact r.filter _
  ok := fun n t ht => by
    obtain ⟨h1, h2⟩ := List.mem_filter.mp ht
    obtain ⟨⟨m, u⟩, hm, e⟩ := List.mem_map.mp h1
    cases e
    have o := h.ok m u hm
    have ends : ∀ z, z ∈ w.ps → (if z = y then x else z) ∈ w.ps.erase y := fun z hz => by
      split
      · exact (List.mem_erase_of_ne hne).mpr hx
      · rename_i hn; exact (List.mem_erase_of_ne hn).mpr hz
    exact ⟨o.lo, o.hi, ends _ o.t, ends _ o.h, by simpa using h2, o.c0, o.c1⟩
  g0 := h.g0
theorem Wok.part {w : Wb} (h : Wok w) {x y : Str} {ns : List Int} (hy : y ∉ w.ps) (hn : isNm y = true) (hl : w.ps.length < 16) : Wok (w.part x y ns) where
  nd := (h.put hy hn hl).nd
  nm := (h.put hy hn hl).nm
  le := (h.put hy hn hl).le
  tl := by
    show (w.ts.map _).length ≤ 48
    rw [List.length_map]; exact h.tl
  rise := rise_keys (by
    show (w.ts.map _).map _ = _
    rw [List.map_map]
    apply List.map_congr_left
    intro z _
    show (if z.1 ∈ ns then (z.1, turn x y z.2) else z).1 = z.1
    split <;> rfl) h.rise
  ok := fun n t ht => by
    obtain ⟨⟨m, u⟩, hm, e⟩ := List.mem_map.mp ht
    have o := h.ok m u hm
    have inl : ∀ z, z ∈ w.ps → z ∈ w.ps ++ [y] := fun z hz => List.mem_append.mpr (.inl hz)
    by_cases hk : m ∈ ns
    · rw [if_pos hk] at e
      cases e
      have ends : ∀ z, z ∈ w.ps → (if z = x then y else z) ∈ w.ps ++ [y] := fun z hz => by
        split
        · exact List.mem_append.mpr (.inr (by simp))
        · exact inl z hz
      refine ⟨o.lo, o.hi, ends _ o.t, ends _ o.h, ?_, o.c0, o.c1⟩
      show (if u.t = x then y else u.t) ≠ (if u.h = x then y else u.h)
      have n1 : y ≠ u.t := fun e => hy (by rw [e]; exact o.t)
      have n2 : y ≠ u.h := fun e => hy (by rw [e]; exact o.h)
      have n3 := o.ne
      split
      · rename_i e1
        rw [if_neg (fun e2 => n3 (e1.trans e2.symm))]
        exact n2
      · split
        · exact n1.symm
        · exact n3
    · rw [if_neg hk] at e
      cases e
      exact { o with t := inl _ o.t, h := inl _ o.h }
  g0 := h.g0
end WB

set_option Elab.async false
set_option linter.all false
set_option maxRecDepth 100000
set_option maxHeartbeats 2000000
/-! KG: ways in a web, as plain data. -/
namespace WB
open PySem PySem.Spec PyProof.Rows L2 HX
/-- the steps from a point, as they may be gone -/
def freeOne (x : Str) (nt : Int × Ti) : List (Int × Str) := (if nt.2.t = x then [(nt.1, nt.2.h)] else []) ++ (if nt.2.o = false ∧ nt.2.h = x then [(nt.1, nt.2.t)] else [])
def freeS (ts : Ts) (x : Str) : List (Int × Str) := ts.flatMap (freeOne x)
/-- .. one-way ties as plain ones -/
def plainOne (x : Str) (nt : Int × Ti) : List (Int × Str) := (if nt.2.t = x then [(nt.1, nt.2.h)] else []) ++ (if nt.2.h = x then [(nt.1, nt.2.t)] else [])
def plainS (ts : Ts) (x : Str) : List (Int × Str) := ts.flatMap (plainOne x)
abbrev Steps := Str → List (Int × Str)
abbrev Came := List (Str × Option (Int × Str))
def keysC (cm : Came) : List Str := cm.map (·.1)
def see (cm : Came) (a : Str) (s : Int × Str) : Came := if s.2 ∈ keysC cm then cm else cm ++ [(s.2, some (s.1, a))]
def seeAll (cm : Came) (a : Str) (ss : List (Int × Str)) : Came := ss.foldl (fun c s => see c a s) cm
def bfs (S : Steps) : Nat → Came → Nat → Came
  | 0, cm, _ => cm
  | f + 1, cm, d => match cm[d]? with
    | none => cm
    | some p => bfs S f (seeAll cm p.1 (S p.1)) (d + 1)
def came (S : Steps) (one : Str) : Came := bfs S 17 [(one, none)] 0
/-! ### what a came keeps -/
/-- all but the first stand behind the one that they are come to from -/
structure CmOk (S : Steps) (one : Str) (cm : Came) : Prop where
  nd : (keysC cm).Nodup
  hd : cm[0]? = some (one, none)
  from' : ∀ (i : Nat) (y : Str) (o : Option (Int × Str)), cm[i]? = some (y, o) → 0 < i → ∃ n a, o = some (n, a) ∧ (n, y) ∈ S a ∧ ∃ j, j < i ∧ (keysC cm)[j]? = some a
/-- the first d are done with -/
def Done (S : Steps) (cm : Came) (d : Nat) : Prop := ∀ i a, i < d → (keysC cm)[i]? = some a → ∀ s ∈ S a, s.2 ∈ keysC cm
theorem keysC_app {a b : Came} : keysC (a ++ b) = keysC a ++ keysC b := List.map_append ..
theorem keysC_len {a : Came} : (keysC a).length = a.length := List.length_map ..
theorem keysC_get {cm : Came} {i : Nat} {y : Str} {o : Option (Int × Str)} (h : cm[i]? = some (y, o)) : (keysC cm)[i]? = some y := by
  unfold keysC
  rw [List.getElem?_map, h]; rfl
theorem see_pre (cm : Came) (a : Str) (s : Int × Str) : ∃ r, see cm a s = cm ++ r := by
  unfold see
  split
  · exact ⟨[], by simp⟩
  · exact ⟨_, rfl⟩
theorem seeAll_pre (a : Str) : ∀ (ss : List (Int × Str)) (cm : Came), ∃ r, seeAll cm a ss = cm ++ r
  | [], cm => ⟨[], by simp [seeAll]⟩
  | s :: ss, cm => by
    obtain ⟨r1, e1⟩ := see_pre cm a s
    obtain ⟨r2, e2⟩ := seeAll_pre a ss (see cm a s)
    refine ⟨r1 ++ r2, ?_⟩
    show seeAll (see cm a s) a ss = _
    rw [e2, e1, List.append_assoc]
theorem get_app {α : Type} {a b : List α} {i : Nat} {x : α} (h : a[i]? = some x) : (a ++ b)[i]? = some x := by
  rw [List.getElem?_append_left (List.getElem?_eq_some_iff.mp h).1]; exact h
theorem CmOk.see {S : Steps} {one a : Str} {cm : Came} (h : CmOk S one cm) {s : Int × Str} (hs : s ∈ S a) (ha : a ∈ keysC cm) : CmOk S one (see cm a s) := by
  unfold WB.see
  split
  · exact h
  · rename_i hn
    refine ⟨?_, get_app h.hd, ?_⟩
    · rw [keysC_app]
      exact List.nodup_append.mpr ⟨h.nd, by simp [keysC], fun x hx y hy e => hn (by simp [keysC] at hy; rw [← hy, ← e]; exact hx)⟩
    · intro i y o hi h0
      rcases Nat.lt_or_ge i cm.length with hl | hl
      · rw [List.getElem?_append_left hl] at hi
        obtain ⟨n, b, e, m, j, hj, hk⟩ := h.from' i y o hi h0
        exact ⟨n, b, e, m, j, hj, by rw [keysC_app]; exact get_app hk⟩
      · rw [List.getElem?_append_right hl] at hi
        have hi0 : i - cm.length = 0 := by
          have := (List.getElem?_eq_some_iff.mp hi).1
          simp at this; omega
        rw [hi0] at hi
        cases hi
        obtain ⟨j, hj⟩ := List.mem_iff_getElem?.mp ha
        refine ⟨s.1, a, rfl, hs, j, ?_, by rw [keysC_app]; exact get_app hj⟩
        have := (List.getElem?_eq_some_iff.mp hj).1
        rw [keysC_len] at this
        omega
theorem mem_keys_see {cm : Came} {a x : Str} {s : Int × Str} (h : x ∈ keysC cm) : x ∈ keysC (see cm a s) := by
  obtain ⟨r, e⟩ := see_pre cm a s
  rw [e, keysC_app]
  exact List.mem_append.mpr (.inl h)
theorem CmOk.seeAll {S : Steps} {one a : Str} : ∀ (ss : List (Int × Str)) {cm : Came} (h : CmOk S one cm) (hs : ∀ s ∈ ss, s ∈ S a) (ha : a ∈ keysC cm), CmOk S one (seeAll cm a ss)
  | [], _, h, _, _ => h
  | s :: ss, cm, h, hs, ha => CmOk.seeAll ss (h.see (hs s (List.mem_cons_self ..)) ha) (fun t ht => hs t (List.mem_cons_of_mem _ ht)) (mem_keys_see ha)
theorem seeAll_has {a : Str} : ∀ (ss : List (Int × Str)) {cm : Came}, ∀ s ∈ ss, s.2 ∈ keysC (seeAll cm a ss)
  | [], _, s, hs => by simp at hs
  | t :: ss, cm, s, hs => by
    show s.2 ∈ keysC (seeAll (see cm a t) a ss)
    rcases List.mem_cons.mp hs with rfl | hs
    · obtain ⟨r, e⟩ := seeAll_pre a ss (see cm a s)
      rw [e, keysC_app]
      refine List.mem_append.mpr (.inl ?_)
      unfold see
      split
      · assumption
      · rw [keysC_app]; simp [keysC]
    · exact seeAll_has ss s hs
theorem Done.step {S : Steps} {cm : Came} {d : Nat} {a : Str} {o : Option (Int × Str)} (h : Done S cm d) (hd : cm[d]? = some (a, o)) : Done S (seeAll cm a (S a)) (d + 1) := by
  obtain ⟨r, e⟩ := seeAll_pre a (S a) cm
  intro i b hi hb s hs
  have hdl := (List.getElem?_eq_some_iff.mp hd).1
  have hb2 : (keysC cm)[i]? = some b := by
    rw [e, keysC_app, List.getElem?_append_left (by rw [keysC_len]; omega)] at hb
    exact hb
  rcases Nat.lt_or_ge i d with hl | hl
  · rw [e, keysC_app]
    exact List.mem_append.mpr (.inl (h i b hl hb2 s hs))
  · have : i = d := by omega
    subst this
    rw [keysC_get hd] at hb2
    cases hb2
    exact seeAll_has _ s hs
/-- the loop's end: all points come to are points of ps -/
theorem CmOk.keys_in {S : Steps} {one : Str} {cm : Came} {ps : List Str} (h : CmOk S one cm) (h1 : one ∈ ps) (hS : ∀ a ∈ ps, ∀ s ∈ S a, s.2 ∈ ps) : ∀ y ∈ keysC cm, y ∈ ps := by
  have : ∀ (i : Nat) y, (keysC cm)[i]? = some y → y ∈ ps := by
    intro i
    induction i using Nat.strongRecOn with
    | _ i ih =>
      intro y hy
      have hi := (List.getElem?_eq_some_iff.mp hy).1
      rw [keysC_len] at hi
      obtain ⟨⟨z, o⟩, e⟩ : ∃ p, cm[i]? = some p := ⟨_, List.getElem?_eq_getElem hi⟩
      have e2 := keysC_get e
      rw [hy] at e2
      cases e2
      rcases Nat.eq_zero_or_pos i with rfl | h0
      · rw [h.hd] at e
        cases e; exact h1
      · obtain ⟨n, a, _, m, j, hj, hk⟩ := h.from' i y o e h0
        exact hS a (ih j hj a hk) _ m
  intro y hy
  obtain ⟨i, hi⟩ := List.mem_iff_getElem?.mp hy
  exact this i y hi
theorem nodup_len {α : Type} [DecidableEq α] : ∀ {a b : List α}, a.Nodup → (∀ x ∈ a, x ∈ b) → a.length ≤ b.length
  | [], _, _, _ => Nat.zero_le _
  | x :: r, b, h, hb => by
    obtain ⟨h1, h2⟩ := List.nodup_cons.mp h
    have hx := hb x (List.mem_cons_self ..)
    have := nodup_len (a := r) (b := b.erase x) h2 (fun y hy => (List.mem_erase_of_ne (fun e => h1 (by rw [← e]; exact hy))).mpr (hb y (List.mem_cons_of_mem _ hy)))
    rw [List.length_erase_of_mem hx] at this
    have : 0 < b.length := List.length_pos_of_mem hx
    simp only [List.length_cons]
    omega
/-- a came that is at its end -/
structure CmEnd (S : Steps) (one : Str) (cm : Came) : Prop extends CmOk S one cm where
  cl : ∀ a ∈ keysC cm, ∀ s ∈ S a, s.2 ∈ keysC cm
theorem CmOk.toEnd {S : Steps} {one : Str} {cm : Came} {d : Nat} (h : CmOk S one cm) (hd : Done S cm d) (hl : cm.length ≤ d) : CmEnd S one cm where
  nd := h.nd
  hd := h.hd
  from' := h.from'
  cl := fun a ha s hs => by
    obtain ⟨i, hi⟩ := List.mem_iff_getElem?.mp ha
    have hlt := (List.getElem?_eq_some_iff.mp hi).1
    rw [keysC_len] at hlt
    exact hd i a (Nat.lt_of_lt_of_le hlt hl) hi s hs
theorem cmOk_one (S : Steps) (one : Str) : CmOk S one [(one, none)] where
  nd := by simp [keysC]
  hd := rfl
  from' := fun i y o hi h0 => by
    have := (List.getElem?_eq_some_iff.mp hi).1
    simp at this; omega
theorem done_zero (S : Steps) (cm : Came) : Done S cm 0 := fun i a hi => by omega
theorem bfs_end {S : Steps} {one : Str} {ps : List Str} (hp : ps.length ≤ 16) (h1 : one ∈ ps) (hS : ∀ a ∈ ps, ∀ s ∈ S a, s.2 ∈ ps) :
    ∀ (f : Nat) (cm : Came) (d : Nat), CmOk S one cm → Done S cm d → d + f = 17 → CmEnd S one (bfs S f cm d)
  | 0, cm, d, h, hd, e => h.toEnd hd (by
      have := nodup_len h.nd (h.keys_in h1 hS)
      rw [keysC_len] at this
      omega)
  | f + 1, cm, d, h, hd, e => by
    unfold bfs
    cases q : cm[d]? with
    | none => exact h.toEnd hd (List.getElem?_eq_none_iff.mp q)
    | some p =>
      obtain ⟨a, o⟩ := p
      exact bfs_end hp h1 hS f _ _ (h.seeAll _ (fun _ hs => hs) (List.mem_of_getElem? (keysC_get q))) (hd.step q) (by omega)
theorem came_end {S : Steps} {one : Str} {ps : List Str} (hp : ps.length ≤ 16) (h1 : one ∈ ps) (hS : ∀ a ∈ ps, ∀ s ∈ S a, s.2 ∈ ps) : CmEnd S one (came S one) :=
  bfs_end hp h1 hS 17 _ _ (cmOk_one S one) (done_zero _ _) rfl
theorem bfs_step {S : Steps} {f : Nat} {cm : Came} {d : Nat} {a : Str} {o : Option (Int × Str)} (h : cm[d]? = some (a, o)) : bfs S (f + 1) cm d = bfs S f (seeAll cm a (S a)) (d + 1) := by
  show (match cm[d]? with
    | none => cm
    | some p => bfs S f (seeAll cm p.1 (S p.1)) (d + 1)) = _
  rw [h]
theorem bfs_stop {S : Steps} {f : Nat} {cm : Came} {d : Nat} (h : cm.length ≤ d) : bfs S f cm d = cm := by
  cases f with
  | zero => rfl
  | succ f =>
    show (match cm[d]? with
      | none => cm
      | some p => bfs S f (seeAll cm p.1 (S p.1)) (d + 1)) = _
    rw [List.getElem?_eq_none_iff.mpr h]
/-- steps that are alike at all points of ps -/
theorem bfs_congr {S S' : Steps} {ps : List Str} (hS : ∀ a ∈ ps, ∀ s ∈ S a, s.2 ∈ ps) (he : ∀ a ∈ ps, S' a = S a) : ∀ (f : Nat) (cm : Came) (d : Nat), (∀ y ∈ keysC cm, y ∈ ps) → bfs S' f cm d = bfs S f cm d
  | 0, _, _, _ => rfl
  | f + 1, cm, d, h => by
    cases q : cm[d]? with
    | none => rw [bfs_stop (List.getElem?_eq_none_iff.mp q), bfs_stop (List.getElem?_eq_none_iff.mp q)]
    | some p =>
      obtain ⟨a, o⟩ := p
      have ha := h a (List.mem_of_getElem? (keysC_get q))
      rw [bfs_step q, bfs_step q, he a ha]
      refine bfs_congr hS he f _ _ ?_
      have : ∀ (ss : List (Int × Str)) (cm : Came), (∀ y ∈ keysC cm, y ∈ ps) → (∀ s ∈ ss, s.2 ∈ ps) → ∀ y ∈ keysC (seeAll cm a ss), y ∈ ps := by
        intro ss
        induction ss with
        | nil => intro cm h _; exact h
        | cons s ss ih =>
          intro cm h hs
          refine ih (see cm a s) ?_ (fun t ht => hs t (List.mem_cons_of_mem _ ht))
          unfold see
          split
          · exact h
          · intro y hy
            rw [keysC_app] at hy
            rcases List.mem_append.mp hy with hy | hy
            · exact h y hy
            · simp [keysC] at hy
              rw [hy]; exact hs s (List.mem_cons_self ..)
      exact this _ _ h (hS a ha)
theorem came_congr {S S' : Steps} {ps : List Str} {one : Str} (h1 : one ∈ ps) (hS : ∀ a ∈ ps, ∀ s ∈ S a, s.2 ∈ ps) (he : ∀ a ∈ ps, S' a = S a) : came S' one = came S one :=
  bfs_congr hS he _ _ _ (fun y hy => by simp [keysC] at hy; rw [hy]; exact h1)
/-! ### the way back -/
def look (cm : Came) (y : Str) : Option (Option (Int × Str)) := (cm.find? fun p => decide (p.1 = y)).map (·.2)
def back (cm : Came) : Nat → Str → List Int
  | 0, _ => []
  | f + 1, y => match look cm y with
    | some (some p) => p.1 :: back cm f p.2
    | _ => []
theorem look_at {cm : Came} (h : (keysC cm).Nodup) {i : Nat} {y : Str} {o : Option (Int × Str)} (e : cm[i]? = some (y, o)) : look cm y = some o := by
  unfold look
  induction cm generalizing i with
  | nil => simp at e
  | cons p r ih =>
    obtain ⟨h1, h2⟩ := List.nodup_cons.mp h
    rw [List.find?_cons]
    cases i with
    | zero =>
      cases e
      simp
    | succ i =>
      have e' : r[i]? = some (y, o) := e
      have hy : p.1 ≠ y := fun q => h1 (List.mem_map.mpr ⟨_, List.mem_of_getElem? e', q.symm⟩)
      rw [decide_eq_false hy]
      exact ih h2 e'
theorem look_none {cm : Came} {y : Str} (h : y ∉ keysC cm) : look cm y = none := by
  unfold look
  rw [List.find?_eq_none.mpr (fun p hp => by
    simp only [decide_eq_true_eq]
    intro e
    exact h (List.mem_map.mpr ⟨p, hp, e⟩))]
  rfl
/-- the points that a way leads by -/
inductive Leads (S : Steps) : Str → List Int → List Str → Str → Prop where
  | here (x : Str) : Leads S x [] [x] x
  | snoc {x a y : Str} {ns : List Int} {ps : List Str} {n : Int} (h : Leads S x ns ps a) (s : (n, y) ∈ S a) : Leads S x (ns ++ [n]) (ps ++ [y]) y
theorem CmOk.back {S : Steps} {one : Str} {cm : Came} (h : CmOk S one cm) : ∀ (i : Nat) (y : Str) (f : Nat), (keysC cm)[i]? = some y → i < f →
    (WB.back cm f y).length ≤ i ∧ ∃ ps, Leads S one (WB.back cm f y).reverse ps y ∧ ps.Nodup ∧ ∀ z ∈ ps, ∃ j, j ≤ i ∧ (keysC cm)[j]? = some z := by
  intro i
  induction i using Nat.strongRecOn with
  | _ i ih =>
    intro y f hy hf
    have hi := (List.getElem?_eq_some_iff.mp hy).1
    rw [keysC_len] at hi
    obtain ⟨⟨z, o⟩, e⟩ : ∃ p, cm[i]? = some p := ⟨_, List.getElem?_eq_getElem hi⟩
    have e2 := keysC_get e
    rw [hy] at e2
    cases e2
    obtain ⟨f, rfl⟩ : ∃ g, f = g + 1 := ⟨f - 1, by omega⟩
    have hl := look_at h.nd e
    rcases Nat.eq_zero_or_pos i with rfl | h0
    · rw [h.hd] at e
      cases e
      have eb : WB.back cm (f + 1) one = [] := by
        show (match look cm one with
          | some (some p) => p.1 :: WB.back cm f p.2
          | _ => []) = _
        rw [hl]
      rw [eb]
      exact ⟨Nat.le_refl _, [one], .here _, by simp, fun z hz => ⟨0, Nat.le_refl _, by simp at hz; rw [hz]; exact hy⟩⟩
    · obtain ⟨n, a, rfl, m, j, hj, hk⟩ := h.from' i y o e h0
      have eb : WB.back cm (f + 1) y = n :: WB.back cm f a := by
        show (match look cm y with
          | some (some p) => p.1 :: WB.back cm f p.2
          | _ => []) = _
        rw [hl]
      obtain ⟨h1, ps, h2, h3, h4⟩ := ih j hj a f hk (by omega)
      rw [eb, List.reverse_cons]
      refine ⟨by simp only [List.length_cons]; omega, ps ++ [y], .snoc h2 m, ?_, ?_⟩
      · refine List.nodup_append.mpr ⟨h3, by simp, fun z hz w hw e3 => ?_⟩
        simp at hw
        obtain ⟨k, hk1, hk2⟩ := h4 z hz
        rw [e3, hw] at hk2
        have : k < (keysC cm).length := (List.getElem?_eq_some_iff.mp hk2).1
        have := (List.getElem_inj h.nd (h₀ := this) (h₁ := by rw [keysC_len]; omega)).mp ((List.getElem?_eq_some_iff.mp hk2).2.trans (List.getElem?_eq_some_iff.mp hy).2.symm)
        omega
      · intro z hz
        rcases List.mem_append.mp hz with hz | hz
        · obtain ⟨k, hk1, hk2⟩ := h4 z hz
          exact ⟨k, by omega, hk2⟩
        · simp at hz
          exact ⟨i, Nat.le_refl _, by rw [hz]; exact hy⟩
/-! ### what is come to -/
inductive Rch (S : Steps) (one : Str) : Str → Prop where
  | here : Rch S one one
  | step {a y : Str} {n : Int} (h : Rch S one a) (s : (n, y) ∈ S a) : Rch S one y
theorem CmEnd.keys_iff {S : Steps} {one : Str} {cm : Came} (h : CmEnd S one cm) {y : Str} : y ∈ keysC cm ↔ Rch S one y := by
  constructor
  · have : ∀ (i : Nat) y, (keysC cm)[i]? = some y → Rch S one y := by
      intro i
      induction i using Nat.strongRecOn with
      | _ i ih =>
        intro y hy
        have hi := (List.getElem?_eq_some_iff.mp hy).1
        rw [keysC_len] at hi
        obtain ⟨⟨z, o⟩, e⟩ : ∃ p, cm[i]? = some p := ⟨_, List.getElem?_eq_getElem hi⟩
        have e2 := keysC_get e
        rw [hy] at e2
        cases e2
        rcases Nat.eq_zero_or_pos i with rfl | h0
        · rw [h.hd] at e
          cases e; exact .here
        · obtain ⟨n, a, _, m, j, hj, hk⟩ := h.from' i y o e h0
          exact .step (ih j hj a hk) m
    intro hy
    obtain ⟨i, hi⟩ := List.mem_iff_getElem?.mp hy
    exact this i y hi
  · intro r
    induction r with
    | here => exact List.mem_of_getElem? (keysC_get h.hd)
    | step _ s ih => exact h.cl _ ih _ s
/-- a list that is closed, too, and whose points are all come to, holds the same -/
theorem Rch.of_closed {S : Steps} {one : Str} {fs : List Str} (h1 : one ∈ fs) (cl : ∀ a ∈ fs, ∀ s ∈ S a, s.2 ∈ fs) {y : Str} (r : Rch S one y) : y ∈ fs := by
  induction r with
  | here => exact h1
  | step _ s ih => exact cl _ ih _ s
theorem free_mem {ts : Ts} {x y : Str} {n : Int} : (n, y) ∈ freeS ts x ↔ ∃ u, (n, u) ∈ ts ∧ ((u.t = x ∧ u.h = y) ∨ (u.o = false ∧ u.h = x ∧ u.t = y)) := by
  unfold freeS freeOne
  rw [List.mem_flatMap]
  constructor
  · rintro ⟨⟨m, u⟩, hm, h⟩
    rcases List.mem_append.mp h with h | h
    · split at h
      · rename_i c
        simp at h
        obtain ⟨rfl, rfl⟩ := h
        exact ⟨u, hm, .inl ⟨c, rfl⟩⟩
      · simp at h
    · split at h
      · rename_i c
        simp at h
        obtain ⟨rfl, rfl⟩ := h
        exact ⟨u, hm, .inr ⟨c.1, c.2, rfl⟩⟩
      · simp at h
  · rintro ⟨u, hu, h⟩
    refine ⟨(n, u), hu, List.mem_append.mpr ?_⟩
    rcases h with ⟨h1, h2⟩ | ⟨h1, h2, h3⟩
    · left; simp [h1, h2]
    · right; simp [h1, h2, h3]
theorem free_in {w : Wb} (h : Wok w) : ∀ a ∈ w.ps, ∀ s ∈ freeS w.ts a, s.2 ∈ w.ps := by
  rintro a _ ⟨n, y⟩ hs
  obtain ⟨u, hu, c⟩ := free_mem.mp hs
  have o := h.ok n u hu
  rcases c with ⟨_, rfl⟩ | ⟨_, _, rfl⟩
  · exact o.h
  · exact o.t
end WB

set_option Elab.async false
set_option linter.all false
set_option maxRecDepth 100000
set_option maxHeartbeats 2000000
namespace L2
theorem Same.new {H : Hp} {p : PySem.Addr} {o : HO} (h : H p = none) : Same H (upd H p o) := fun a u e => by
  rw [upd_ne (ne_of_none e h)]
  exact e
theorem Same.mut {H H' : Hp} {p : PySem.Addr} {o : HO} (e : Same H H') (h : H p = none) : Same H (upd H' p o) := fun a u ha => by
  rw [upd_ne (ne_of_none ha h)]
  exact e a u ha
end L2
/-! KH: webs in the heap. -/
namespace WB
open PySem PySem.Spec PyProof.Rows L2 HX
def tieFs (n : Int) (t : Ti) : List (Str × V) := [("number", .int n), ("tail", .str t.t), ("head", .str t.h), ("load", .int t.c), ("is_oneway", .bl t.o)]
def TieAt (K : PySem.W.Frag) (H : Hp) (n : Int) (t : Ti) (a : Addr) : Prop := ∃ dx, H a = some (.ins (He.ga K "Tie") dx (tieFs n t))
def webFs (l d : Addr) (g : Int) : List (Str × V) := [("_points", .ref l), ("_ties", .ref d), ("_given", .int g)]
structure WebAt (K : PySem.W.Frag) (H : Hp) (p l d : Addr) (w : Wb) : Prop where
  self : ∃ dx, H p = some (.ins (He.ga K "Web") dx (webFs l d w.g))
  pts : H l = some (.lst (w.ps.map V.str))
  ties : ∃ kvs, H d = some (.dK kvs) ∧ DP (TieAt K H) kvs w.ts
/-- all else stays -/
def Keep (H H' : Hp) (p l d : Addr) : Prop := ∀ b o, b ≠ p → b ≠ l → b ≠ d → H b = some o → H' b = some o
section
variable {K : PySem.W.Frag} {H H' : Hp} {p l d a b : Addr} {w : Wb} {n : Int} {t : Ti} {o : HO} {ts : Ts} {kvs : List (Key × V)}
theorem Keep.rfl : Keep H H p l d := fun _ _ _ _ _ e => e
theorem Keep.of (s : Same H H') : Keep H H' p l d := fun b o _ _ _ e => s b o e
theorem Keep.trans {H2 : Hp} {d2 : Addr} (k : Keep H H' p l d) (k2 : Keep H' H2 p l d2) (hd : d2 = d ∨ H d2 = none) : Keep H H2 p l d := fun b o h1 h2 h3 e => by
  refine k2 b o h1 h2 ?_ (k b o h1 h2 h3 e)
  rintro rfl
  rcases hd with e2 | e2
  · exact h3 e2
  · rw [e2] at e; cases e
theorem TieAt.same (h : TieAt K H n t a) (s : Same H H') : TieAt K H' n t a := by
  obtain ⟨dx, e⟩ := h
  exact ⟨dx, s _ _ e⟩
theorem TieAt.ne (h : TieAt K H n t a) (e : H b = some o) (c : ∀ C dx n t, o ≠ .ins C dx (tieFs n t)) : a ≠ b := by
  rintro rfl
  obtain ⟨dx, e2⟩ := h
  exact c _ _ _ _ (Option.some.inj (e.symm.trans e2))
theorem webFs_ne {C dx C2 dx2 : Addr} {g : Int} : HO.ins C dx (webFs l d g) ≠ .ins C2 dx2 (tieFs n t) := by
  intro e
  have e1 := (HO.ins.inj e).2.2
  have e2 := (Prod.mk.inj (List.cons.inj e1).1).1
  exact absurd e2 (by decide +kernel)
theorem TieAt.other (h : TieAt K H n t a) (hb : a ≠ b) : TieAt K (upd H b o) n t a := by
  obtain ⟨dx, e⟩ := h
  exact ⟨dx, (upd_ne hb).trans e⟩
theorem TieAt.new (h : TieAt K H n t a) (hb : H b = none) : TieAt K (upd H b o) n t a := by
  obtain ⟨dx, e⟩ := h
  exact ⟨dx, (upd_ne (ne_of_none e hb)).trans e⟩
theorem WebAt.ne_pl (h : WebAt K H p l d w) : p ≠ l := by
  rintro rfl
  obtain ⟨dx, e⟩ := h.self
  have e2 := h.pts
  rw [e] at e2; cases e2
theorem WebAt.ne_pd (h : WebAt K H p l d w) : p ≠ d := by
  rintro rfl
  obtain ⟨dx, e⟩ := h.self
  obtain ⟨kvs, e2, _⟩ := h.ties
  rw [e] at e2; cases e2
theorem WebAt.ne_ld (h : WebAt K H p l d w) : l ≠ d := by
  rintro rfl
  have e := h.pts
  obtain ⟨kvs, e2, _⟩ := h.ties
  rw [e] at e2; cases e2
theorem WebAt.tie_ne (h : WebAt K H p l d w) (ta : TieAt K H n t a) : a ≠ p ∧ a ≠ l ∧ a ≠ d := by
  obtain ⟨dx, e1⟩ := h.self
  obtain ⟨kvs, e3, _⟩ := h.ties
  exact ⟨ta.ne e1 (fun _ _ _ _ => webFs_ne), ta.ne h.pts (fun _ _ _ _ => by simp), ta.ne e3 (fun _ _ _ _ => by simp)⟩
theorem WebAt.tie_keep (h : WebAt K H p l d w) (k : Keep H H' p l d) (ta : TieAt K H n t a) : TieAt K H' n t a := by
  obtain ⟨n1, n2, n3⟩ := h.tie_ne ta
  obtain ⟨dx, e⟩ := ta
  exact ⟨dx, k _ _ n1 n2 n3 e⟩
theorem WebAt.same (h : WebAt K H p l d w) (s : Same H H') : WebAt K H' p l d w where
  self := by
    obtain ⟨dx, e⟩ := h.self
    exact ⟨dx, s _ _ e⟩
  pts := s _ _ h.pts
  ties := by
    obtain ⟨kvs, e, c⟩ := h.ties
    exact ⟨kvs, s _ _ e, c.mono fun _ _ _ r => r.same s⟩
/-- another web that stands beside -/
theorem WebAt.beside {p2 l2 d2 : Addr} {w2 : Wb} (h : WebAt K H p l d w) (k : Keep H H' p2 l2 d2) (g : WebAt K H p2 l2 d2 w2) (c1 : p ≠ p2) (c2 : l ≠ l2) (c3 : d ≠ d2) : WebAt K H' p l d w where
  self := by
    obtain ⟨dx, e⟩ := h.self
    refine ⟨dx, k _ _ c1 ?_ ?_ e⟩
    · rintro rfl
      have e2 := g.pts
      rw [e] at e2; cases e2
    · rintro rfl
      obtain ⟨_, e2, _⟩ := g.ties
      rw [e] at e2; cases e2
  pts := by
    have e := h.pts
    refine k _ _ ?_ c2 ?_ e
    · rintro rfl
      obtain ⟨_, e2⟩ := g.self
      rw [e] at e2; cases e2
    · rintro rfl
      obtain ⟨_, e2, _⟩ := g.ties
      rw [e] at e2; cases e2
  ties := by
    obtain ⟨kvs, e, c⟩ := h.ties
    refine ⟨kvs, k _ _ ?_ ?_ c3 e, c.mono fun _ _ _ r => g.tie_keep k r⟩
    · rintro rfl
      obtain ⟨_, e2⟩ := g.self
      rw [e] at e2; cases e2
    · rintro rfl
      have e2 := g.pts
      rw [e] at e2; cases e2
end
end WB
namespace WB
open PySem PySem.Spec PyProof.Rows L2 HX
section
variable {n : Int} {t : Ti} {l d l' d' : Addr} {g g' : Int}
theorem lk_number : (tieFs n t).lookup ("number" : Str) = some (.int n) := rfl
theorem lk_tail : (tieFs n t).lookup ("tail" : Str) = some (.str t.t) := rfl
theorem lk_head : (tieFs n t).lookup ("head" : Str) = some (.str t.h) := rfl
theorem lk_load : (tieFs n t).lookup ("load" : Str) = some (.int t.c) := rfl
theorem lk_oneway : (tieFs n t).lookup ("is_oneway" : Str) = some (.bl t.o) := rfl
theorem lk_points : (webFs l d g).lookup ("_points" : Str) = some (.ref l) := rfl
theorem lk_ties : (webFs l d g).lookup ("_ties" : Str) = some (.ref d) := rfl
theorem lk_given : (webFs l d g).lookup ("_given" : Str) = some (.int g) := rfl
theorem pf_points : putF "_points" (.ref l') (webFs l d g) = webFs l' d g := rfl
theorem pf_ties : putF "_ties" (.ref d') (webFs l d g) = webFs l d' g := rfl
theorem pf_given : putF "_given" (.int g') (webFs l d g) = webFs l d g' := rfl
theorem pf_tie {x y : Str} {c : Int} {o : Bool} : putF "is_oneway" (.bl o) (putF "load" (.int c) (putF "head" (.str y) (putF "tail" (.str x) (putF "number" (.int n) [])))) = tieFs n ⟨x, y, c, o⟩ := rfl
theorem pf_web : putF "_given" (.int g) (putF "_ties" (.ref d) (putF "_points" (.ref l) [])) = webFs l d g := rfl
end
end WB

/-! ### changes of a web -/
namespace WB
open PySem PySem.Spec PyProof.Rows L2 HX
section
variable {K : PySem.W.Frag} {H H' : Hp} {p l d d2 dx a : Addr} {w : Wb} {ts : Ts} {kvs : List (Key × V)} {g : Int} {ps : List Str}
theorem WebAt.setPts (h : WebAt K H p l d w) (s : Same H H') : WebAt K (upd H' l (.lst (ps.map V.str))) p l d { w with ps := ps } ∧ Keep H (upd H' l (.lst (ps.map V.str))) p l d := by
  have h2 := h.same s
  obtain ⟨dx, e1⟩ := h2.self
  obtain ⟨kvs, e3, c⟩ := h2.ties
  exact ⟨⟨⟨dx, (upd_ne h2.ne_pl).trans e1⟩, upd_same, ⟨kvs, (upd_ne h2.ne_ld.symm).trans e3, c.mono fun _ _ _ r => r.other (h2.tie_ne r).2.1⟩⟩,
    fun b o _ n _ e => (upd_ne n).trans (s _ _ e)⟩
theorem WebAt.setTies (h : WebAt K H p l d w) (s : Same H H') (c : DP (TieAt K H') kvs ts) : WebAt K (upd H' d (.dK kvs)) p l d { w with ts := ts } ∧ Keep H (upd H' d (.dK kvs)) p l d := by
  have h2 := h.same s
  obtain ⟨dx, e1⟩ := h2.self
  exact ⟨⟨⟨dx, (upd_ne h2.ne_pd).trans e1⟩, (upd_ne h2.ne_ld).trans h2.pts, ⟨kvs, upd_same, c.mono fun _ _ _ r => r.other (h2.tie_ne r).2.2⟩⟩,
    fun b o _ _ n e => (upd_ne n).trans (s _ _ e)⟩
theorem WebAt.swapTies (h : WebAt K H p l d w) (s : Same H H') (e : H' d2 = some (.dK kvs)) (c : DP (TieAt K H') kvs ts) : WebAt K (upd H' p (.ins (He.ga K "Web") dx (webFs l d2 w.g))) p l d2 { w with ts := ts } ∧ Keep H (upd H' p (.ins (He.ga K "Web") dx (webFs l d2 w.g))) p l d := by
  have h2 := h.same s
  obtain ⟨dy, e1⟩ := h2.self
  have n2 : d2 ≠ p := by
    rintro rfl
    rw [e1] at e; cases e
  exact ⟨⟨⟨dx, upd_same⟩, (upd_ne h2.ne_pl.symm).trans h2.pts, ⟨kvs, (upd_ne n2).trans e, c.mono fun _ _ _ r => r.other (h2.tie_ne r).1⟩⟩,
    fun b o n _ _ e => (upd_ne n).trans (s _ _ e)⟩
theorem WebAt.setGiven (h : WebAt K H p l d w) (s : Same H H') : WebAt K (upd H' p (.ins (He.ga K "Web") dx (webFs l d g))) p l d { w with g := g } ∧ Keep H (upd H' p (.ins (He.ga K "Web") dx (webFs l d g))) p l d := by
  have h2 := h.same s
  obtain ⟨kvs, e3, c⟩ := h2.ties
  exact ⟨⟨⟨dx, upd_same⟩, (upd_ne h2.ne_pl.symm).trans h2.pts, ⟨kvs, (upd_ne h2.ne_pd.symm).trans e3, c.mono fun _ _ _ r => r.other (h2.tie_ne r).1⟩⟩,
    fun b o n _ _ e => (upd_ne n).trans (s _ _ e)⟩
/-- behind a lock -/
theorem lock_same {u : HO} {o : Obj} (h : H d = some u) (s : Same (upd H d (.frz o u)) H') : H' d = some (.frz o u) ∧ Same H (upd H' d u) := by
  refine ⟨s _ _ upd_same, fun b v e => ?_⟩
  by_cases n : b = d
  · subst n
    rw [upd_same, ← h, e]
  · rw [upd_ne n]
    exact s _ _ ((upd_ne n).trans e)
theorem TieAt.unlock {u : HO} {o : Obj} {n : Int} {t : Ti} (h : TieAt K H' n t a) (e : H' d = some (.frz o u)) : TieAt K (upd H' d u) n t a := h.other (h.ne e (fun _ _ _ _ => by simp))
theorem TieAt.locked {u : HO} {o : Obj} {n : Int} {t : Ti} (h : TieAt K H n t a) (e : H d = some (.dK kvs)) : TieAt K (upd H d (.frz o u)) n t a := h.other (h.ne e (fun _ _ _ _ => by simp))
theorem inV_str {x : Str} {ys : List Str} : inV (.str x) (ys.map V.str) = decide (x ∈ ys) := by
  unfold inV
  induction ys with
  | nil => simp
  | cons y r ih =>
    rw [List.map_cons, List.any_cons, ih]
    have e : eqV (.str y) (.str x) = decide (x = y) := by
      by_cases c : x = y
      · subst c; simp [eqV]
      · have c2 : ¬ y = x := fun e => c e.symm
        simp [eqV, c, c2]
    rw [e, ← Bool.decide_or]
    exact decide_eq_decide.mpr (by simp)
theorem flat_strs {ys : List Str} : (ys.map V.str).all flatV = true := by
  rw [List.all_map, List.all_eq_true]
  intro _ _; rfl
end
end WB
namespace WB
open PySem PySem.Spec PyProof.Rows L2 HX
section
variable {K : PySem.W.Frag} {H : Hp} {Q : VK} {l : Addr} {ys : List Str} {x : Str}
theorem idx_get {ys : List Str} {x : Str} (h : x ∈ ys) : ys[ys.idxOf x]? = some x := by
  have hl : ys.idxOf x < ys.length := List.idxOf_lt_length_iff.mpr h
  rw [List.getElem?_eq_getElem hl, List.getElem_idxOf hl]
theorem idx_before {x : Str} : ∀ {ys : List Str} {m : Nat}, m < ys.idxOf x → ys[m]? ≠ some x
  | [], m, h => by simp
  | y :: r, m, h => by
    rw [List.idxOf_cons] at h
    by_cases e : y = x
    · subst e; simp at h
    · have eb : (y == x) = false := by simpa using e
      rw [eb] at h
      simp only [cond_false] at h
      cases m with
      | zero => simpa using e
      | succ k => exact idx_before (ys := r) (by omega)
theorem i_remS (h : H l = some (.lst (ys.map V.str))) (m : x ∈ ys) (q : Q .non (upd H l (.lst ((ys.erase x).map V.str)))) : rRemS (.ref l) [.str x] H Q :=
  ⟨l, ys, x, ys.idxOf x, rfl, rfl, h, idx_get m, fun _ hm => idx_before hm, by rw [← List.erase_eq_eraseIdx_of_idxOf rfl]; exact q⟩
theorem i_indexS (h : SqL K H l (ys.map V.str)) (m : x ∈ ys) (q : Q (.int (ys.idxOf x : Nat)) H) : rIndex K (.ref l) [.str x] H Q := by
  refine ⟨l, ys.map V.str, .str x, ys.idxOf x, .str x, rfl, rfl, h, rfl, flat_strs, ?_, by simp [eqV], fun k z hk hz => ?_, q⟩
  · rw [List.getElem?_map, idx_get m]; rfl
  · rw [List.getElem?_map] at hz
    cases e : ys[k]? with
    | none => rw [e] at hz; cases hz
    | some y =>
      rw [e] at hz
      cases hz
      have hne : y ≠ x := fun c => idx_before hk (by rw [e, c])
      simpa [eqV] using hne
theorem i_inS {b : Bool} (h : SqL K H l (ys.map V.str)) (q : Q (.bl (if b = true then !decide (x ∈ ys) else decide (x ∈ ys))) H) : rIn K b (.str x) (.ref l) H Q :=
  i_rIn h rfl flat_strs (by rw [inV_str]; exact q)
theorem i_inT {b : Bool} (h : SqT K H l (ys.map V.str)) (q : Q (.bl (if b = true then !decide (x ∈ ys) else decide (x ∈ ys))) H) : rIn K b (.str x) (.ref l) H Q :=
  i_rInT h rfl flat_strs (by rw [inV_str]; exact q)
theorem nm_len {z : Str} (h : isNm z = true) : z.length ≤ 12 := by
  unfold isNm at h
  simp only [Bool.and_eq_true, decide_eq_true_eq] at h
  exact h.1.2
end
end WB
namespace WB
open PySem PySem.Spec PyProof.Rows L2 HX
theorem tput_map {ts : Ts} {n : Int} {t : Ti} (hs : Rise ts) (h : tget ts n = some t) (f : Ti → Ti) : tput ts n (f t) = ts.map fun x => if x.1 = n then (x.1, f x.2) else x := by
  rw [tput_eq h]
  apply List.map_congr_left
  rintro ⟨m, u⟩ hm
  by_cases e : m = n
  · subst e
    have := tget_of hs hm
    rw [h] at this
    cases this
    rfl
  · simp only [e, if_false]
/-- turning at the numbers of a list, one more -/
theorem part_step {ts : Ts} {ns : List Int} {n : Int} {t : Ti} {x y : Str} (hs : Rise ts) (h : tget ts n = some t) (hn : n ∉ ns) :
    tget (ts.map fun nt => if nt.1 ∈ ns then (nt.1, turn x y nt.2) else nt) n = some t ∧
    tput (ts.map fun nt => if nt.1 ∈ ns then (nt.1, turn x y nt.2) else nt) n (turn x y t) = ts.map fun nt => if nt.1 ∈ ns ++ [n] then (nt.1, turn x y nt.2) else nt := by
  have hr : Rise (ts.map fun nt => if nt.1 ∈ ns then (nt.1, turn x y nt.2) else nt) := rise_keys (by
    rw [List.map_map]
    apply List.map_congr_left
    intro z _
    show (if z.1 ∈ ns then (z.1, turn x y z.2) else z).1 = z.1
    split <;> rfl) hs
  have hm : (n, t) ∈ ts.map fun nt => if nt.1 ∈ ns then (nt.1, turn x y nt.2) else nt := List.mem_map.mpr ⟨(n, t), tget_mem h, by simp [hn]⟩
  have hg := tget_of hr hm
  refine ⟨hg, ?_⟩
  rw [tput_map hr hg, List.map_map]
  apply List.map_congr_left
  rintro ⟨m, u⟩ _
  show (fun x_1 : Int × Ti => if x_1.1 = n then (x_1.1, turn x y x_1.2) else x_1) (if m ∈ ns then (m, turn x y u) else (m, u)) = if m ∈ ns ++ [n] then (m, turn x y u) else (m, u)
  by_cases e : m = n
  · subst e
    simp [hn]
  · by_cases e2 : m ∈ ns <;> simp [e, e2]
/-- a dict that is built up by rising numbers -/
theorem put_new {R : Int → Ti → Addr → Prop} {kvs : List (Key × V)} {ts : Ts} {n : Int} {t : Ti} {a : Addr} (h : DP R kvs ts) (r : R n t a) (hn : ∀ x ∈ ts, x.1 ≠ n) : DP R (putK kvs (Sum.inl n) (.ref a)) (ts ++ [(n, t)]) := by
  have := h.put r
  rwa [tput_new hn] at this
theorem rise_take {ts : Ts} {m : Nat} {n : Int} {t : Ti} (hs : Rise ts) (h : ts[m]? = some (n, t)) : ∀ x ∈ ts.take m, x.1 ≠ n := by
  intro x hx
  obtain ⟨i, hi⟩ := List.mem_iff_getElem?.mp hx
  rw [List.getElem?_take] at hi
  split at hi
  · rename_i hlt
    obtain ⟨h1, h2⟩ := List.getElem?_eq_some_iff.mp hi
    obtain ⟨h3, h4⟩ := List.getElem?_eq_some_iff.mp h
    have := List.pairwise_iff_getElem.mp hs i m h1 h3 hlt
    rw [h2, h4] at this
    simp at this
    omega
  · cases hi
theorem take_map {ts : Ts} {m : Nat} {x : Int × Ti} {f : Int × Ti → Int × Ti} (h : ts[m]? = some x) : (ts.take (m + 1)).map f = (ts.take m).map f ++ [f x] := by
  rw [List.take_add_one, h, List.map_append]
  rfl
theorem ixN_at {n j : Nat} (h : j < n) : ixN n (j : Int) = some j := by
  unfold ixN
  rw [if_pos (by omega), if_pos (by omega)]
  simp
end WB

set_option Elab.async false
set_option linter.all false
set_option maxRecDepth 100000
set_option maxHeartbeats 2000000
/-! K01m: texts and data, plain mathematics. -/
namespace TX
open PySem PySem.Spec PyProof.Rows L2 HX TL
/-! ### good texts -/
abbrev okS (z : Str) : Bool := PyData.strOk z
theorem okS_iff {z : Str} : okS z = true ↔ ∀ c ∈ tl z, c < 0x110000 := by
  unfold okS PyData.strOk
  rw [Array.all_eq_true']
  simp [tl]
theorem okS_app {x y : Str} (hx : okS x = true) (hy : okS y = true) : okS (x ++ y) = true := by
  rw [okS_iff] at *
  intro c hc
  rw [tl_append] at hc
  rcases List.mem_append.mp hc with h | h
  · exact hx c h
  · exact hy c h
theorem okS_one {c : Nat} (h : c < 0x110000) : okS ⟨#[c]⟩ = true := okS_iff.mpr fun d hd => by
  have : d = c := by simpa [tl] using hd
  omega
theorem okS_sign {z : Str} {c : Nat} (h : okS z = true) (hc : c ∈ z.cps.toList) : okS ⟨#[c]⟩ = true := okS_one (okS_iff.mp h c hc)
theorem mem_joinL {S : List Nat} : ∀ {ps : List (List Nat)} {p : List Nat} {c : Nat}, p ∈ ps → c ∈ p → c ∈ joinL S ps
  | [q], p, c, hp, hc => by
    rw [List.mem_singleton.mp hp] at hc
    exact hc
  | q :: q2 :: r, p, c, hp, hc => by
    show c ∈ q ++ (S ++ joinL S (q2 :: r))
    rcases List.mem_cons.mp hp with rfl | h
    · exact List.mem_append.mpr (.inl hc)
    · exact List.mem_append.mpr (.inr (List.mem_append.mpr (.inr (mem_joinL h hc))))
theorem of_joinL {S : List Nat} : ∀ {ps : List (List Nat)} {c : Nat}, c ∈ joinL S ps → c ∈ S ∨ ∃ p ∈ ps, c ∈ p
  | [], c, h => by simp [joinL] at h
  | [q], c, h => .inr ⟨q, by simp, h⟩
  | q :: q2 :: r, c, h => by
    rcases List.mem_append.mp (show c ∈ q ++ (S ++ joinL S (q2 :: r)) from h) with h | h
    · exact .inr ⟨q, by simp, h⟩
    · rcases List.mem_append.mp h with h | h
      · exact .inl h
      · rcases of_joinL h with h | ⟨p, hp, hc⟩
        · exact .inl h
        · exact .inr ⟨p, List.mem_cons_of_mem _ hp, hc⟩
theorem okS_split {x y z : Str} (h : okS x = true) (hz : z ∈ Txt.split x y) : okS z = true := by
  rw [okS_iff] at *
  intro c hc
  refine h c ?_
  rw [← StrLaws.join_split x y, tl_join]
  exact mem_joinL (List.mem_map.mpr ⟨z, hz, rfl⟩) hc
theorem okS_join {y : Str} {ys : List Str} (hy : okS y = true) (h : ∀ z ∈ ys, okS z = true) : okS (Txt.join y ys) = true := by
  rw [join_eq, okS_iff, tl_join]
  intro c hc
  rcases of_joinL hc with hc | ⟨p, hp, hc⟩
  · exact okS_iff.mp hy c hc
  · obtain ⟨z, hz, rfl⟩ := List.mem_map.mp hp
    exact okS_iff.mp (h z hz) c hc
theorem len_app (x y : Str) : (x ++ y).length = x.length + y.length := by
  rw [len_tl, tl_append, List.length_append, ← len_tl, ← len_tl]
theorem joinL_len_nil : ∀ ps : List (List Nat), (joinL [] ps).length = (ps.map List.length).sum
  | [] => rfl
  | [p] => by simp [joinL]
  | p :: q :: r => by
    show (p ++ ([] ++ joinL [] (q :: r))).length = _
    rw [List.length_append, List.nil_append, joinL_len_nil (q :: r)]
    simp
theorem joinL_nil : ∀ ps : List (List Nat), joinL [] ps = ps.flatten
  | [] => rfl
  | [p] => by simp [joinL]
  | p :: q :: r => by
    show p ++ ([] ++ joinL [] (q :: r)) = _
    rw [List.nil_append, joinL_nil (q :: r)]
    simp
theorem tl_empty : tl ("" : Str) = [] := by decide +kernel
theorem join_empty_len (ys : List Str) : (Txt.join "" ys).length = (ys.map (·.length)).sum := by
  rw [join_eq, len_tl, tl_join, tl_empty, joinL_len_nil, List.map_map]
  congr 1
theorem sum_le {ys : List Str} {k : Nat} (h : ∀ y ∈ ys, y.length ≤ k) : (ys.map (·.length)).sum ≤ ys.length * k := by
  induction ys with
  | nil => simp
  | cons y r ih =>
    rw [List.map_cons, List.sum_cons, List.length_cons]
    have h1 := h y (by simp)
    have h2 := ih fun z hz => h z (by simp [hz])
    rw [Nat.succ_mul]
    omega
/-! ### lists of texts as data -/
section
variable {K : PySem.W.Frag} {H : Hp} {Q : VK}
theorem dp_strs : ∀ ys : List Str, DpAll K H (ys.map V.str) (ys.map PyData.str)
  | [] => .nil
  | y :: r => .cons (.str y) (dp_strs r)
theorem depth_strs : ∀ ys : List Str, PyData.depthAll (ys.map PyData.str) = 0
  | [] => by simp [PyData.depthAll]
  | y :: r => by simp [PyData.depthAll, PyData.depth, depth_strs r]
theorem lay_strs : ∀ {ys : List Str}, (∀ y ∈ ys, okS y = true) → PyData.canLayAll0 (ys.map PyData.str) = true
  | [], _ => by simp [PyData.canLayAll0]
  | y :: r, h => by
    have h1 := h y (by simp)
    have h2 := lay_strs (ys := r) fun z hz => h z (by simp [hz])
    simp only [List.map_cons, PyData.canLayAll0, PyData.canLay0, h2, Bool.and_true]
    exact h1
theorem shaped_strs {ys : List Str} (h : ∀ y ∈ ys, okS y = true) : SeqAt.shaped (.list (ys.map PyData.str)) = true := by
  unfold SeqAt.shaped
  rw [PyData.canLay0, lay_strs h, PyData.depth, depth_strs]
  rfl
theorem eqvAll_nil : ∀ ys : List Str, PyData.eqv (.list (ys.map PyData.str)) (.list []) = ys.isEmpty
  | [] => by simp [PyData.eqv, PyData.eqvAll]
  | y :: r => by simp [PyData.eqv, PyData.eqvAll]
theorem eqv_same {ys : List Str} (h : ∀ y ∈ ys, okS y = true) : PyData.eqv (.list (ys.map PyData.str)) (.list (ys.map PyData.str)) = true :=
  SeqAt.eqv_refl _ (by rw [PyData.canLay0]; exact lay_strs h)
theorem i_eqNil {D p : Addr} {ys : List Str} (h : SqL K H D (ys.map V.str)) (h2 : SqL K H p []) (o : ∀ y ∈ ys, okS y = true) (q : Q (.bl ys.isEmpty) H) : rEqD K (.ref D) (.ref p) H Q :=
  ⟨_, _, .lst h (dp_strs ys), .lst h2 .nil, shaped_strs o, by decide +kernel, by rw [eqvAll_nil]; exact q⟩
theorem i_neNil {D p : Addr} {ys : List Str} (h : SqL K H D (ys.map V.str)) (h2 : SqL K H p []) (o : ∀ y ∈ ys, okS y = true) (q : Q (.bl (!ys.isEmpty)) H) : rNeD K (.ref D) (.ref p) H Q :=
  ⟨_, _, .lst h (dp_strs ys), .lst h2 .nil, shaped_strs o, by decide +kernel, by rw [eqvAll_nil]; exact q⟩
theorem i_neSame {D p : Addr} {ys : List Str} (h : SqL K H D (ys.map V.str)) (h2 : SqL K H p (ys.map V.str)) (o : ∀ y ∈ ys, okS y = true) (q : Q (.bl false) H) : rNeD K (.ref D) (.ref p) H Q :=
  ⟨_, _, .lst h (dp_strs ys), .lst h2 (dp_strs ys), shaped_strs o, shaped_strs o, by rw [eqv_same o]; exact q⟩
end
/-! ### the figures of a number, the last one first -/
def FigInv (n : Nat) (left : Nat) (fs : List Nat) : Prop :=
  (fs = [] ∧ left = n) ∨ (fs ≠ [] ∧ (0 < left → numL left ++ fs.reverse = numL n) ∧ (left = 0 → fs.reverse = numL n))
theorem FigInv.step {n left : Nat} {fs : List Nat} (h : FigInv n left fs) (c : 0 < left ∨ fs = []) : FigInv n (left / 10) (fs ++ [48 + left % 10]) := by
  refine .inr ⟨by simp, fun hp => ?_, fun hz => ?_⟩
  · have h10 : 10 ≤ left := by omega
    rw [List.reverse_append]
    rcases h with ⟨rfl, rfl⟩ | ⟨_, h1, _⟩
    · rw [numL_step h10]; simp
    · rw [← h1 (by omega), numL_step h10]; simp
  · have h10 : left < 10 := by omega
    rw [List.reverse_append]
    rcases h with ⟨rfl, rfl⟩ | ⟨hne, h1, _⟩
    · rw [numL_lt h10, Nat.mod_eq_of_lt h10]; simp
    · rw [← h1 (by rcases c with c | c; exact c; exact absurd c hne), numL_lt h10, Nat.mod_eq_of_lt h10]; simp
theorem FigInv.done {n : Nat} {fs : List Nat} (h : FigInv n 0 fs) (hne : fs ≠ []) : fs.reverse = numL n := by
  rcases h with ⟨e, _⟩ | ⟨_, _, h2⟩
  · exact absurd e hne
  · exact h2 rfl
def sgn (c : Nat) : Str := ⟨#[c]⟩
theorem flat_signs : ∀ fs : List Nat, ((fs.map sgn).map tl).flatten = fs
  | [] => rfl
  | c :: r => by
    rw [List.map_cons, List.map_cons, List.flatten_cons, flat_signs r]
    rfl
theorem join_signs (fs : List Nat) : tl (Txt.join "" ((fs.map sgn).reverse)) = fs.reverse := by
  rw [join_eq, tl_join, tl_empty, joinL_nil, ← List.map_reverse, flat_signs]
theorem numL_head {n : Nat} (h : (numL n).headD 0 = 48) : n = 0 := by
  induction n using Nat.strongRecOn with
  | _ n ih =>
    by_cases h10 : n < 10
    · rw [numL_lt h10] at h
      simp at h
      omega
    · rw [numL_step (by omega)] at h
      have e := ih (n / 10) (by omega) (by
        cases q : numL (n / 10) with
        | nil => exact absurd q (numL_ne _)
        | cons c r => rw [q] at h; exact h)
      omega
end TX

set_option Elab.async false
set_option linter.all false
set_option maxRecDepth 100000
set_option maxHeartbeats 2000000
/-! KL: lines that write a web, as plain data. -/
namespace WB
open PySem PySem.Spec PyProof.Rows L2 HX TX TL
/-! ### numbers as texts -/
/-- all signs of z are signs of s -/
def only (z s : Str) : Bool := z.cps.toList.all fun c => decide (c ∈ s.cps.toList)
abbrev digs : Str := "0123456789"
def fst1 (z : Str) : Str := ⟨#[z.cps.toList.headD 0]⟩
def numOk (z : Str) : Bool := decide (1 ≤ (z.length : Int)) && decide ((z.length : Int) ≤ 61) && only z digs && !(decide (fst1 z = "0") && !decide (z = "0"))
def numV (z : Str) : V := if numOk z = true then .int ((NumText.digitsVal z.cps.toList : Nat) : Int) else .non
theorem digs_list : digs.cps.toList = [48, 49, 50, 51, 52, 53, 54, 55, 56, 57] := by decide +kernel
theorem dig_mem {c : Nat} : c ∈ digs.cps.toList ↔ 48 ≤ c ∧ c ≤ 57 := by
  rw [digs_list]
  simp only [List.mem_cons, List.not_mem_nil, or_false]
  omega
theorem only_digs {z : Str} (h : only z digs = true) : NumText.AllDigits z.cps.toList := by
  intro c hc
  unfold only at h
  rw [List.all_eq_true] at h
  exact dig_mem.mp (of_decide_eq_true (h c hc))
theorem len_list (z : Str) : z.cps.toList.length = z.length := by simp [Str.length]
theorem first_at {z : Str} (h : 1 ≤ (z.length : Int)) : atI z.cps.toList 0 = some (z.cps.toList.headD 0) := by
  have e := len_list z
  cases q : z.cps.toList with
  | nil => rw [q] at e; simp at e; omega
  | cons c r => exact atI_nat (j := 0) rfl
/-- a number, written -/
def nS (n : Int) : Str := Str.ofString (toString n)
theorem tl_nS (m : Nat) : tl (nS (m : Int)) = numL m := tl_num m
theorem nS_len {n : Int} (h0 : 0 ≤ n) (h : n < 10 ^ 61) : (nS n).length ≤ 61 := by
  obtain ⟨m, rfl⟩ := Int.eq_ofNat_of_zero_le h0
  rw [len_tl, tl_nS]
  exact numL_len (by decide) (by omega)
theorem nS_pos {n : Int} (h0 : 0 ≤ n) : 1 ≤ (nS n).length := by
  obtain ⟨m, rfl⟩ := Int.eq_ofNat_of_zero_le h0
  rw [len_tl, tl_nS]
  have := numL_ne m
  cases q : numL m with
  | nil => exact absurd q this
  | cons c r => simp
theorem nS_digits {n : Int} (h0 : 0 ≤ n) : ∀ c ∈ tl (nS n), 48 ≤ c ∧ c ≤ 57 := by
  obtain ⟨m, rfl⟩ := Int.eq_ofNat_of_zero_le h0
  intro c hc
  rw [tl_nS] at hc
  have := numL_digits m c hc
  omega
theorem nS_log {n : Int} (h0 : 0 ≤ n) (h : n < 10 ^ 61) : n.natAbs.log2 < 1920 := by
  obtain ⟨m, rfl⟩ := Int.eq_ofNat_of_zero_le h0
  have h : m < 10 ^ 61 := by omega
  rw [Int.natAbs_natCast]
  by_cases e : m = 0
  · subst e; decide
  · exact (Nat.log2_lt e).mpr (Nat.lt_of_lt_of_le h (by decide))
theorem zero_tl : tl ("0" : Str) = [48] := by decide +kernel
theorem num_back {n : Int} (h0 : 0 ≤ n) (h : n < 10 ^ 61) : numV (nS n) = .int n := by
  have h1 := nS_len h0 h
  have h2 := nS_pos h0
  obtain ⟨m, rfl⟩ := Int.eq_ofNat_of_zero_le h0
  have ok : numOk (nS (m : Int)) = true := by
    have h3 : only (nS (m : Int)) digs = true := by
      unfold only
      rw [List.all_eq_true]
      intro c hc
      exact decide_eq_true (dig_mem.mpr (nS_digits h0 c hc))
    have h4 : fst1 (nS (m : Int)) = "0" → nS (m : Int) = "0" := by
      intro e
      have e1 : (numL m).headD 0 = 48 := by
        have q := congrArg tl e
        rw [zero_tl] at q
        have q2 : [(tl (nS (m : Int))).headD 0] = [48] := q
        rw [tl_nS] at q2
        exact List.cons.inj q2 |>.1
      have e2 := numL_head e1
      subst e2
      exact ext_tl (by rw [tl_nS, zero_tl]; decide +kernel)
    unfold numOk
    rw [decide_eq_true (show (1 : Int) ≤ ((nS (m : Int)).length : Int) by omega), decide_eq_true (show ((nS (m : Int)).length : Int) ≤ 61 by omega), h3]
    by_cases e : fst1 (nS (m : Int)) = "0"
    · rw [decide_eq_true e, decide_eq_true (h4 e)]; rfl
    · rw [decide_eq_false e]; rfl
  show (if numOk (nS (m : Int)) = true then V.int ((NumText.digitsVal (tl (nS (m : Int))) : Nat) : Int) else V.non) = _
  rw [if_pos ok, tl_nS, numL_val]
theorem most_lt : most < 10 ^ 61 := by decide +kernel
/-! ### lines -/
inductive Ln where
  | pt (x : Str)
  | tie (n : Int) (u : Ti)
  | gv (g : Int)
def kindS (o : Bool) : Str := if o = true then "way" else "tie"
def Ln.words : Ln → List Str
  | .pt x => ["point", x]
  | .tie n u => [kindS u.o, nS n, u.t, u.h, nS u.c]
  | .gv g => ["given", nS g]
def Ln.text (l : Ln) : Str := Txt.join " " l.words
/-- a word: some signs, no blank among them, good ones, not too many -/
def isWd (z : Str) : Prop := tl z ≠ [] ∧ (∀ c ∈ tl z, c ≠ 32 ∧ c < 0x110000) ∧ z.length ≤ 61
theorem nm_wd {z : Str} (h : isNm z = true) : isWd z := by
  unfold isNm at h
  simp only [Bool.and_eq_true, decide_eq_true_eq, List.all_eq_true] at h
  refine ⟨fun e => ?_, fun c hc => ?_, by omega⟩
  · have := h.1.1
    rw [len_tl, e] at this
    simp at this
  · have := h.2 c hc
    omega
theorem nS_wd {n : Int} (h0 : 0 ≤ n) (h : n < 10 ^ 61) : isWd (nS n) := by
  refine ⟨fun e => ?_, fun c hc => ?_, nS_len h0 h⟩
  · have := nS_pos h0
    rw [len_tl, e] at this
    simp at this
  · have := nS_digits h0 c hc
    omega
theorem kind_wd (o : Bool) : isWd (kindS o) := by
  cases o
  · exact ⟨by decide +kernel, by decide +kernel, by decide +kernel⟩
  · exact ⟨by decide +kernel, by decide +kernel, by decide +kernel⟩
theorem point_wd : isWd "point" := ⟨by decide +kernel, by decide +kernel, by decide +kernel⟩
theorem given_wd : isWd "given" := ⟨by decide +kernel, by decide +kernel, by decide +kernel⟩
def Ln.fine (l : Ln) : Prop := ∀ z ∈ l.words, isWd z
theorem tl_blank : tl (" " : Str) = [32] := by decide +kernel
theorem Ln.words_ne (l : Ln) : l.words ≠ [] := by cases l <;> simp [Ln.words]
theorem Ln.words_len (l : Ln) : l.words.length ≤ 5 := by cases l <;> simp [Ln.words]
theorem Ln.parts {l : Ln} (h : l.fine) : Txt.split l.text " " = l.words :=
  split_join (S := []) tl_blank (by decide +kernel) l.words_ne fun p hp e => (h p hp).2.1 32 e |>.1 rfl
theorem join_len (y : Str) : ∀ ys : List Str, (Txt.join y ys).length ≤ (ys.map (·.length)).sum + ys.length * y.length
  | ys => by
    rw [join_eq, len_tl, tl_join]
    have : ∀ ys : List Str, (joinL (tl y) (ys.map tl)).length ≤ (ys.map (·.length)).sum + ys.length * y.length := by
      intro ys
      induction ys with
      | nil => simp [joinL]
      | cons a r ih =>
        cases r with
        | nil =>
          show (tl a).length ≤ _
          simp [len_tl]
        | cons b r =>
          show (tl a ++ (tl y ++ joinL (tl y) ((b :: r).map tl))).length ≤ _
          rw [List.length_append, List.length_append, ← len_tl, ← len_tl]
          simp only [List.map_cons, List.sum_cons, List.length_cons, Nat.add_mul, Nat.one_mul] at ih ⊢
          omega
    exact this ys
theorem Ln.text_len {l : Ln} (h : l.fine) : l.text.length ≤ 400 := by
  refine Nat.le_trans (join_len " " l.words) ?_
  have h1 := sum_le (ys := l.words) (k := 61) (fun y hy => (h y hy).2.2)
  have h2 := l.words_len
  have h3 : (" " : Str).length = 1 := by decide +kernel
  rw [h3]
  omega
theorem wd_ne {z : Str} (h : isWd z) : z ≠ "" := fun e => h.1 (by rw [e]; decide +kernel)
theorem Ln.no_empty {l : Ln} (h : l.fine) : decide (("" : Str) ∈ l.words) = false := decide_eq_false fun m => wd_ne (h _ m) rfl
theorem Ln.text_ok {l : Ln} (h : l.fine) : okS l.text = true := okS_join (by decide +kernel) fun z hz => okS_iff.mpr fun c hc => ((h z hz).2.1 c hc).2
/-! ### the lines of a web -/
def linesOf (w : Wb) : List Ln := w.ps.map .pt ++ (w.ts.map (fun nt => .tie nt.1 nt.2) ++ [.gv w.g])
def textsOf (w : Wb) : List Str := (linesOf w).map Ln.text
def wb0 : Wb := ⟨[], [], 0⟩
theorem wok0 : Wok wb0 := ⟨by simp [wb0], by simp [wb0], by simp [wb0], by simp [wb0], by simp [wb0], by simp [wb0], by simp [wb0]⟩
/-- lines read, one behind the other -/
inductive Reads : Wb → List Ln → Wb → Prop where
  | pt {w w' : Wb} {x : Str} {r : List Ln} (g : w.g = 0) (hx : x ∉ w.ps) (hn : isNm x = true) (hl : w.ps.length < 16) (h : Reads (w.put x) r w') : Reads w (.pt x :: r) w'
  | tie {w w' : Wb} {n : Int} {u : Ti} {r : List Ln} (c : w.g < n) (m : n ≤ most) (h1 : u.t ∈ w.ps) (h2 : u.h ∈ w.ps) (h3 : u.t ≠ u.h) (c0 : 0 ≤ u.c) (c1 : u.c ≤ most) (hl : w.ts.length < 48)
      (h : Reads ⟨w.ps, w.ts ++ [(n, u)], n⟩ r w') : Reads w (.tie n u :: r) w'
  | gv {w : Wb} {g : Int} (c : w.g ≤ g) (m : g ≤ most) : Reads w [.gv g] { w with g := g }
def Ln.ok (w : Wb) : Ln → Prop
  | .pt x => w.g = 0 ∧ x ∉ w.ps ∧ isNm x = true ∧ w.ps.length < 16
  | .tie n u => w.g < n ∧ n ≤ most ∧ u.t ∈ w.ps ∧ u.h ∈ w.ps ∧ u.t ≠ u.h ∧ 0 ≤ u.c ∧ u.c ≤ most ∧ w.ts.length < 48
  | .gv g => w.g ≤ g ∧ g ≤ most
def Ln.does (w : Wb) : Ln → Wb
  | .pt x => w.put x
  | .tie n u => ⟨w.ps, w.ts ++ [(n, u)], n⟩
  | .gv g => { w with g := g }
def Ln.isGv : Ln → Bool
  | .gv _ => true
  | _ => false
theorem Reads.next {w w' : Wb} {l : Ln} {r : List Ln} (h : Reads w (l :: r) w') : l.ok w ∧ ((l.isGv = true ∧ r = [] ∧ w' = l.does w) ∨ (l.isGv = false ∧ Reads (l.does w) r w')) := by
  cases h with
  | pt g hx hn hl h => exact ⟨⟨g, hx, hn, hl⟩, .inr ⟨rfl, h⟩⟩
  | tie c m h1 h2 h3 c0 c1 hl h => exact ⟨⟨c, m, h1, h2, h3, c0, c1, hl⟩, .inr ⟨rfl, h⟩⟩
  | gv c m => exact ⟨⟨c, m⟩, .inl ⟨rfl, rfl, rfl⟩⟩
theorem Reads.ne {w w' : Wb} (h : Reads w [] w') : False := by cases h
theorem Ln.does_ok {w : Wb} (h : Wok w) {l : Ln} (o : l.ok w) : Wok (l.does w) := by
  cases l with
  | pt x => exact h.put o.2.1 o.2.2.1 o.2.2.2
  | tie n u =>
    obtain ⟨c, m, h1, h2, h3, c0, c1, hl⟩ := o
    have h0 : Wok { w with g := n - 1 } := ⟨h.nd, h.nm, h.le, h.tl, h.rise, fun m t ht => have o := h.ok m t ht; { o with hi := by have := o.hi; show m ≤ n - 1; omega }, by have := h.g0; show 0 ≤ n - 1; omega⟩
    have := h0.tie (t := u) h1 h2 h3 c0 c1 hl
    have e : ({ w with g := n - 1 } : Wb).tie u = ⟨w.ps, w.ts ++ [(n, u)], n⟩ := by
      show (⟨w.ps, w.ts ++ [(n - 1 + 1, u)], n - 1 + 1⟩ : Wb) = _
      rw [Int.sub_add_cancel]
    rw [e] at this
    exact this
  | gv g =>
    have hg := o.1
    exact ⟨h.nd, h.nm, h.le, h.tl, h.rise, fun m t ht => have o := h.ok m t ht; { o with hi := Int.le_trans o.hi hg }, Int.le_trans h.g0 o.1⟩
theorem reads_ties {ps : List Str} {g : Int} (hg : g ≤ most) : ∀ (ts2 ts1 : Ts) (g1 : Int), g1 ≤ g → (∀ x ∈ ts2, g1 < x.1) → Rise ts2 → ts1.length + ts2.length ≤ 48 →
    (∀ n u, (n, u) ∈ ts2 → TieOk ps g n u) → Reads ⟨ps, ts1, g1⟩ (ts2.map (fun nt => .tie nt.1 nt.2) ++ [.gv g]) ⟨ps, ts1 ++ ts2, g⟩
  | [], ts1, g1, h, _, _, _, _ => by
    rw [List.append_nil]
    exact Reads.gv (w := ⟨ps, ts1, g1⟩) h hg
  | (n, u) :: r, ts1, g1, h, hlt, hr, hl, ok => by
    have o := ok n u (List.mem_cons_self ..)
    obtain ⟨r1, r2⟩ := List.pairwise_cons.mp hr
    have hl' : ts1.length + (r.length + 1) ≤ 48 := hl
    refine Reads.tie (hlt _ (List.mem_cons_self ..)) (Int.le_trans o.hi hg) o.t o.h o.ne o.c0 o.c1 (by show ts1.length < 48; omega) ?_
    have := reads_ties hg r (ts1 ++ [(n, u)]) n o.hi (fun x hx => r1 x hx) r2 (by rw [List.length_append, List.length_singleton]; omega) (fun m v hm => ok m v (List.mem_cons_of_mem _ hm))
    rw [List.append_assoc] at this
    exact this
theorem reads_pts {r : List Ln} {w' : Wb} : ∀ (ps2 ps1 : List Str), (ps1 ++ ps2).Nodup → (∀ x ∈ ps2, isNm x = true) → (ps1 ++ ps2).length ≤ 16 → Reads ⟨ps1 ++ ps2, [], 0⟩ r w' → Reads ⟨ps1, [], 0⟩ (ps2.map .pt ++ r) w'
  | [], ps1, _, _, _, h => by
    rw [List.append_nil] at h
    exact h
  | x :: t, ps1, hn, hm, hl, h => by
    have e : ps1 ++ x :: t = (ps1 ++ [x]) ++ t := by simp
    refine Reads.pt rfl (fun hx => ?_) (hm x (List.mem_cons_self ..)) ?_ ?_
    · exact (List.nodup_append.mp hn).2.2 x hx x (List.mem_cons_self ..) rfl
    · rw [List.length_append, List.length_cons] at hl
      show ps1.length < 16
      omega
    · rw [e] at hn hl h
      exact reads_pts t (ps1 ++ [x]) hn (fun y hy => hm y (List.mem_cons_of_mem _ hy)) hl h
theorem reads_web {w : Wb} (h : Wok w) (hg : w.g ≤ most) : Reads wb0 (linesOf w) w := by
  refine reads_pts w.ps [] h.nd h.nm h.le ?_
  have := reads_ties hg w.ts [] 0 h.g0 (fun x hx => by have := (h.ok x.1 x.2 hx).lo; omega) h.rise (by simpa using h.tl) h.ok
  exact this
theorem lines_fine {w : Wb} (h : Wok w) (hg : w.g ≤ most) : ∀ l ∈ linesOf w, l.fine := by
  have hm := most_lt
  have hg0 := h.g0
  intro l hl z hz
  rcases List.mem_append.mp hl with hl | hl
  · obtain ⟨x, hx, rfl⟩ := List.mem_map.mp hl
    simp [Ln.words] at hz
    rcases hz with rfl | rfl
    · exact point_wd
    · exact nm_wd (h.nm _ hx)
  · rcases List.mem_append.mp hl with hl | hl
    · obtain ⟨⟨n, u⟩, hx, rfl⟩ := List.mem_map.mp hl
      have o := h.ok n u hx
      have o1 := o.lo
      have o2 := o.hi
      have o3 := o.c0
      have o4 := o.c1
      simp [Ln.words] at hz
      rcases hz with rfl | rfl | rfl | rfl | rfl
      · exact kind_wd _
      · exact nS_wd (by omega) (by omega)
      · exact nm_wd (h.nm _ o.t)
      · exact nm_wd (h.nm _ o.h)
      · exact nS_wd o3 (by omega)
    · simp at hl
      subst hl
      simp [Ln.words] at hz
      rcases hz with rfl | rfl
      · exact given_wd
      · exact nS_wd (by omega) (by omega)
theorem lines_len {w : Wb} (h : Wok w) : (linesOf w).length ≤ 65 := by
  unfold linesOf
  simp only [List.length_append, List.length_map, List.length_singleton]
  have := h.le
  have := h.tl
  omega
end WB

set_option Elab.async false
set_option linter.all false
set_option maxRecDepth 100000
set_option maxHeartbeats 2000000
namespace K20
open PySem PySem.Spec PyProof.Rows L2 HX WB
/-- the builtin type of a plain value -/
def tyB : V → String
  | .non => "NoneType"
  | .bl _ => "bool"
  | .int _ => "int"
  | .str _ => "str"
  | _ => ""
def isB (x : V) (T : String) : Option Bool := if tyB x = "" then none else kitB (tyB x) T
theorem i_isT {K : PySem.W.Frag} {H : Hp} {x : V} {T : String} {b : Bool} {Q : VK} (e : isB x T = some b) (q : Q (.bl b) H) : rIsi K [x, .ty T] H Q := by
  cases x with
  | non => exact ⟨_, _, _, _, _, rfl, .ty _, .base .non, kit_ty e, q⟩
  | bl c => exact ⟨_, _, _, _, _, rfl, .ty _, .base (.bl _), kit_ty e, q⟩
  | int i => exact ⟨_, _, _, _, _, rfl, .ty _, .base (.int _), kit_ty e, q⟩
  | str z => exact ⟨_, _, _, _, _, rfl, .ty _, .base (.str _), kit_ty e, q⟩
  | _ => cases e
local macro_rules | `(tactic| walk_at "side") => `(tactic| first
  | assumption
  | rfl
  | (show (0 : Int) < _; omega)
  | (unfold CDiv; omega)
  | (unfold CMul; omega)
  | (unfold CPow; omega)
  | (rw [sizeLine_eq]; omega)
  | omega)
local macro_rules | `(tactic| walk_at "e") => `(tactic| first
  | ((with_reducible apply i_var); exact rfl)
  | (with_reducible apply i_c)
  | (with_reducible apply i_op)
  | (with_reducible apply i_un)
  | (with_reducible apply i_rI0)
  | ((with_reducible apply i_rI); (case c => walk_at "side"))
  | (with_reducible apply i_rGe)
  | (with_reducible apply i_rGt)
  | (with_reducible apply i_rU)
  | (with_reducible apply i_rEqI)
  | (with_reducible apply i_rNeI)
  | (with_reducible apply i_rEqS)
  | (with_reducible apply i_rNeS)
  | (with_reducible apply i_rEqB)
  | (with_reducible apply i_rNeB)
  | (with_reducible apply i_rIsN)
  | (with_reducible apply i_rNotN)
  | (with_reducible apply i_rInS)
  | (with_reducible apply i_rNotInS)
  | ((with_reducible apply i_catS); (case c => walk_at "side"))
  | (with_reducible apply i_tcb)
  | (with_reducible apply i_nil)
  | (with_reducible apply i_cons)
  | ((with_reducible apply i_lenS); (case c => walk_at "side"))
  | ((with_reducible apply i_lenL); assumption)
  | (with_reducible apply i_abs)
  | (with_reducible apply i_max2)
  | (with_reducible apply i_min2)
  | ((with_reducible apply i_strI); (case c => walk_at "side"))
  | (with_reducible apply i_intB)
  | (with_reducible apply i_test)
  | (with_reducible apply i_tB)
  | (with_reducible apply i_kB)
  | (with_reducible apply i_and)
  | (with_reducible apply i_or)
  | (with_reducible apply i_not)
  | (with_reducible apply i_if)
  | (with_reducible apply i_andV)
  | (with_reducible apply i_orV)
  | (with_reducible apply i_notV)
  | (with_reducible apply i_kAndV)
  | (with_reducible apply i_kOrV)
  | (with_reducible apply i_kNotV)
  | (with_reducible apply i_chain)
  | (with_reducible apply i_kChain)
  | (with_reducible apply i_drop)
  | (with_reducible apply i_ret)
  | (with_reducible apply i_retN)
  | (with_reducible apply i_ifS)
  | (with_reducible apply i_asg)
  | (with_reducible apply i_gName)
  | (with_reducible apply i_for)
  | (with_reducible apply i_lc)
  | (with_reducible apply i_iList)
  | (with_reducible apply i_iTup)
  | (with_reducible apply i_iStr)
  | (with_reducible apply i_kStrI)
  | (with_reducible apply i_lst)
  | (with_reducible apply i_tup)
  | (with_reducible apply i_call)
  | (with_reducible apply i_m1)
  | (with_reducible apply i_kStr)
  | (with_reducible apply i_bm)
  | (with_reducible apply i_bm0)
  | (with_reducible apply i_part)
  | (with_reducible apply i_kInt)
  | (with_reducible apply i_noPart)
  | (with_reducible apply i_sl)
  | (with_reducible apply i_range1)
  | (with_reducible apply i_range2)
  | ((with_reducible apply i_kRng1); (case c => walk_at "side"))
  | ((with_reducible apply i_kRng2); (case c => walk_at "side"))
  | (with_reducible apply i_gCons)
  | (with_reducible apply i_gNil)
  | (with_reducible apply i_gSub)
  | (with_reducible apply i_iZip)
  | (with_reducible apply i_yes)
  | (with_reducible apply i_ift)
  | (with_reducible apply i_iff)
  | (with_reducible apply i_nb))
local macro_rules | `(tactic| walk_at "go") => `(tactic| repeat (first | (with_reducible apply i_seq) | (with_reducible apply i_next) | walk_at "e"))
local macro_rules | `(tactic| walk_at "ge") => `(tactic| repeat walk_at "e")
local macro_rules | `(tactic| walk_at "sz") => `(tactic| first | decide | (rw [sizeLine_eq]; simp; done) | (rw [sizeLine_eq]; omega))
local macro_rules | `(tactic| walk_at "side") => `(tactic| (with_reducible exact WB.most_pos))
local macro_rules | `(tactic| walk_at "e") => `(tactic| first
  | ((with_reducible apply i_isT (b := true)); exact rfl)
  | ((with_reducible apply i_isT (b := false)); exact rfl)
  | (with_reducible apply i_fld)
  | ((with_reducible apply i_kFld); (case h => assumption); (case c1 => assumption); (case c2 => assumption); (case e => first | exact lk_number | exact lk_tail | exact lk_head | exact lk_load | exact lk_oneway | exact lk_points | exact lk_ties | exact lk_given))
  | (with_reducible apply i_sfld)
  | ((with_reducible apply i_kSFld); (case h => first | assumption | exact upd_same); (case c1 => assumption); (case c2 => assumption); (case e => exact Nat.le_of_ble_eq_true rfl))
  | (with_reducible apply i_methC)
  | (with_reducible apply i_make)
  | (with_reducible apply i_fldaug)
  | (with_reducible apply i_vals)
  | (with_reducible apply i_items)
  | (with_reducible apply i_dget)
  | (with_reducible apply i_dput)
  | (with_reducible apply i_din)
  | (with_reducible apply i_dnotin)
  | (with_reducible apply i_ddel)
  | (with_reducible apply i_dc)
  | (with_reducible apply i_enum)
  | (with_reducible apply i_ckw))
section
variable {P : Program} {w : World} {K : PySem.W.Frag} {mg : Str → Option Value} {base : Heap}
def sp_has_only : Sp := fun vs H Q _ => ∃ z s, vs = [.str z, .str s] ∧ Q (.bl (only z s)) H
theorem ok_has_only (T : Tx K mg) : FnOk P w K mg base CX0 1 (He.ga K "_has_only") T.fd_has_only ["text", "signs"] sp_has_only := by
  refine T.F_has_only.ok sc_has_only (fun vs H Q E h => ?_) (fun cdv A outer s H vs Q E hr h => ?_)
  · obtain ⟨z, t, rfl, _⟩ := h
    rfl
  · obtain ⟨z, t, rfl, q⟩ := h
    refine ⟨_, PSs.nox (pss_cons (ps_for PassesOwn.never rfl (pi_str (pv 0)) (pg_name (i := 2) sc_has_only.nd rfl (Or.inl rfl))
      (pss_one (ps_if (pt_cmpR op_notInS (pv 2) (pv 1) rfl) (pss_one (ps_ret pe_bl)) pss_nil)))
      (pss_one (ps_ret pe_bl))), ?_⟩
    walk_at "go"
    refine for_it walk_str (fun i σ H' => H' = H ∧ (∀ c ∈ z.cps.toList.take i, c ∈ t.cps.toList) ∧ ∃ v, σ = [some (.str z), some (.str t), v]) ⟨rfl, by simp, none, rfl⟩ (fun _ _ _ _ _ => trivial) ?_ ?_
    · rintro i x σ H1 H2 hi ⟨rfl, ho, v, rfl⟩ ⟨rfl, c, hc, rfl⟩
      have hc' : z.cps.toList[i]? = some c := by simpa using hc
      walk_at "go"
      apply i_dec
      · intro hm
        walk_at "go"
        refine ⟨rfl, ?_, _, rfl⟩
        intro d hd
        rw [List.take_add_one, hc'] at hd
        rcases List.mem_append.mp hd with hd | hd
        · exact ho d hd
        · have : d = c := by simpa using hd
          rw [this]; exact hm
      · intro hn
        walk_at "go"
        have e : only z t = false := by
          unfold only
          rw [List.all_eq_false]
          exact ⟨c, List.mem_of_getElem? hc', by simpa using hn⟩
        rw [← e]
        exact q
    · rintro σ H1 ⟨rfl, ho, v, rfl⟩
      walk_at "go"
      have e : only z t = true := by
        unfold only
        rw [List.all_eq_true]
        intro c hc
        refine decide_eq_true (ho c ?_)
        rw [List.take_of_length_le (by simp)]
        exact hc
      rw [← e]
      exact q
/-- of whole numbers -/
def sp_is_whole : Sp := fun vs H Q _ => ∃ i : Int, vs = [.int i] ∧ Q (.bl true) H
theorem ok_is_whole (T : Tx K mg) : FnOk P w K mg base CX0 1 (He.ga K "is_whole") T.fd_is_whole ["thing"] sp_is_whole := by
  refine T.F_is_whole.ok sc_is_whole (fun vs H Q E h => ?_) (fun cdv A outer s H vs Q E hr h => ?_)
  · obtain ⟨x, rfl, _⟩ := h
    rfl
  · obtain ⟨x, rfl, q⟩ := h
    refine ⟨_, PSs.nox (pss_one (ps_ret (pe_and (pe_callB call_isi (by rfl) T.b_isinstance (by decide +kernel) (pa_cons (pv 0) (pa_cons (pe_bltn (v := .ty "int") rfl T.b_int (by decide +kernel) rfl) pa_nil))) (pe_one (pe_not (pe_callB call_isi (by rfl) T.b_isinstance (by decide +kernel) (pa_cons (pv 0) (pa_cons (pe_bltn (v := .ty "bool") rfl T.b_bool (by decide +kernel) rfl) pa_nil)))))))), ?_⟩
    walk_at "go"
    exact q
def sp_is_among : Sp := fun vs H Q _ => ∃ i a b : Int, vs = [.int i, .int a, .int b] ∧ Q (.bl (decide (a ≤ i) && decide (i ≤ b))) H
theorem ok_is_among (T : Tx K mg) : FnOk P w K mg base CX0 2 (He.ga K "is_among") T.fd_is_among ["thing", "least", "most"] sp_is_among := by
  refine T.F_is_among.ok sc_is_among (fun vs H Q E h => ?_) (fun cdv A outer s H vs Q E hr h => ?_)
  · obtain ⟨x, a, b, rfl, _⟩ := h
    rfl
  · obtain ⟨i, a, b, rfl, q⟩ := h
    refine ⟨_, PSs.nox (pss_one (ps_ret (pe_and (pe_call (ok_is_whole T) (hr.mono (by decide)) (by rfl) T.g_is_whole T.F_is_whole.kp T.k_is_whole .nil pass0 (pa_cons (pv 0) pa_nil)) (pe_one (pe_chain op_le op_le (pv 1) (pv 0) (pv 2)))))), ?_⟩
    walk_at "go"
    refine ⟨i, rfl, ?_⟩
    walk_at "go"
    apply i_dec
    · intro h1
      walk_at "go"
      rw [decide_eq_true h1, Bool.true_and] at q
      exact q
    · intro h1
      walk_at "go"
      rw [decide_eq_false h1, Bool.false_and] at q
      exact q
theorem letters_list : ("abcdefghijklmnopqrstuvwxyz" : Str).cps.toList = List.range' 97 26 := by decide +kernel
theorem isNm_of {z : Str} : isNm z = (decide (1 ≤ z.length) && (decide (z.length ≤ 12) && only z "abcdefghijklmnopqrstuvwxyz")) := by
  unfold isNm only
  rw [Bool.and_assoc, letters_list]
  congr 3
  funext c
  rw [← Bool.decide_and]
  refine decide_eq_decide.mpr ?_
  rw [List.mem_range'_1]
  omega
/-- of short texts -/
def sp_is_name : Sp := fun vs H Q _ => ∃ z : Str, vs = [.str z] ∧ z.length ≤ 1000 ∧ Q (.bl (isNm z)) H
theorem ok_is_name (T : Tx K mg) : FnOk P w K mg base CX0 2 (He.ga K "is_name") T.fd_is_name ["thing"] sp_is_name := by
  refine T.F_is_name.ok sc_is_name (fun vs H Q E h => ?_) (fun cdv A outer s H vs Q E hr h => ?_)
  · obtain ⟨x, rfl, _⟩ := h
    rfl
  · obtain ⟨z, rfl, hz, q⟩ := h
    refine ⟨_, PSs.nox (pss_cons (ps_if (pt_not (pt_val (pe_callB call_isi (by rfl) T.b_isinstance (by decide +kernel) (pa_cons (pv 0) (pa_cons (pe_bltn (v := .ty "str") rfl T.b_str (by decide +kernel) rfl) pa_nil))))) (pss_one (ps_ret pe_bl)) pss_nil)
      (pss_one (ps_ret (pe_and (pe_chain op_le op_le pe_int (pe_callB x_lenS (by rfl) T.b_len (by decide +kernel) (pa_cons (pv 0) pa_nil)) (pe_glob (v := .int 12) rfl (T.c_MOST_LETTERS).choose_spec ⟨_, rfl⟩)) (pe_one (pe_call (ok_has_only T) (hr.mono (by decide)) (by rfl) T.g_has_only T.F_has_only.kp T.k_has_only .nil pass0 (pa_cons (pv 0) (pa_cons (pe_glob (v := .str "abcdefghijklmnopqrstuvwxyz") rfl (T.c_LETTERS).choose_spec ⟨_, rfl⟩) pa_nil)))))))), ?_⟩
    rw [isNm_of] at q
    walk_at "go"
    apply i_dec
    · intro h1
      have h1' : 1 ≤ z.length := by omega
      rw [decide_eq_true h1', Bool.true_and] at q
      walk_at "go"
      apply i_dec
      · intro h2
        have h2' : z.length ≤ 12 := by omega
        rw [decide_eq_true h2', Bool.true_and] at q
        walk_at "go"
        exact ⟨z, _, rfl, q⟩
      · intro h2
        have h2' : ¬ z.length ≤ 12 := by omega
        rw [decide_eq_false h2', Bool.false_and] at q
        walk_at "go"
        exact q
    · intro h1
      have h1' : ¬ 1 ≤ z.length := by omega
      rw [decide_eq_false h1', Bool.false_and] at q
      walk_at "go"
      exact q
/-- of good loads -/
def sp_need_load : Sp := fun vs H Q _ => ∃ c : Int, vs = [.int c] ∧ 0 ≤ c ∧ c ≤ most ∧ Q .non H
theorem ok_need_load (T : Tx K mg) : FnOk P w K mg base CX0 3 (He.ga K "_need_load") T.fd_need_load ["load"] sp_need_load := by
  refine T.F_need_load.ok sc_need_load (fun vs H Q E h => ?_) (fun cdv A outer s H vs Q E hr h => ?_)
  · obtain ⟨x, rfl, _⟩ := h
    rfl
  · obtain ⟨c, rfl, c0, c1, q⟩ := h
    refine ⟨_, PSs.nox (pss_one (ps_if (pt_not (pt_val (pe_call (ok_is_among T) (hr.mono (by decide)) (by rfl) T.g_is_among T.F_is_among.kp T.k_is_among .nil pass0 (pa_cons (pv 0) (pa_cons pe_int (pa_cons (pe_glob (v := .int 1000000000000000000000000000000000000000000000000000000000000) rfl (T.c_MOST).choose_spec ⟨_, rfl⟩) pa_nil)))))) (pss_one ps_never) pss_nil)), ?_⟩
    walk_at "go"
    refine ⟨c, 0, most, rfl, ?_⟩
    rw [decide_eq_true c0, decide_eq_true c1]
    walk_at "go"
    exact q
def sp_Tie (K : PySem.W.Frag) : Sp := fun vs H Q _ => ∃ (x dx : Addr) (n : Int) (t : Ti), vs = [.ref x, .int n, .str t.t, .str t.h, .int t.c, .bl t.o] ∧ H x = some (.ins (He.ga K "Tie") dx []) ∧ Q .non (upd H x (.ins (He.ga K "Tie") dx (tieFs n t)))
theorem ok_Tie_init (T : Tx K mg) : FnOk P w K mg base CX0 1 (He.ma K (He.ga K "Tie") "__init__") T.fd_Tie_init ["self", "number", "tail", "head", "load", "is_oneway"] (sp_Tie K) := by
  refine T.F_Tie_init.ok sc_Tie_init (fun vs H Q E h => ?_) (fun cdv A outer s H vs Q E hr h => ?_)
  · obtain ⟨x, dx, n, t, rfl, _⟩ := h
    rfl
  · obtain ⟨x, dx, n, t, rfl, hx, q⟩ := h
    refine ⟨_, PSs.nox (pss_cons (ps_fld (pv 0) (pv 1) rfl)
      (pss_cons (ps_fld (pv 0) (pv 2) rfl)
      (pss_cons (ps_fld (pv 0) (pv 3) rfl)
      (pss_cons (ps_fld (pv 0) (pv 4) rfl)
      (pss_one (ps_fld (pv 0) (pv 5) rfl)))))), ?_⟩
    have c1 := T.cl_Tie
    have c2 := T.na_Tie_number
    have c3 := T.na_Tie_tail
    have c4 := T.na_Tie_head
    have c5 := T.na_Tie_load
    have c6 := T.na_Tie_is_oneway
    walk_at "go"
    simp only [upd_upd]
    exact q
/-- a new tie -/
def newTie (K : PySem.W.Frag) (H : Hp) (n : Int) (t : Ti) (Q : VK) : Prop := ∀ a H', Same H H' → H a = none → TieAt K H' n t a → (∀ b, b ≠ a → (∀ dx, H b = none → H' b = none ∨ b = dx) → True) → Q (.ref a) H'
def sp_between (K : PySem.W.Frag) : Sp := fun vs H Q _ => ∃ (a : Addr) (n : Int) (t : Ti) (x y : Str), vs = [.ref a, .str x, .str y] ∧ TieAt K H n t a ∧ ∀ b H', Same H H' → TieAt K H' n { t with t := x, h := y } b → H b = none → Q (.ref b) H'
theorem ok_between (T : Tx K mg) : FnOk P w K mg base CX0 3 (He.ga K "_between") T.fd_between ["tie", "tail", "head"] (sp_between K) := by
  refine T.F_between.ok sc_between (fun vs H Q E h => ?_) (fun cdv A outer s H vs Q E hr h => ?_)
  · obtain ⟨a, n, t, x, y, rfl, _⟩ := h
    rfl
  · obtain ⟨a, n, t, x, y, rfl, ⟨dx, ha⟩, q⟩ := h
    refine ⟨_, PSs.nox (pss_one (ps_ret (pe_make T.mk_Tie (ok_Tie_init T) (hr.mono (by decide)) (by rfl) T.g_Tie T.k_Tie_init .nil pass0 (pa_cons (pe_fld (pv 0) rfl) (pa_cons (pv 1) (pa_cons (pv 2) (pa_cons (pe_fld (pv 0) rfl) (pa_cons (pe_fld (pv 0) rfl) pa_nil)))))))), ?_⟩
    have c1 := T.cl_Tie
    have c2 := T.na_Tie_number
    have c5 := T.na_Tie_load
    have c6 := T.na_Tie_is_oneway
    walk_at "go"
    intro b dy hb hd hne
    refine ⟨b, dy, n, { t with t := x, h := y }, rfl, upd_same, rfl, ?_⟩
    rw [upd_upd]
    have s1 : Same H (upd H dy (.own b)) := Same.new hd
    have hb' : (upd H dy (.own b)) b = none := (upd_ne (fun e => hne e.symm)).trans hb
    exact q b _ (Same.mut s1 hb) ⟨dy, upd_same⟩ hb
def sp_turned (K : PySem.W.Frag) : Sp := fun vs H Q _ => ∃ (a : Addr) (n : Int) (t : Ti) (x y : Str), vs = [.ref a, .str x, .str y] ∧ TieAt K H n t a ∧ ∀ b H', Same H H' → TieAt K H' n (turn x y t) b → H b = none → Q (.ref b) H'
theorem ok_turned (T : Tx K mg) : FnOk P w K mg base CX0 4 (He.ga K "_turned") T.fd_turned ["tie", "name", "other"] (sp_turned K) := by
  refine T.F_turned.ok sc_turned (fun vs H Q E h => ?_) (fun cdv A outer s H vs Q E hr h => ?_)
  · obtain ⟨a, n, t, x, y, rfl, _⟩ := h
    rfl
  · obtain ⟨a, n, t, x, y, rfl, ⟨dx, ha⟩, q⟩ := h
    refine ⟨_, PSs.nox (pss_cons (ps_set (i := 3) sc_turned.nd rfl (Or.inl rfl) (pe_ifExp (pt_cmpR op_eq (pe_fld (pv 0) rfl) (pv 1) (nomark _)) (pv 2) (pe_fld (pv 0) rfl)))
      (pss_cons (ps_set (i := 4) sc_turned.nd rfl (Or.inl rfl) (pe_ifExp (pt_cmpR op_eq (pe_fld (pv 0) rfl) (pv 1) (nomark _)) (pv 2) (pe_fld (pv 0) rfl)))
      (pss_one (ps_ret (pe_call (ok_between T) (hr.mono (by decide)) (by rfl) T.g_between T.F_between.kp T.k_between .nil pass0 (pa_cons (pv 0) (pa_cons (pv 3) (pa_cons (pv 4) pa_nil)))))))), ?_⟩
    have c1 := T.cl_Tie
    have c2 := T.na_Tie_tail
    have c3 := T.na_Tie_head
    walk_at "go"
    refine i_dec (fun e1 => ?_) (fun e1 => ?_)
    · walk_at "go"
      refine i_dec (fun e2 => ?_) (fun e2 => ?_)
      · walk_at "go"
        refine ⟨a, n, t, y, y, rfl, ⟨dx, ha⟩, fun b H' s tb hb => q b H' s ?_ hb⟩
        have e : turn x y t = { t with t := y, h := y } := by simp [turn, e1, e2]
        rw [e]; exact tb
      · walk_at "go"
        refine ⟨a, n, t, y, t.h, rfl, ⟨dx, ha⟩, fun b H' s tb hb => q b H' s ?_ hb⟩
        have e : turn x y t = { t with t := y, h := t.h } := by simp [turn, e1, e2]
        rw [e]; exact tb
    · walk_at "go"
      refine i_dec (fun e2 => ?_) (fun e2 => ?_)
      · walk_at "go"
        refine ⟨a, n, t, t.t, y, rfl, ⟨dx, ha⟩, fun b H' s tb hb => q b H' s ?_ hb⟩
        have e : turn x y t = { t with t := t.t, h := y } := by simp [turn, e1, e2]
        rw [e]; exact tb
      · walk_at "go"
        refine ⟨a, n, t, t.t, t.h, rfl, ⟨dx, ha⟩, fun b H' s tb hb => q b H' s ?_ hb⟩
        have e : turn x y t = { t with t := t.t, h := t.h } := by simp [turn, e1, e2]
        rw [e]; exact tb
end
end K20

set_option Elab.async false
set_option linter.all false
set_option maxRecDepth 100000
set_option maxHeartbeats 2000000
namespace K20
open PySem PySem.Spec PyProof.Rows L2 HX WB
local macro_rules | `(tactic| walk_at "side") => `(tactic| first
  | assumption
  | rfl
  | (show (0 : Int) < _; omega)
  | (unfold CDiv; omega)
  | (unfold CMul; omega)
  | (unfold CPow; omega)
  | (rw [sizeLine_eq]; omega)
  | omega)
local macro_rules | `(tactic| walk_at "e") => `(tactic| first
  | ((with_reducible apply i_var); exact rfl)
  | (with_reducible apply i_c)
  | (with_reducible apply i_op)
  | (with_reducible apply i_un)
  | (with_reducible apply i_rI0)
  | ((with_reducible apply i_rI); (case c => walk_at "side"))
  | (with_reducible apply i_rGe)
  | (with_reducible apply i_rGt)
  | (with_reducible apply i_rU)
  | (with_reducible apply i_rEqI)
  | (with_reducible apply i_rNeI)
  | (with_reducible apply i_rEqS)
  | (with_reducible apply i_rNeS)
  | (with_reducible apply i_rEqB)
  | (with_reducible apply i_rNeB)
  | (with_reducible apply i_rIsN)
  | (with_reducible apply i_rNotN)
  | (with_reducible apply i_rInS)
  | (with_reducible apply i_rNotInS)
  | ((with_reducible apply i_catS); (case c => walk_at "side"))
  | (with_reducible apply i_tcb)
  | (with_reducible apply i_nil)
  | (with_reducible apply i_cons)
  | ((with_reducible apply i_lenS); (case c => walk_at "side"))
  | ((with_reducible apply i_lenL); assumption)
  | (with_reducible apply i_abs)
  | (with_reducible apply i_max2)
  | (with_reducible apply i_min2)
  | ((with_reducible apply i_strI); (case c => walk_at "side"))
  | (with_reducible apply i_intB)
  | (with_reducible apply i_test)
  | (with_reducible apply i_tB)
  | (with_reducible apply i_kB)
  | (with_reducible apply i_and)
  | (with_reducible apply i_or)
  | (with_reducible apply i_not)
  | (with_reducible apply i_if)
  | (with_reducible apply i_andV)
  | (with_reducible apply i_orV)
  | (with_reducible apply i_notV)
  | (with_reducible apply i_kAndV)
  | (with_reducible apply i_kOrV)
  | (with_reducible apply i_kNotV)
  | (with_reducible apply i_chain)
  | (with_reducible apply i_kChain)
  | (with_reducible apply i_drop)
  | (with_reducible apply i_ret)
  | (with_reducible apply i_retN)
  | (with_reducible apply i_ifS)
  | (with_reducible apply i_asg)
  | (with_reducible apply i_gName)
  | (with_reducible apply i_for)
  | (with_reducible apply i_lc)
  | (with_reducible apply i_iList)
  | (with_reducible apply i_iTup)
  | (with_reducible apply i_iStr)
  | (with_reducible apply i_kStrI)
  | (with_reducible apply i_lst)
  | (with_reducible apply i_tup)
  | (with_reducible apply i_call)
  | (with_reducible apply i_m1)
  | (with_reducible apply i_kStr)
  | (with_reducible apply i_bm)
  | (with_reducible apply i_bm0)
  | (with_reducible apply i_part)
  | (with_reducible apply i_kInt)
  | (with_reducible apply i_noPart)
  | (with_reducible apply i_sl)
  | (with_reducible apply i_range1)
  | (with_reducible apply i_range2)
  | ((with_reducible apply i_kRng1); (case c => walk_at "side"))
  | ((with_reducible apply i_kRng2); (case c => walk_at "side"))
  | (with_reducible apply i_gCons)
  | (with_reducible apply i_gNil)
  | (with_reducible apply i_gSub)
  | (with_reducible apply i_iZip)
  | (with_reducible apply i_yes)
  | (with_reducible apply i_ift)
  | (with_reducible apply i_iff)
  | (with_reducible apply i_nb))
local macro_rules | `(tactic| walk_at "go") => `(tactic| repeat (first | (with_reducible apply i_seq) | (with_reducible apply i_next) | walk_at "e"))
local macro_rules | `(tactic| walk_at "ge") => `(tactic| repeat walk_at "e")
local macro_rules | `(tactic| walk_at "sz") => `(tactic| first | decide | (rw [sizeLine_eq]; simp; done) | (rw [sizeLine_eq]; omega))
local macro_rules | `(tactic| walk_at "side") => `(tactic| (with_reducible exact WB.most_pos))
local macro_rules | `(tactic| walk_at "e") => `(tactic| first
  | ((with_reducible apply i_isT (b := true)); exact rfl)
  | ((with_reducible apply i_isT (b := false)); exact rfl)
  | (with_reducible apply i_fld)
  | ((with_reducible apply i_kFld); (case h => assumption); (case c1 => assumption); (case c2 => assumption); (case e => first | exact lk_number | exact lk_tail | exact lk_head | exact lk_load | exact lk_oneway | exact lk_points | exact lk_ties | exact lk_given))
  | (with_reducible apply i_sfld)
  | ((with_reducible apply i_kSFld); (case h => first | assumption | exact upd_same); (case c1 => assumption); (case c2 => assumption); (case e => exact Nat.le_of_ble_eq_true rfl))
  | (with_reducible apply i_methC)
  | (with_reducible apply i_make)
  | (with_reducible apply i_fldaug)
  | (with_reducible apply i_vals)
  | (with_reducible apply i_items)
  | (with_reducible apply i_dget)
  | (with_reducible apply i_dput)
  | (with_reducible apply i_din)
  | (with_reducible apply i_dnotin)
  | (with_reducible apply i_ddel)
  | (with_reducible apply i_dc)
  | (with_reducible apply i_enum)
  | (with_reducible apply i_ckw))
section
variable {P : Program} {w : World} {K : PySem.W.Frag} {mg : Str → Option Value} {base : Heap}
def sp_Web_init (K : PySem.W.Frag) : Sp := fun vs H Q _ => ∃ (x dx : Addr), vs = [.ref x] ∧ H x = some (.ins (He.ga K "Web") dx []) ∧ ∀ l d, H l = none → H d = none → l ≠ d → Q .non (upd (upd (upd H l (.lst [])) d (.dK [])) x (.ins (He.ga K "Web") dx (webFs l d 0)))
theorem ok_Web_init (T : Tx K mg) : FnOk P w K mg base CX0 1 (He.ma K (He.ga K "Web") "__init__") T.fd_Web_init ["self"] (sp_Web_init K) := by
  refine T.F_Web_init.ok sc_Web_init (fun vs H Q E h => ?_) (fun cdv A outer s H vs Q E hr h => ?_)
  · obtain ⟨x, dx, rfl, _⟩ := h
    rfl
  · obtain ⟨x, dx, rfl, hx, q⟩ := h
    refine ⟨_, PSs.nox (pss_cons (ps_fld (pv 0) (pe_lst pa_nil) rfl)
      (pss_cons (ps_fld (pv 0) pe_dnewK rfl)
      (pss_one (ps_fld (pv 0) pe_int rfl)))), ?_⟩
    have c1 := T.cl_Web
    have c2 := T.na_Web_points
    have c3 := T.na_Web_ties
    have c4 := T.na_Web_given
    walk_at "go"
    refine ⟨by walk_at "sz", fun l hl => ?_⟩
    walk_at "go"
    refine i_kSFld ((upd_ne (ne_of_none hx hl)).trans hx) c1 c2 (Nat.le_of_ble_eq_true rfl) ?_
    intro d hd
    have nl : l ≠ x := fun e => by rw [e] at hl; rw [hl] at hx; cases hx
    have hd1 : (upd H l (.lst [])) d = none := by
      by_cases e : d = x
      · subst e; rw [upd_same] at hd; cases hd
      · rwa [upd_ne e] at hd
    have nd : d ≠ l := fun e => by rw [e, upd_same] at hd1; cases hd1
    have hd2 : H d = none := by rwa [upd_ne nd] at hd1
    have nx : d ≠ x := fun e => by rw [e] at hd2; rw [hd2] at hx; cases hx
    walk_at "go"
    refine i_kSFld ((upd_ne nx.symm).trans upd_same) c1 c3 (Nat.le_of_ble_eq_true rfl) ?_
    walk_at "go"
    have e : upd (upd (upd (upd (upd H l (.lst [])) x (.ins (He.ga K "Web") dx (putF "_points" (.ref l) []))) d (.dK [])) x (.ins (He.ga K "Web") dx (putF "_ties" (.ref d) (putF "_points" (.ref l) [])))) x (.ins (He.ga K "Web") dx (putF "_given" (.int 0) (putF "_ties" (.ref d) (putF "_points" (.ref l) [])))) = upd (upd (upd H l (.lst [])) d (.dK [])) x (.ins (He.ga K "Web") dx (webFs l d 0)) := by
      rw [upd_upd]
      funext b
      by_cases hb : b = x
      · subst hb; rw [upd_same, upd_same]; rfl
      · rw [upd_ne hb, upd_ne hb]
        by_cases hb2 : b = d
        · subst hb2; rw [upd_same, upd_same]
        · rw [upd_ne hb2, upd_ne hb2, upd_ne hb]
    rw [e]
    exact q l d hl hd2 nd.symm
def sp_Web_points (K : PySem.W.Frag) : Sp := fun vs H Q _ => ∃ p l d w, vs = [.ref p] ∧ WebAt K H p l d w ∧ ∀ a, H a = none → Q (.ref a) (upd H a (.lst (w.ps.map V.str)))
theorem ok_Web_points (T : Tx K mg) : FnOk P w K mg base CX0 1 (He.ma K (He.ga K "Web") "points") T.fd_Web_points ["self"] (sp_Web_points K) := by
  refine T.F_Web_points.ok sc_Web_points (fun vs H Q E h => ?_) (fun cdv A outer s H vs Q E hr h => ?_)
  · obtain ⟨_, _, _, _, rfl, _⟩ := h
    rfl
  · obtain ⟨p, l, d, w, rfl, hw, q⟩ := h
    obtain ⟨dx, ep⟩ := hw.self
    refine ⟨_, PSs.nox (pss_one (ps_ret (pe_callTy x_list (by rfl) T.b_list (by decide +kernel) (pa_cons (pe_fld (pv 0) rfl) pa_nil)))), ?_⟩
    have c1 := T.cl_Web
    have c2 := T.na_Web_points
    walk_at "go"
    exact ⟨l, _, rfl, .inl (SqL.of hw.pts), q⟩
def sp_Web_given (K : PySem.W.Frag) : Sp := fun vs H Q _ => ∃ p l d w, vs = [.ref p] ∧ WebAt K H p l d w ∧ Q (.int w.g) H
theorem ok_Web_given (T : Tx K mg) : FnOk P w K mg base CX0 1 (He.ma K (He.ga K "Web") "given") T.fd_Web_given ["self"] (sp_Web_given K) := by
  refine T.F_Web_given.ok sc_Web_given (fun vs H Q E h => ?_) (fun cdv A outer s H vs Q E hr h => ?_)
  · obtain ⟨_, _, _, _, rfl, _⟩ := h
    rfl
  · obtain ⟨p, l, d, w, rfl, hw, q⟩ := h
    obtain ⟨dx, ep⟩ := hw.self
    refine ⟨_, PSs.nox (pss_one (ps_ret (pe_fld (pv 0) rfl))), ?_⟩
    have c1 := T.cl_Web
    have c2 := T.na_Web_given
    walk_at "go"
    exact q
def sp_need_point (K : PySem.W.Frag) : Sp := fun vs H Q _ => ∃ p l d w x, vs = [.ref p, .str x] ∧ WebAt K H p l d w ∧ x ∈ w.ps ∧ isNm x = true ∧ Q .non H
theorem ok_Web_need_point (T : Tx K mg) : FnOk P w K mg base CX0 3 (He.ma K (He.ga K "Web") "_need_point") T.fd_Web_need_point ["self", "name"] (sp_need_point K) := by
  refine T.F_Web_need_point.ok sc_Web_need_point (fun vs H Q E h => ?_) (fun cdv A outer s H vs Q E hr h => ?_)
  · obtain ⟨_, _, _, _, _, rfl, _⟩ := h
    rfl
  · obtain ⟨p, l, d, w, x, rfl, hw, hx, hn, q⟩ := h
    obtain ⟨dx, ep⟩ := hw.self
    refine ⟨_, PSs.nox (pss_one (ps_if (PW.pt (pw_or (pt_not (pt_val (pe_call (ok_is_name T) (hr.mono (by decide)) (by rfl) T.g_is_name T.F_is_name.kp T.k_is_name .nil pass0 (pa_cons (pv 1) pa_nil)))) (pw_or1 (pt_cmpR op_notIn_seq (pv 1) (pe_fld (pv 0) rfl) (by rfl))))) (pss_one ps_never) pss_nil)), ?_⟩
    have c1 := T.cl_Web
    have c2 := T.na_Web_points
    walk_at "go"
    refine ⟨x, rfl, by have := nm_len hn; omega, ?_⟩
    rw [hn]
    walk_at "go"
    refine i_inS (SqL.of hw.pts) ?_
    rw [decide_eq_true hx]
    walk_at "go"
    exact q
def sp_need_new_name (K : PySem.W.Frag) : Sp := fun vs H Q _ => ∃ p l d w x, vs = [.ref p, .str x] ∧ WebAt K H p l d w ∧ x ∉ w.ps ∧ isNm x = true ∧ Q .non H
theorem ok_Web_need_new_name (T : Tx K mg) : FnOk P w K mg base CX0 3 (He.ma K (He.ga K "Web") "_need_new_name") T.fd_Web_need_new_name ["self", "name"] (sp_need_new_name K) := by
  refine T.F_Web_need_new_name.ok sc_Web_need_new_name (fun vs H Q E h => ?_) (fun cdv A outer s H vs Q E hr h => ?_)
  · obtain ⟨_, _, _, _, _, rfl, _⟩ := h
    rfl
  · obtain ⟨p, l, d, w, x, rfl, hw, hx, hn, q⟩ := h
    obtain ⟨dx, ep⟩ := hw.self
    refine ⟨_, PSs.nox (pss_cons (ps_if (pt_not (pt_val (pe_call (ok_is_name T) (hr.mono (by decide)) (by rfl) T.g_is_name T.F_is_name.kp T.k_is_name .nil pass0 (pa_cons (pv 1) pa_nil)))) (pss_one ps_never) pss_nil)
      (pss_one (ps_if (pt_cmpR op_in_seq (pv 1) (pe_fld (pv 0) rfl) (by rfl)) (pss_one ps_never) pss_nil))), ?_⟩
    have c1 := T.cl_Web
    have c2 := T.na_Web_points
    walk_at "go"
    refine ⟨x, rfl, by have := nm_len hn; omega, ?_⟩
    rw [hn]
    walk_at "go"
    refine i_inS (SqL.of hw.pts) ?_
    rw [decide_eq_false hx]
    walk_at "go"
    exact q
def sp_need_new_point (K : PySem.W.Frag) : Sp := fun vs H Q _ => ∃ p l d w x, vs = [.ref p, .str x] ∧ WebAt K H p l d w ∧ x ∉ w.ps ∧ isNm x = true ∧ w.ps.length < 16 ∧ Q .non H
theorem ok_Web_need_new_point (T : Tx K mg) : FnOk P w K mg base CX0 4 (He.ma K (He.ga K "Web") "_need_new_point") T.fd_Web_need_new_point ["self", "name"] (sp_need_new_point K) := by
  refine T.F_Web_need_new_point.ok sc_Web_need_new_point (fun vs H Q E h => ?_) (fun cdv A outer s H vs Q E hr h => ?_)
  · obtain ⟨_, _, _, _, _, rfl, _⟩ := h
    rfl
  · obtain ⟨p, l, d, w, x, rfl, hw, hx, hn, hl, q⟩ := h
    obtain ⟨dx, ep⟩ := hw.self
    refine ⟨_, PSs.nox (pss_cons (ps_expr (pe_meth (pv 0) T.cl_Web T.m_Web_need_new_name (ok_Web_need_new_name T) (hr.mono (by decide)) T.k_Web_need_new_name .nil pass0 (pa_cons (pv 1) pa_nil)))
      (pss_one (ps_if (pt_cmpR op_ge (pe_callB x_lenL (by rfl) T.b_len (by decide +kernel) (pa_cons (pe_fld (pv 0) rfl) pa_nil)) (pe_glob (v := .int 16) rfl (T.c_MOST_POINTS).choose_spec ⟨_, rfl⟩) (nomark _)) (pss_one ps_never) pss_nil))), ?_⟩
    have c1 := T.cl_Web
    have c2 := T.na_Web_points
    walk_at "go"
    refine i_kMethC ep rfl ?_
    walk_at "go"
    refine ⟨p, l, d, w, x, rfl, hw, hx, hn, ?_⟩
    walk_at "go"
    refine i_lenL (SqL.of hw.pts) ?_
    walk_at "go"
    rw [List.length_map]
    refine i_dec (fun e => ?_) (fun _ => ?_)
    · omega
    · walk_at "go"
      exact q
def sp_put_point (K : PySem.W.Frag) : Sp := fun vs H Q _ => ∃ p l d w x, vs = [.ref p, .str x] ∧ WebAt K H p l d w ∧ x ∉ w.ps ∧ isNm x = true ∧ w.ps.length < 16 ∧ ∀ H', WebAt K H' p l d (w.put x) → Keep H H' p l d → Q .non H'
theorem ok_Web_put_point (T : Tx K mg) : FnOk P w K mg base CX0 5 (He.ma K (He.ga K "Web") "put_point") T.fd_Web_put_point ["self", "name"] (sp_put_point K) := by
  refine T.F_Web_put_point.ok sc_Web_put_point (fun vs H Q E h => ?_) (fun cdv A outer s H vs Q E hr h => ?_)
  · obtain ⟨_, _, _, _, _, rfl, _⟩ := h
    rfl
  · obtain ⟨p, l, d, w, x, rfl, hw, hx, hn, hl, q⟩ := h
    obtain ⟨dx, ep⟩ := hw.self
    refine ⟨_, PSs.nox (pss_cons (ps_expr (pe_meth (pv 0) T.cl_Web T.m_Web_need_new_point (ok_Web_need_new_point T) (hr.mono (by decide)) T.k_Web_need_new_point .nil pass0 (pa_cons (pv 1) pa_nil)))
      (pss_one (ps_expr (pe_bm PySem.F.plainAttrs_list PySem.F.slot_list_append PySem.F.type_list_append mt_append (pe_fld (pv 0) rfl) (pa_cons (pv 1) pa_nil))))), ?_⟩
    have c1 := T.cl_Web
    have c2 := T.na_Web_points
    walk_at "go"
    refine i_kMethC ep rfl ?_
    walk_at "go"
    refine ⟨p, l, d, w, x, rfl, hw, hx, hn, hl, ?_⟩
    walk_at "go"
    refine i_kTyL (SqL.of hw.pts) ?_
    walk_at "go"
    refine i_append hw.pts ?_ (by rw [List.length_map, sizeLine_eq]; omega)
    walk_at "go"
    obtain ⟨a1, a2⟩ := hw.setPts (Same.refl H) (ps := w.ps ++ [x])
    rw [List.map_append] at a1 a2
    exact q _ a1 a2
end
end K20

set_option Elab.async false
set_option linter.all false
set_option maxRecDepth 100000
set_option maxHeartbeats 2000000
namespace K20
open PySem PySem.Spec PyProof.Rows L2 HX WB
local macro_rules | `(tactic| walk_at "side") => `(tactic| first
  | assumption
  | rfl
  | (show (0 : Int) < _; omega)
  | (unfold CDiv; omega)
  | (unfold CMul; omega)
  | (unfold CPow; omega)
  | (rw [sizeLine_eq]; omega)
  | omega)
local macro_rules | `(tactic| walk_at "e") => `(tactic| first
  | ((with_reducible apply i_var); exact rfl)
  | (with_reducible apply i_c)
  | (with_reducible apply i_op)
  | (with_reducible apply i_un)
  | (with_reducible apply i_rI0)
  | ((with_reducible apply i_rI); (case c => walk_at "side"))
  | (with_reducible apply i_rGe)
  | (with_reducible apply i_rGt)
  | (with_reducible apply i_rU)
  | (with_reducible apply i_rEqI)
  | (with_reducible apply i_rNeI)
  | (with_reducible apply i_rEqS)
  | (with_reducible apply i_rNeS)
  | (with_reducible apply i_rEqB)
  | (with_reducible apply i_rNeB)
  | (with_reducible apply i_rIsN)
  | (with_reducible apply i_rNotN)
  | (with_reducible apply i_rInS)
  | (with_reducible apply i_rNotInS)
  | ((with_reducible apply i_catS); (case c => walk_at "side"))
  | (with_reducible apply i_tcb)
  | (with_reducible apply i_nil)
  | (with_reducible apply i_cons)
  | ((with_reducible apply i_lenS); (case c => walk_at "side"))
  | ((with_reducible apply i_lenL); assumption)
  | (with_reducible apply i_abs)
  | (with_reducible apply i_max2)
  | (with_reducible apply i_min2)
  | ((with_reducible apply i_strI); (case c => walk_at "side"))
  | (with_reducible apply i_intB)
  | (with_reducible apply i_test)
  | (with_reducible apply i_tB)
  | (with_reducible apply i_kB)
  | (with_reducible apply i_and)
  | (with_reducible apply i_or)
  | (with_reducible apply i_not)
  | (with_reducible apply i_if)
  | (with_reducible apply i_andV)
  | (with_reducible apply i_orV)
  | (with_reducible apply i_notV)
  | (with_reducible apply i_kAndV)
  | (with_reducible apply i_kOrV)
  | (with_reducible apply i_kNotV)
  | (with_reducible apply i_chain)
  | (with_reducible apply i_kChain)
  | (with_reducible apply i_drop)
  | (with_reducible apply i_ret)
  | (with_reducible apply i_retN)
  | (with_reducible apply i_ifS)
  | (with_reducible apply i_asg)
  | (with_reducible apply i_gName)
  | (with_reducible apply i_for)
  | (with_reducible apply i_lc)
  | (with_reducible apply i_iList)
  | (with_reducible apply i_iTup)
  | (with_reducible apply i_iStr)
  | (with_reducible apply i_kStrI)
  | (with_reducible apply i_lst)
  | (with_reducible apply i_tup)
  | (with_reducible apply i_call)
  | (with_reducible apply i_m1)
  | (with_reducible apply i_kStr)
  | (with_reducible apply i_bm)
  | (with_reducible apply i_bm0)
  | (with_reducible apply i_part)
  | (with_reducible apply i_kInt)
  | (with_reducible apply i_noPart)
  | (with_reducible apply i_sl)
  | (with_reducible apply i_range1)
  | (with_reducible apply i_range2)
  | ((with_reducible apply i_kRng1); (case c => walk_at "side"))
  | ((with_reducible apply i_kRng2); (case c => walk_at "side"))
  | (with_reducible apply i_gCons)
  | (with_reducible apply i_gNil)
  | (with_reducible apply i_gSub)
  | (with_reducible apply i_iZip)
  | (with_reducible apply i_yes)
  | (with_reducible apply i_ift)
  | (with_reducible apply i_iff)
  | (with_reducible apply i_nb))
local macro_rules | `(tactic| walk_at "go") => `(tactic| repeat (first | (with_reducible apply i_seq) | (with_reducible apply i_next) | walk_at "e"))
local macro_rules | `(tactic| walk_at "ge") => `(tactic| repeat walk_at "e")
local macro_rules | `(tactic| walk_at "sz") => `(tactic| first | decide | (rw [sizeLine_eq]; simp; done) | (rw [sizeLine_eq]; omega))
local macro_rules | `(tactic| walk_at "side") => `(tactic| (with_reducible exact WB.most_pos))
local macro_rules | `(tactic| walk_at "e") => `(tactic| first
  | ((with_reducible apply i_isT (b := true)); exact rfl)
  | ((with_reducible apply i_isT (b := false)); exact rfl)
  | (with_reducible apply i_fld)
  | ((with_reducible apply i_kFld); (case h => assumption); (case c1 => assumption); (case c2 => assumption); (case e => first | exact lk_number | exact lk_tail | exact lk_head | exact lk_load | exact lk_oneway | exact lk_points | exact lk_ties | exact lk_given))
  | (with_reducible apply i_sfld)
  | ((with_reducible apply i_kSFld); (case h => first | assumption | exact upd_same); (case c1 => assumption); (case c2 => assumption); (case e => exact Nat.le_of_ble_eq_true rfl))
  | (with_reducible apply i_methC)
  | (with_reducible apply i_make)
  | (with_reducible apply i_fldaug)
  | (with_reducible apply i_vals)
  | (with_reducible apply i_items)
  | (with_reducible apply i_dget)
  | (with_reducible apply i_dput)
  | (with_reducible apply i_din)
  | (with_reducible apply i_dnotin)
  | (with_reducible apply i_ddel)
  | (with_reducible apply i_dc)
  | (with_reducible apply i_enum)
  | (with_reducible apply i_ckw))
section
variable {P : Program} {w : World} {K : PySem.W.Frag} {mg : Str → Option Value} {base : Heap}
def sp_put_tie (K : PySem.W.Frag) : Sp := fun vs H Q _ => ∃ p l d w t, vs = [.ref p, .str t.t, .str t.h, .int t.c, .bl t.o] ∧ WebAt K H p l d w ∧ Wok w ∧ t.t ∈ w.ps ∧ t.h ∈ w.ps ∧ t.t ≠ t.h ∧ 0 ≤ t.c ∧ t.c ≤ most ∧ w.ts.length < 48 ∧ ∀ H', WebAt K H' p l d (w.tie t) → Keep H H' p l d → Q (.int (w.g + 1)) H'
theorem ok_Web_put_tie (T : Tx K mg) : FnOk P w K mg base CX0 4 (He.ma K (He.ga K "Web") "put_tie") T.fd_Web_put_tie ["self", "tail", "head", "load", "is_oneway"] (sp_put_tie K) := by
  refine T.F_Web_put_tie.ok sc_Web_put_tie (fun vs H Q E h => ?_) (fun cdv A outer s H vs Q E hr h => ?_)
  · obtain ⟨_, _, _, _, _, rfl, _⟩ := h
    rfl
  · obtain ⟨p, l, d, w, t, rfl, hw, ok, h1, h2, h3, h4, h5, h6, q⟩ := h
    obtain ⟨dx, ep⟩ := hw.self
    obtain ⟨kvs, ed, hd⟩ := hw.ties
    have hu := hu_of hr
    refine ⟨_, PSs.nox (pss_cons (ps_expr (pe_meth (pv 0) T.cl_Web T.m_Web_need_point (ok_Web_need_point T) (hr.mono (by decide)) T.k_Web_need_point .nil pass0 (pa_cons (pv 1) pa_nil)))
      (pss_cons (ps_expr (pe_meth (pv 0) T.cl_Web T.m_Web_need_point (ok_Web_need_point T) (hr.mono (by decide)) T.k_Web_need_point .nil pass0 (pa_cons (pv 2) pa_nil)))
      (pss_cons (ps_if (pt_cmpR op_eq (pv 1) (pv 2) (nomark _)) (pss_one ps_never) pss_nil)
      (pss_cons (ps_if (pt_not (pt_val (pe_callB call_isi (by rfl) T.b_isinstance (by decide +kernel) (pa_cons (pv 4) (pa_cons (pe_bltn (v := .ty "bool") rfl T.b_bool (by decide +kernel) rfl) pa_nil))))) (pss_one ps_never) pss_nil)
      (pss_cons (ps_expr (pe_call (ok_need_load T) (hr.mono (by decide)) (by rfl) T.g_need_load T.F_need_load.kp T.k_need_load .nil pass0 (pa_cons (pv 3) pa_nil)))
      (pss_cons (ps_if (pt_cmpR op_ge (pe_callB call_lenD (by rfl) T.b_len (by decide +kernel) (pa_cons (pe_fld (pv 0) rfl) pa_nil)) (pe_glob (v := .int 48) rfl (T.c_MOST_TIES).choose_spec ⟨_, rfl⟩) (nomark _)) (pss_one ps_never) pss_nil)
      (pss_cons (ps_fldaug (pv 0) pe_int in_add)
      (pss_cons (ps_dput hu (pe_fld (pv 0) rfl) (pe_fld (pv 0) rfl) (pe_make T.mk_Tie (ok_Tie_init T) (hr.mono (by decide)) (by rfl) T.g_Tie T.k_Tie_init .nil pass0 (pa_cons (pe_fld (pv 0) rfl) (pa_cons (pv 1) (pa_cons (pv 2) (pa_cons (pv 3) (pa_cons (pv 4) pa_nil)))))) rfl)
      (pss_one (ps_ret (pe_fld (pv 0) rfl))))))))))), ?_⟩
    have c1 := T.cl_Web
    have c3 := T.na_Web_ties
    have c4 := T.na_Web_given
    walk_at "go"
    refine i_kMethC ep rfl ?_
    walk_at "go"
    refine ⟨p, l, d, w, _, rfl, hw, h1, ok.nm _ h1, ?_⟩
    walk_at "go"
    refine i_kMethC ep rfl ?_
    walk_at "go"
    refine ⟨p, l, d, w, _, rfl, hw, h2, ok.nm _ h2, ?_⟩
    walk_at "go"
    refine i_dec (fun e => absurd e h3) (fun _ => ?_)
    walk_at "go"
    refine ⟨t.c, rfl, h4, h5, ?_⟩
    walk_at "go"
    refine ⟨d, kvs, rfl, ed, ?_⟩
    walk_at "go"
    rw [hd.len]
    refine i_dec (fun e => ?_) (fun _ => ?_)
    · omega
    walk_at "go"
    refine i_kFldAugI ep c1 c4 lk_given (Nat.le_of_ble_eq_true rfl) ?_
    rw [pf_given]
    obtain ⟨b1, b2⟩ := hw.setGiven (Same.refl H) (dx := dx) (g := w.g + 1)
    generalize upd H p (.ins (He.ga K "Web") dx (webFs l d (w.g + 1))) = H1 at b1 b2 ⊢
    obtain ⟨dx1, ep1⟩ := b1.self
    walk_at "go"
    intro a dy ha hda hne
    refine ⟨a, dy, w.g + 1, t, rfl, upd_same, rfl, ?_⟩
    rw [upd_upd]
    have s2 : Same H1 (upd (upd H1 dy (.own a)) a (.ins (He.ga K "Tie") dy (tieFs (w.g + 1) t))) := Same.mut (Same.new hda) ha
    have ta : TieAt K (upd (upd H1 dy (.own a)) a (.ins (He.ga K "Tie") dy (tieFs (w.g + 1) t))) (w.g + 1) t a := ⟨dy, upd_same⟩
    generalize upd (upd H1 dy (.own a)) a (.ins (He.ga K "Tie") dy (tieFs (w.g + 1) t)) = H2 at s2 ta ⊢
    have b3 := b1.same s2
    obtain ⟨dx2, ep2⟩ := b3.self
    obtain ⟨kvs2, ed2, hd2⟩ := b3.ties
    walk_at "go"
    have hl2 := hd2.len
    refine i_kDPutI ed2 (by rw [hl2, sizeLine_eq]; show w.ts.length < _; omega) ?_
    have hnew : ∀ z ∈ w.ts, z.1 ≠ w.g + 1 := fun z hz e => by
      have := (ok.ok z.1 z.2 hz).hi
      omega
    obtain ⟨b4, b5⟩ := b3.setTies (Same.refl H2) (put_new hd2 ta hnew)
    generalize upd H2 d (.dK (putK kvs2 (Sum.inl (w.g + 1)) (.ref a))) = H3 at b4 b5 ⊢
    obtain ⟨dx3, ep3⟩ := b4.self
    walk_at "go"
    exact q H3 b4 ((b2.trans (Keep.of s2) (.inl rfl)).trans b5 (.inl rfl))
end
end K20

set_option Elab.async false
set_option linter.all false
set_option maxRecDepth 100000
set_option maxHeartbeats 2000000
namespace K20
open PySem PySem.Spec PyProof.Rows L2 HX WB
local macro_rules | `(tactic| walk_at "side") => `(tactic| first
  | assumption
  | rfl
  | (show (0 : Int) < _; omega)
  | (unfold CDiv; omega)
  | (unfold CMul; omega)
  | (unfold CPow; omega)
  | (rw [sizeLine_eq]; omega)
  | omega)
local macro_rules | `(tactic| walk_at "e") => `(tactic| first
  | ((with_reducible apply i_var); exact rfl)
  | (with_reducible apply i_c)
  | (with_reducible apply i_op)
  | (with_reducible apply i_un)
  | (with_reducible apply i_rI0)
  | ((with_reducible apply i_rI); (case c => walk_at "side"))
  | (with_reducible apply i_rGe)
  | (with_reducible apply i_rGt)
  | (with_reducible apply i_rU)
  | (with_reducible apply i_rEqI)
  | (with_reducible apply i_rNeI)
  | (with_reducible apply i_rEqS)
  | (with_reducible apply i_rNeS)
  | (with_reducible apply i_rEqB)
  | (with_reducible apply i_rNeB)
  | (with_reducible apply i_rIsN)
  | (with_reducible apply i_rNotN)
  | (with_reducible apply i_rInS)
  | (with_reducible apply i_rNotInS)
  | ((with_reducible apply i_catS); (case c => walk_at "side"))
  | (with_reducible apply i_tcb)
  | (with_reducible apply i_nil)
  | (with_reducible apply i_cons)
  | ((with_reducible apply i_lenS); (case c => walk_at "side"))
  | ((with_reducible apply i_lenL); assumption)
  | (with_reducible apply i_abs)
  | (with_reducible apply i_max2)
  | (with_reducible apply i_min2)
  | ((with_reducible apply i_strI); (case c => walk_at "side"))
  | (with_reducible apply i_intB)
  | (with_reducible apply i_test)
  | (with_reducible apply i_tB)
  | (with_reducible apply i_kB)
  | (with_reducible apply i_and)
  | (with_reducible apply i_or)
  | (with_reducible apply i_not)
  | (with_reducible apply i_if)
  | (with_reducible apply i_andV)
  | (with_reducible apply i_orV)
  | (with_reducible apply i_notV)
  | (with_reducible apply i_kAndV)
  | (with_reducible apply i_kOrV)
  | (with_reducible apply i_kNotV)
  | (with_reducible apply i_chain)
  | (with_reducible apply i_kChain)
  | (with_reducible apply i_drop)
  | (with_reducible apply i_ret)
  | (with_reducible apply i_retN)
  | (with_reducible apply i_ifS)
  | (with_reducible apply i_asg)
  | (with_reducible apply i_gName)
  | (with_reducible apply i_for)
  | (with_reducible apply i_lc)
  | (with_reducible apply i_iList)
  | (with_reducible apply i_iTup)
  | (with_reducible apply i_iStr)
  | (with_reducible apply i_kStrI)
  | (with_reducible apply i_lst)
  | (with_reducible apply i_tup)
  | (with_reducible apply i_call)
  | (with_reducible apply i_m1)
  | (with_reducible apply i_kStr)
  | (with_reducible apply i_bm)
  | (with_reducible apply i_bm0)
  | (with_reducible apply i_part)
  | (with_reducible apply i_kInt)
  | (with_reducible apply i_noPart)
  | (with_reducible apply i_sl)
  | (with_reducible apply i_range1)
  | (with_reducible apply i_range2)
  | ((with_reducible apply i_kRng1); (case c => walk_at "side"))
  | ((with_reducible apply i_kRng2); (case c => walk_at "side"))
  | (with_reducible apply i_gCons)
  | (with_reducible apply i_gNil)
  | (with_reducible apply i_gSub)
  | (with_reducible apply i_iZip)
  | (with_reducible apply i_yes)
  | (with_reducible apply i_ift)
  | (with_reducible apply i_iff)
  | (with_reducible apply i_nb))
local macro_rules | `(tactic| walk_at "go") => `(tactic| repeat (first | (with_reducible apply i_seq) | (with_reducible apply i_next) | walk_at "e"))
local macro_rules | `(tactic| walk_at "ge") => `(tactic| repeat walk_at "e")
local macro_rules | `(tactic| walk_at "sz") => `(tactic| first | decide | (rw [sizeLine_eq]; simp; done) | (rw [sizeLine_eq]; omega))
local macro_rules | `(tactic| walk_at "side") => `(tactic| (with_reducible exact WB.most_pos))
local macro_rules | `(tactic| walk_at "e") => `(tactic| first
  | ((with_reducible apply i_isT (b := true)); exact rfl)
  | ((with_reducible apply i_isT (b := false)); exact rfl)
  | (with_reducible apply i_fld)
  | ((with_reducible apply i_kFld); (case h => assumption); (case c1 => assumption); (case c2 => assumption); (case e => first | exact lk_number | exact lk_tail | exact lk_head | exact lk_load | exact lk_oneway | exact lk_points | exact lk_ties | exact lk_given))
  | (with_reducible apply i_sfld)
  | ((with_reducible apply i_kSFld); (case h => first | assumption | exact upd_same); (case c1 => assumption); (case c2 => assumption); (case e => exact Nat.le_of_ble_eq_true rfl))
  | (with_reducible apply i_methC)
  | (with_reducible apply i_make)
  | (with_reducible apply i_fldaug)
  | (with_reducible apply i_vals)
  | (with_reducible apply i_items)
  | (with_reducible apply i_dget)
  | (with_reducible apply i_dput)
  | (with_reducible apply i_din)
  | (with_reducible apply i_dnotin)
  | (with_reducible apply i_ddel)
  | (with_reducible apply i_dc)
  | (with_reducible apply i_enum)
  | (with_reducible apply i_ckw))
section
variable {P : Program} {w : World} {K : PySem.W.Frag} {mg : Str → Option Value} {base : Heap}
/-- an address that is new behind a change of a web is new ahead of it -/
theorem free_keep {H H1 : Hp} {p l d D : Addr} {w1 : Wb} (b1 : WebAt K H1 p l d w1) (b2 : Keep H H1 p l d) (hD : H1 D = none) : H D = none := by
  cases e : H D with
  | none => rfl
  | some o =>
    obtain ⟨dx1, ep1⟩ := b1.self
    obtain ⟨kvs, ed, _⟩ := b1.ties
    by_cases n1 : D = p
    · subst n1; rw [ep1] at hD; cases hD
    · by_cases n2 : D = l
      · subst n2; rw [b1.pts] at hD; cases hD
      · by_cases n3 : D = d
        · subst n3; rw [ed] at hD; cases hD
        · rw [b2 _ _ n1 n2 n3 e] at hD; cases hD
/-- a list of new ties -/
def TiesL (K : PySem.W.Frag) (H : Hp) (as : List Addr) (ts : Ts) : Prop := Two (fun b nt => TieAt K H nt.1 nt.2 b) as ts
theorem TiesL.same {H H' : Hp} {as : List Addr} {ts : Ts} (h : TiesL K H as ts) (s : Same H H') : TiesL K H' as ts := Two.mono h fun _ _ r => r.same s
theorem TiesL.snoc {H : Hp} {as : List Addr} {ts : Ts} {a : Addr} {x : Int × Ti} (h : TiesL K H as ts) (r : TieAt K H x.1 x.2 a) : TiesL K H (as ++ [a]) (ts ++ [x]) := Two.app h (.cons r .nil)
def sp_ties (K : PySem.W.Frag) : Sp := fun vs H Q _ => ∃ p l d w, vs = [.ref p] ∧ WebAt K H p l d w ∧ w.ts.length ≤ 48 ∧ ∀ a as H', Same H H' → H a = none → H' a = some (.lst (as.map V.ref)) → TiesL K H' as w.ts → Q (.ref a) H'
theorem ok_Web_ties (T : Tx K mg) : FnOk P w K mg base CX0 4 (He.ma K (He.ga K "Web") "ties") T.fd_Web_ties ["self"] (sp_ties K) := by
  refine T.F_Web_ties.ok sc_Web_ties (fun vs H Q E h => ?_) (fun cdv A outer s H vs Q E hr h => ?_)
  · obtain ⟨_, _, _, _, rfl, _⟩ := h
    rfl
  · obtain ⟨p, l, d, w, rfl, hw, hl, q⟩ := h
    obtain ⟨dx, ep⟩ := hw.self
    obtain ⟨kvs, ed, hd⟩ := hw.ties
    have hu := hu_of hr
    refine ⟨_, PSs.nox (pss_one (ps_ret (pe_lock (pe_lc (own := [("tie", 1)]) (by rfl) sc_Web_ties.nd (pi_values (pe_fld (pv 0) rfl)) (blkOk_by (own := [("tie", 1)]) (N := N_Web_ties) (sc := defScope s_Web_ties) (by decide +kernel)) (fun _ _ _ _ _ => (pg_name (i := 1) sc_Web_ties.nd rfl (Or.inl rfl))) (fun _ _ _ _ _ => pts_nil) (fun _ _ _ _ _ => (pe_call (ok_between T) (hr.mono (by decide)) (by rfl) T.g_between T.F_between.kp T.k_between .nil pass0 (pa_cons (pv 1) (pa_cons (pe_fldK K rfl (pv 1) rfl) (pa_cons (pe_fldK K rfl (pv 1) rfl) pa_nil))))))))), ?_⟩
    have c1 := T.cl_Web
    have c3 := T.na_Web_ties
    have c4 := T.cl_Tie
    have c5 := T.na_Tie_tail
    have c6 := T.na_Tie_head
    walk_at "go"
    refine i_lockE ed trivial fun od => ?_
    have ep2 := (upd_ne hw.ne_pd (o := .frz od (.dK kvs))).trans ep
    walk_at "go"
    refine i_kVals upd_same ?_
    intro D hD
    have nDd : D ≠ d := fun e => by rw [e, upd_same] at hD; cases hD
    refine lc_it walk_values (fun m H' => Same (upd H d (.frz od (.dK kvs))) H' ∧ ∃ as, H' D = some (.lst (as.map V.ref)) ∧ TiesL K H' as (w.ts.take m))
      ⟨Same.new hD, [], upd_same, by simp; exact .nil⟩ (fun i H' _ h => h.1 _ _ upd_same) ?_ ?_
    · rintro i v H2 H3 hi ⟨s2, as, eD, dp⟩ ⟨rfl, k, hk⟩
      obtain ⟨n, t, a, et, ekv, ta⟩ := hd.item hk
      cases ekv
      have ta2 := (TieAt.locked (o := od) ta ed).same s2
      obtain ⟨dy, ta3⟩ := ta2
      walk_at "go"
      refine ⟨rfl, ?_⟩
      walk_at "go"
      refine ⟨a, n, t, t.t, t.h, rfl, ⟨dy, ta3⟩, fun b H4 s4 tb hb => ?_⟩
      have eD4 := s4 _ _ eD
      refine ⟨as.map V.ref, eD4, ?_, Same.mut (s2.trans s4) hD, as ++ [b], ?_, ?_⟩
      · have := Two.len dp
        rw [List.length_map, this, List.length_take, sizeLine_eq]; omega
      · rw [upd_same, List.map_append]; rfl
      · rw [List.take_add_one, et]
        exact Two.mono (TiesL.snoc (dp.same s4) tb) fun _ _ r => r.other (r.ne eD4 (fun _ _ _ _ => by simp))
    · rintro H2 ⟨s2, as, eD, dp⟩
      rw [hd.len, List.take_length] at dp
      obtain ⟨e2, s3⟩ := lock_same ed s2
      refine ⟨e2, ?_⟩
      walk_at "go"
      refine q D as _ s3 ?_ ((upd_ne nDd).trans eD) (Two.mono dp fun _ _ r => r.unlock e2)
      rwa [upd_ne nDd] at hD
end
end K20

set_option Elab.async false
set_option linter.all false
set_option maxRecDepth 100000
set_option maxHeartbeats 2000000
/-! HXl: a text some times over, slices by steps, sets of texts. -/
namespace L2
open PySem PySem.Spec PyProof.Rows
section
variable {X : Cx}
/-! ### s * k -/
def repS (z : Str) (n : Nat) : Str := ⟨(List.replicate n z.cps).foldl (fun a b => a ++ b) #[]⟩
theorem repS_tl (z : Str) : ∀ n : Nat, (repS z n).cps.toList = (List.replicate n z.cps.toList).flatten := by
  have g : ∀ (n : Nat) (acc : Array Nat), ((List.replicate n z.cps).foldl (fun a b => a ++ b) acc).toList = acc.toList ++ (List.replicate n z.cps.toList).flatten := by
    intro n
    induction n with
    | zero => intro acc; simp
    | succ n ih =>
      intro acc
      rw [List.replicate_succ, List.foldl_cons, ih, List.replicate_succ, List.flatten_cons, Array.toList_append, List.append_assoc]
  intro n
  have := g n #[]
  simpa [repS] using this
theorem repS_len (z : Str) (n : Nat) : (repS z n).length = n * z.length := by
  have e := congrArg List.length (repS_tl z n)
  have h1 : (repS z n).cps.toList.length = (repS z n).length := by simp [Str.length]
  have h2 : z.cps.toList.length = z.length := by simp [Str.length]
  rw [← h1, e, List.length_flatten, List.map_replicate, List.sum_replicate_nat, h2]
def rRepS : R2 := fun x y H Q => ∃ (z : Str) (k : Int), x = .str z ∧ y = .int k ∧ 1 ≤ k ∧ k ≤ 1000 ∧ 1 ≤ z.length ∧ z.length ≤ 100 ∧ Q (.str (repS z k.toNat)) H
theorem op_repS : OpR X (binaryOp .Mult) rRepS := by
  intro pins s σ H x y v u Q I rx ry h
  obtain ⟨z, k, rfl, rfl, k1, k2, z1, z2, q⟩ := h
  obtain ⟨t, rfl⟩ := rx
  obtain ⟨t2, rfl⟩ := ry
  have small : z.length * k.toNat ≤ 100 * 1000 := Nat.mul_le_mul z2 (by omega)
  refine PySem.P.mul_str ?_ (fun _ _ => ?_) (fun _ _ => ?_) ?_
  · have a1 : ¬ k < -(2 ^ 63 : Int) := by omega
    have a2 : ¬ k ≥ 2 ^ 63 := by omega
    rw [decide_eq_false a1, decide_eq_false a2]; rfl
  · have d : (2 ^ 63 - 1 : Int) / 1000 ≤ (2 ^ 63 - 1) / k := by
      have e1 : (2 ^ 63 - 1 : Int) / 1000 * k ≤ (2 ^ 63 - 1 : Int) / 1000 * 1000 := Int.mul_le_mul_of_nonneg_left k2 (by decide)
      have e2 : (2 ^ 63 - 1 : Int) / 1000 * 1000 ≤ 2 ^ 63 - 1 := by decide
      exact (Int.le_ediv_iff_mul_le (by omega)).mpr (Int.le_trans e1 e2)
    have e3 : (100 : Int) ≤ (2 ^ 63 - 1 : Int) / 1000 := by decide
    omega
  · exact decide_eq_false (by rw [sizeLine_eq]; omega)
  · have k3 : ¬ k < 1 := by omega
    rw [if_neg k3]
    by_cases c : (k == 1 || z.length == 0) = true
    · rw [if_pos c]
      have ek : k = 1 := by
        rcases Bool.or_eq_true_iff.mp c with c | c
        · simpa using c
        · have : z.length = 0 := by simpa using c
          omega
      subst ek
      have ez : repS z (1 : Int).toNat = z := by
        show (⟨#[] ++ z.cps⟩ : Str) = z
        rw [Array.empty_append]
      rw [ez] at q
      exact ⟨.str z, H, I, ⟨_, rfl⟩, q⟩
    · rw [if_neg c]
      refine ⟨?_, .str (repS z k.toNat), H, I.tok _, ⟨_, rfl⟩, q⟩
      show (repS z k.toNat).length ≤ sizeLine
      rw [repS_len, sizeLine_eq, Nat.mul_comm]
      omega
theorem i_rRepS {H : Hp} {z : Str} {k : Int} {Q : VK} (k1 : 1 ≤ k) (k2 : k ≤ 1000) (z1 : 1 ≤ z.length) (z2 : z.length ≤ 100) (q : Q (.str (repS z k.toNat)) H) : rRepS (.str z) (.int k) H Q := ⟨z, k, rfl, rfl, k1, k2, z1, z2, q⟩
/-! ### xs[i::k] -/
def Picked {α : Type} (xs ys : List α) : Prop := ∃ js : List Nat, js.Pairwise (· < ·) ∧ ys = js.filterMap (xs[·]?)
theorem vals_pick {xs : List V} {its : List Value} (r : Vals xs its) : ∀ js : List Nat, Vals (js.filterMap (xs[·]?)) (js.filterMap (its[·]?))
  | [] => .nil
  | j :: js => by
    have hl := r.length
    rw [List.filterMap_cons, List.filterMap_cons]
    rcases Nat.lt_or_ge j xs.length with h | h
    · obtain ⟨u, e2, rv⟩ := r.get (List.getElem?_eq_getElem h)
      rw [List.getElem?_eq_getElem h, e2]
      exact .cons rv (vals_pick r js)
    · rw [List.getElem?_eq_none_iff.mpr h, List.getElem?_eq_none_iff.mpr (by omega)]
      exact vals_pick r js
theorem pick_len {α : Type} (xs : List α) : ∀ (js : List Nat) (m : Nat), js.Pairwise (· < ·) → (∀ j ∈ js, m ≤ j) → (js.filterMap (xs[·]?)).length ≤ xs.length - m
  | [], m, _, _ => Nat.zero_le _
  | j :: js, m, h, hm => by
    obtain ⟨h1, h2⟩ := List.pairwise_cons.mp h
    have hj := hm j (List.mem_cons_self ..)
    have ih := pick_len xs js (j + 1) h2 (fun i hi => h1 i hi)
    rw [List.filterMap_cons]
    rcases Nat.lt_or_ge j xs.length with c | c
    · rw [List.getElem?_eq_getElem c]
      simp only [List.length_cons]
      omega
    · rw [List.getElem?_eq_none_iff.mpr c]
      simp only
      omega
theorem range_rise {a b k : Int} (h0 : 0 ≤ a) (hk : 0 < k) : (sliceRange a b k).Pairwise (· < ·) := by
  unfold sliceRange
  refine List.pairwise_map.mpr (List.Pairwise.imp ?_ List.pairwise_lt_range)
  intro i j hij
  have : k * (i : Int) < k * (j : Int) := Int.mul_lt_mul_of_pos_left (by omega) hk
  have : 0 ≤ k * (i : Int) := Int.mul_nonneg (by omega) (by omega)
  omega
theorem pick_rise (items : Array Value) {i k : Int} (hk : 0 < k) : ∃ js : List Nat, js.Pairwise (· < ·) ∧ slicePick items (some i) none (some k) = (js.filterMap (items[·]?)).toArray := by
  refine ⟨sliceRange (sliceBounds (some i) none (some k) items.size).1 (sliceBounds (some i) none (some k) items.size).2.1 k, range_rise ?_ hk, ?_⟩
  · show (0 : Int) ≤ (if k > 0 then max 0 (min (if i < 0 then i + (items.size : Int) else i) (items.size : Int)) else max (-1) (min (if i < 0 then i + (items.size : Int) else i) ((items.size : Int) - 1)))
    rw [if_pos hk]
    exact Int.le_max_left ..
  · rfl
def kStepLo (K : PySem.W.Frag) (x : V) (Q : VK) (ol : Option Int) : Option Int → Hp → Prop := fun o H2 => ∃ a xs i k, x = .ref a ∧ ol = some i ∧ o = some k ∧ SqL K H2 a xs ∧ 0 < k ∧ ∀ p ys, Picked xs ys → H2 p = none → Q (.ref p) (upd H2 p (.lst ys))
def tStepLo (K : PySem.W.Frag) (te : TE) (tl tk : TO) : TE := fun σ H Q => te σ H fun x H1 => tl σ H1 fun ol H2 => tk σ H2 (kStepLo K x Q ol)
theorem i_stepLo {K : PySem.W.Frag} {te : TE} {tl tk : TO} {σ : L2.St} {H : Hp} {Q : VK} (q : te σ H fun x H1 => tl σ H1 fun ol H2 => tk σ H2 (kStepLo K x Q ol)) : tStepLo K te tl tk σ H Q := q
theorem i_kStepLo {K : PySem.W.Frag} {H : Hp} {Q : VK} {a : Addr} {xs : List V} {i k : Int} (h : SqL K H a xs) (hk : 0 < k) (q : ∀ p ys, Picked xs ys → H p = none → Q (.ref p) (upd H p (.lst ys))) : kStepLo K (.ref a) Q (some i) (some k) H :=
  ⟨a, xs, i, k, rfl, rfl, rfl, h, hk, q⟩
theorem pe_stepLo {e el ek : Expr} {te tl tk : TE} {p3 pos : Pos} (he : PE X e te) (hl : PE X el tl) (hk : PE X ek tk) : PE X (.Subscript e (.Slice (some el) none (some ek) p3) pos) (tStepLo X.K te (tPart tl) (tPart tk)) := by
  refine ⟨fun pins s σ H Q I h => Subscript_ (thn (he.run pins s σ H _ I h) fun v s1 ⟨x, H1, I1, r1, q1⟩ => ?_)⟩
  refine wpAny_Slice (thn ((po_some hl : PO X (some el) (tPart tl)).run pins s1 σ H1 _ I1 q1) fun vl s2 ⟨ol, H2, I2, pl, q2⟩ => ?_)
  refine thn (po_none.run pins s2 σ H2 (fun o H3 => o = none ∧ H3 = H2) I2 ⟨rfl, rfl⟩) fun vu s3 ⟨u, H3, I3, pu, eu, e3⟩ => ?_
  subst eu e3
  refine thn ((po_some hk : PO X (some ek) (tPart tk)).run pins s3 σ H3 _ I3 q2) fun vs s4 ⟨o, H4, I4, ps, a, xs, i, k, ex, el', eo, hx, k0, q⟩ => ?_
  subst eo ex el'
  obtain rfl : v = Value.ref a := r1
  have I5 : Inv X pins σ H4 { s4 with heap := s4.heap.push { cls := .type "slice", data := .fields #[vl, vu, vs] } } := I4.kept (t' := s4.toks) fun b ob q => Heap.get?_push_of_some _ q
  obtain ⟨its, r, ht, hz⟩ := I5.list hx
  have hlen := r.length
  show wpAny (model X.prog X.w) X.A (subscriptTail e (.Slice (some el) none (some ek) p3) (.ref a) (.ref s4.heap.objs.size)) (EP X pins σ Q) X.xe { s4 with heap := s4.heap.push { cls := .type "slice", data := .fields #[vl, vu, vs] } }
  refine tail_any (ops := [.ref a, .ref s4.heap.objs.size]) ht.isList.typeIs (PySem.slot_list_getitem.lookup) ?_ (by with_unfolding_all rfl)
  refine wpAny_getItem_list_slice ht.isList (Heap.IsSliceOf.new _ vl vu vs) pl pu ps (fun c => by cases c; exact absurd k0 (by decide)) ?_ (by rw [List.size_toArray]; omega)
  obtain ⟨js, hj, ej⟩ := pick_rise its.toArray (i := i) k0
  have ej2 : js.filterMap (its.toArray[·]?) = js.filterMap (its[·]?) := by congr 1; funext j; simp
  rw [ej, ej2]
  have rp := vals_pick r js
  refine ⟨.ref _, _, I5.laid (t' := s4.toks) (o := .lst (js.filterMap (xs[·]?))) (fun b ob q => Heap.get?_push_of_some _ q) (Nat.le_refl _) ?_, rfl, q _ _ ⟨js, hj, rfl⟩ (I5.hok.fresh (Nat.le_refl _))⟩
  exact ⟨Nat.le_trans (by simpa using pick_len xs js 0 hj (fun _ _ => Nat.zero_le _)) hz, _, 0, rp, Heap.get?_push_size _ rfl⟩
end
end L2

set_option Elab.async false
set_option linter.all false
set_option maxRecDepth 100000
set_option maxHeartbeats 3200000
/-! HXs: how many unlike texts a list has, where all are unlike. -/
namespace L2
open PySem PySem.Spec PyProof.Rows
section
variable {prog : Program} {w : World} {A : Around} {E : Value → Shared → Prop} {s : Shared}
/-- the first i texts -/
abbrev upTo (xs : List Str) (i : Nat) : Str → Bool := fun z => decide (z ∈ xs.take i)
theorem upTo_next {xs : List Str} {i : Nat} (h : i < xs.length) (z : Str) : (upTo xs i z || decide (z = xs.getD i Str.empty)) = upTo xs (i + 1) z := by
  have e : xs.getD i Str.empty = xs[i] := by rw [List.getD_eq_getElem?_getD, List.getElem?_eq_getElem h]; rfl
  unfold upTo
  rw [e, ← Bool.decide_or, List.take_add_one, List.getElem?_eq_getElem h]
  exact decide_eq_decide.mpr (by rw [List.mem_append]; simp only [Option.toList_some, List.mem_singleton])
theorem upTo_new {xs : List Str} (nd : xs.Nodup) {i : Nat} (h : i < xs.length) : upTo xs i (xs.getD i Str.empty) = false := by
  have e : xs.getD i Str.empty = xs[i] := by rw [List.getD_eq_getElem?_getD, List.getElem?_eq_getElem h]; rfl
  refine decide_eq_false fun m => ?_
  rw [e] at m
  obtain ⟨k, hk, ek⟩ := List.mem_take_iff_getElem.mp m
  have := (List.getElem_inj nd (h₀ := by omega) (h₁ := h)).mp ek
  omega
theorem texts_in {R : Result → Shared → Prop} {I T : Addr} {fp wr : List Addr} {G : Array GenState → Array GenState → Prop} {P : Nat → Value → Prop} {St : Nat → Shared → Prop} {xs : List Str}
    (W : WalksS prog w A.in1 I fp wr G xs.length P St) (apart : T ∉ fp) (nd : xs.Nodup) (few : xs.length ≤ 4000) (txt : ∀ i v, P i v → ∃ t, v = .str (xs.getD i Str.empty) t)
    (fin : ∀ s', Moved (T :: wr) G s s' → s'.heap.SetOf (PySem.strKind prog w) T (upTo xs xs.length) xs.length → R (.ok (.ret .none)) s') (h0 : St 0 s) (hT : s.heap.SetOf (PySem.strKind prog w) T (upTo xs 0) 0) :
    codeAny (model prog w) A (.builtin "set.update.loop" ⟨[.ref T, .ref I], []⟩) R s := by
  have off : T ∉ wr := fun m => apart (W.sub _ m)
  have wide : ∀ b ∈ wr, b ∈ T :: wr := fun _ m => List.mem_cons_of_mem _ m
  have all : ∀ (left i : Nat) (s : Shared), i + left = xs.length → St i s → s.heap.SetOf (PySem.strKind prog w) T (upTo xs i) i →
      (∀ s', Moved (T :: wr) G s s' → s'.heap.SetOf (PySem.strKind prog w) T (upTo xs xs.length) xs.length → R (.ok (.ret .none)) s') → codeAny (model prog w) A (.builtin "set.update.loop" ⟨[.ref T, .ref I], []⟩) R s := by
    intro left
    induction left with
    | zero =>
      intro i s e hi hS q
      obtain rfl : i = xs.length := by omega
      refine codeAny_builtin PyProof.Rows.F.entry_set_update_loop (?_ : _)
      rw [Around.under_plainId PyProof.Rows.F.plain_set_update_loop _]
      show wpAny (model prog w) A.in1 (pyNext (.ref I) >>= _) _ _ s
      refine wpAny_bind (W.done s _ _ hi fun t mv => (wpAny_pure (q t (mv.mono wide) ?_) : wpAny (model prog w) A.in1 (ret Value.none) _ _ t))
      obtain ⟨o, es, ep, tb, ho, more⟩ := hS
      exact ⟨o, es, ep, tb, mv.heap T _ off ho, more⟩
    | succ left ih =>
      intro i s e hi hS q
      have lt : i < xs.length := by omega
      refine codeAny_builtin PyProof.Rows.F.entry_set_update_loop (?_ : _)
      rw [Around.under_plainId PyProof.Rows.F.plain_set_update_loop _]
      show wpAny (model prog w) A.in1 (pyNext (.ref I) >>= _) _ _ s
      refine wpAny_bind (W.item i s _ _ lt hi fun v t hv ht mv => ?_)
      obtain ⟨tk, rfl⟩ := txt i v hv
      have hS2 : t.heap.SetOf (PySem.strKind prog w) T (upTo xs i) i := by
        obtain ⟨o, es, ep, tb, ho, more⟩ := hS
        exact ⟨o, es, ep, tb, mv.heap T _ off ho, more⟩
      generalize ez : xs.getD i Str.empty = z
      show wpAny (model prog w) A.in1 (holding [Value.str z tk] (setAdd T (.str z tk)) >>= _) _ _ t
      refine wpAny_bind (wpAny_holding (?_ : _))
      unfold setAdd
      refine wpAny_holding (wpAny_bind ((PySem.strKind prog w).pyHash (k := z) (strKind_is _ _ _ _) ?_))
      refine wpAny_setAddHashed_of (knd := PySem.strKind prog w) (s := { t with toks := t.toks + 1 }) (strKind_is _ _ _ _) rfl hS2 (by unfold scanBound; omega) fun h2 but hS3 => ?_
      have new : upTo xs i z = false := by rw [← ez]; exact upTo_new nd lt
      have hS4 : h2.SetOf (PySem.strKind prog w) T (upTo xs (i + 1)) (i + 1) := SetOf_congr hS3 (fun y => by rw [← upTo_next lt, ez]) (by rw [new]; rfl)
      refine wpAny_pure ⟨plainId_quiet PyProof.Rows.F.plain_set_update_loop _, ih (i + 1) _ (by omega) (W.frame _ t _ _ ht (Nat.le_succ _) fun b hb o eb => (but.2 b (fun c => apart (c ▸ hb))).trans eb) hS4 fun t2 mv2 hS5 => ?_⟩
      exact q t2 (Moved.trans W.gtrans ((mv.mono wide).then_heap (Nat.le_succ _) fun b o hb eb => (but.2 b (fun c => hb (c ▸ List.mem_cons_self))).trans eb) mv2) hS5
  exact all xs.length 0 s (Nat.zero_add _) h0 hT fin
/-- an empty set, as it is made -/
abbrev emptyS (led : Bool) : Obj := { cls := .type "set", dict := none, data := .set #[] 0 (.fresh 0 0 led) }
/-- the set of a list of unlike texts -/
theorem set_of_texts {l : Addr} {its : Array Value} {xs : List Str} {Q : Value → Shared → Prop} (calm : A.handled = none) (hl : s.heap.IsList l its) (ht : StrsAre its.toList xs) (nd : xs.Nodup) (few : xs.length ≤ 4000)
    (q : ∀ (h' : Heap) (tk : Nat), h'.SetOf (PySem.strKind prog w) s.heap.objs.size (upTo xs xs.length) xs.length → (∀ b o, b < s.heap.objs.size → s.heap.get? b = some o → h'.get? b = some o) → Q (.ref s.heap.objs.size) { s with heap := h', toks := tk }) :
    wpAny (model prog w) A (call (.type "set") [.ref l]) Q E s := by
  have size : its.size = xs.length := by rw [← StrsAre.len_eq ht, Array.length_toList]
  obtain ⟨c, tl, m1⟩ := PySem.F.called_set.mro
  have m2 := PySem.F.called_set.made
  have m3 := PySem.F.called_set.sub
  refine wpAny_call (codeAny_of_tree (?_ : wpAny _ _ (callAny (.type "set") _) _ _ _))
  refine wpAny_pure ⟨Code.quiet_builtin _ (by decide +kernel), codeAny_builtin PySem.F.entry_type_call (?_ : _)⟩
  rw [Around.under_plain (weight_type_call_type "set" [.ref l] []) rfl]
  have m4 := PySem.F.called_set.notType
  have m5 := PySem.F.called_set.canCreate
  have m6 := PySem.F.typeCall_set_1 (.ref l)
  repeat (any_goals (first | assumption | wp_step))
  refine codeAny_mono (code_set_new_1 (.ref l) (E := E) (Q₁ := fun made t => ∃ led : Bool, made = .ref s.heap.objs.size ∧ t = { s with heap := s.heap.push (emptyS led) }) fun led => ⟨led, rfl, rfl⟩) fun r t hr => ?_
  rcases r with e | fl
  · exact hr
  rcases fl with made | _ | _ | _
  rotate_left
  all_goals first | exact hr.elim | skip
  obtain ⟨led, rfl, rfl⟩ := hr
  have at' : (s.heap.push (emptyS led)).get? s.heap.objs.size = some (emptyS led) := Heap.get?_push_size _ rfl
  have ty : Shared.TypeIs { s with heap := s.heap.push (emptyS led) } (.ref s.heap.objs.size) "set" := ⟨_, at', rfl⟩
  have m7 := PySem.F.called_set.init.lookup
  have m8 := PySem.F.called_set.init.bind (.ref s.heap.objs.size)
  repeat (any_goals (first | assumption | wp_step))
  refine codeAny_mono (codeAny_call_builtin (R := wants (fun r t => r = .none ∧ ∃ h' tk, t = { s with heap := h', toks := tk } ∧ h'.SetOf (PySem.strKind prog w) s.heap.objs.size (upTo xs xs.length) xs.length ∧
      (∀ b o, b < s.heap.objs.size → s.heap.get? b = some o → h'.get? b = some o)) E) PySem.F.called_set.init.plain PySem.F.entry_set_init (check_set_init_1 ty (?_ : _))) fun r t hr => ?_
  · obtain ⟨⟨oc, od, oda, os⟩, ho, hc, n, hd⟩ := hl
    dsimp only at hc hd
    subst hc hd
    have ho2 : (s.heap.push (emptyS led)).get? l = some { cls := .type "list", dict := od, data := .seq its n, slots := os } := Heap.get?_push_of_some _ ho
    have n1 := PySem.F.sub_list_set
    have n2 := PySem.F.sub_list_frozenset
    have n3 : (Value.type "list" == Value.type "dict") = false := by decide
    have hl1 : (s.heap.push (emptyS led)).IsList l its := ⟨_, ho2, rfl, n, rfl⟩
    unfold Builtin.«set.__init__» noKeywords Builtin.Frozenset.updateFrom
    generalize ep : pyIter = pit
    wp_walk
    subst ep
    have lt : l < s.heap.objs.size := Heap.lt_size ho
    have lS : (s.heap.push (emptyS led)).objs.size = s.heap.objs.size + 1 := Heap.size_push ..
    refine wpAny_pyIter_list hl1 (wpAny_bind (wpAny_runValue ?_))
    have key : ∀ (i : Nat) (v : Value), its[i]? = some v → ∃ t, v = .str (xs.getD i Str.empty) t := fun i v hv => SS.strs_at ht i v (by rw [Array.getElem?_toList]; exact hv)
    have walk := (Walks.list (prog := prog) (w := w) (A := A.in1.in1.in1) (by simp [calm]) (s.heap.push (emptyS led)).objs.size l (by rw [lS]; exact Nat.ne_of_lt (Nat.lt_succ_of_lt lt)) its).toS
    rw [size] at walk
    refine texts_in walk (by rw [lS]; simp only [List.mem_cons, List.not_mem_nil, or_false, not_or]; exact ⟨Nat.ne_of_lt (Nat.lt_succ_self _), Nat.ne_of_gt lt⟩) nd few key (fun t mv hS => ?_) ⟨⟨_, Heap.get?_push_size _ rfl, rfl, rfl⟩, hl1.push _⟩ ?_
    · obtain ⟨h', g', d', tk', os'⟩ := t
      obtain rfl : g' = s.gens := mv.gens
      obtain rfl : d' = s.drawn := mv.drawn
      obtain rfl : os' = s.os := mv.os
      show wpAny (model prog w) _ _ _ _ _
      refine wpAny_pure ?_
      show wpAny (model prog w) _ (ret Value.none) _ _ _
      refine wpAny_pure ⟨rfl, h', tk', rfl, hS, fun b o hb eb => mv.heap b o (by rw [lS]; simp only [List.mem_cons, List.not_mem_nil, or_false, not_or]; exact ⟨Nat.ne_of_lt hb, Nat.ne_of_lt (Nat.lt_succ_of_lt hb)⟩) (Heap.get?_push_of_some _ (Heap.get?_push_of_some _ eb))⟩
    · exact SetOf_congr ((PyProof.Rows.setObjOf_fresh (knd := PySem.strKind prog w) led).setOf (Heap.get?_push_of_some _ at') (by unfold scanBound; omega)) (fun z => by simp [upTo]) rfl
  · rcases r with e | fl
    · exact hr
    rcases fl with made | _ | _ | _
    rotate_left
    all_goals first | exact hr.elim | skip
    obtain ⟨rfl, h', tk, rfl, hS, keep⟩ := hr
    repeat (any_goals (first | assumption | wp_step))
    exact q _ _ hS keep
end
/-! ### len(set(xs)) -/
section
variable {X : Cx}
def tLenSetT (K : PySem.W.Frag) (ta : TE) : TE := fun σ H Q => ta σ H fun x H1 => ∃ (l : Addr) (xs : List Str), x = .ref l ∧ SqL K H1 l (xs.map V.str) ∧ xs.Nodup ∧ xs.length ≤ 4000 ∧ Q (.int (xs.length : Nat)) H1
theorem i_lenSetT {K : PySem.W.Frag} {ta : TE} {σ : L2.St} {H : Hp} {Q : VK} (q : ta σ H fun x H1 => ∃ (l : Addr) (xs : List Str), x = .ref l ∧ SqL K H1 l (xs.map V.str) ∧ xs.Nodup ∧ xs.length ≤ 4000 ∧ Q (.int (xs.length : Nat)) H1) : tLenSetT K ta σ H Q := q
theorem pe_lenSetT {a : Expr} {ta : TE} {p p2 q pos : Pos} (hg : Gl X "len") (hm : X.mg "len" = none) (hg2 : Gl X "set") (hm2 : X.mg "set" = none) (ha : PE X a ta) (hc : X.calm = true := by rfl)
    (na : starEach [a] X.env = (false, eval a X.env) :: starEach [] X.env := by rfl) : PE X (.Call (.Name "len" p) [.Call (.Name "set" p2) [a] [] q] [] pos) (tLenSetT X.K ta) :=
  ⟨fun pins s σ H Q I h => Call_ (ld_blt I hg hm boot_len (PyProof.Rows.callWith_builtin1 (PyProof.Rows.args_cons (Call_ (ld_blt I hg2 hm2 boot_set (PyProof.Rows.callWith_type1 (PyProof.Rows.args_cons
    (thn (ha.run pins s σ H _ I h) fun v s1 ⟨x, H1, I1, r1, q1⟩ => PyProof.Rows.args_nil (by
      obtain ⟨l, xs, rfl, hq, nd, few, q1⟩ := q1
      obtain rfl : v = Value.ref l := r1
      obtain ⟨its, r, pl, hz⟩ := I1.list hq
      refine set_of_texts (its := its.toArray) (I1.ok.hd hc) pl.isList (by simpa using strsAre_of r) nd few fun h' tk hS hk => PyProof.Rows.args_nil ?_
      obtain ⟨o, es, ep, t, ho, hex, hd, _, _, _, hf, hn⟩ := hS
      have I2 : Inv X pins σ H1 { s1 with heap := h', toks := tk } := I1.kept fun b o e => hk b o (Heap.lt_size e) e
      exact call_len_set ho hex hd hf (by rw [hn]; omega) ⟨.int (xs.length : Nat), H1, I2.tok _, ⟨_, by rw [hn]⟩, q1⟩)) na) na rfl))) rfl) rfl rfl))⟩
end
end L2

set_option Elab.async false
set_option linter.all false
set_option maxRecDepth 100000
set_option maxHeartbeats 2000000
/-! HXf: readings of texts put together. -/
namespace HX
open PySem PySem.Spec PyProof.Rows L2
section
variable {X : Cx} {σ : L2.St} {H : Hp} {Q : VK}
def tJoin (ts : List TE) : TE := fun σ H Q => tJs ts Str.empty σ H (fun out H1 => Q (.str out) H1)
theorem pe_join {v1 v2 : Expr} {rest : List Expr} {ts : List TE} {pos : Pos} (h : PJ X (v1 :: v2 :: rest) ts) : PE X (.JoinedStr (v1 :: v2 :: rest) pos) (tJoin ts) := pe_joined h
def kJ (ts : List TE) (acc : Str) (σ : L2.St) (R : Str → Hp → Prop) : VK := fun x H1 => ∃ y : Str, x = .str y ∧ (acc ++ y).length ≤ sizeLine ∧ tJs ts (acc ++ y) σ H1 R
def kF (Q : VK) : VK := fun x H1 => (∃ y : Str, x = .str y ∧ y.length ≤ sizeLine ∧ Q (.str y) H1) ∨ ∃ i : Int, x = .int i ∧ i.natAbs.log2 < 1920 ∧ Q (.str (toString i)) H1
theorem i_tJoin {ts : List TE} (q : tJs ts Str.empty σ H (fun out H1 => Q (.str out) H1)) : tJoin ts σ H Q := q
theorem i_tJsC {t : TE} {ts : List TE} {acc : Str} {R : Str → Hp → Prop} (q : t σ H (kJ ts acc σ R)) : tJs (t :: ts) acc σ H R := q
theorem i_tJsN {acc : Str} {R : Str → Hp → Prop} (q : R acc H) : tJs [] acc σ H R := q
theorem i_kJ {ts : List TE} {acc y : Str} {R : Str → Hp → Prop} (c : (acc ++ y).length ≤ sizeLine) (q : tJs ts (acc ++ y) σ H R) : kJ ts acc σ R (.str y) H := ⟨y, rfl, c, q⟩
theorem i_tFmt {te : TE} (q : te σ H (kF Q)) : tFmt te σ H Q := q
theorem i_kFS {y : Str} (c : y.length ≤ sizeLine) (q : Q (.str y) H) : kF Q (.str y) H := .inl ⟨y, rfl, c, q⟩
theorem len_e : Str.empty.length = 0 := rfl
theorem len_b : (" " : Str).length = 1 := by decide +kernel
theorem len_p : ("point " : Str).length = 6 := by decide +kernel
theorem len_g : ("given " : Str).length = 6 := by decide +kernel
theorem i_lenSetC {K : PySem.W.Frag} {ta : TE} (q : ta σ H fun x H1 => ∃ (l : Addr) (xs : List Str), x = .ref l ∧ SqL K H1 l (xs.map V.str) ∧ xs.Nodup ∧ xs.length ≤ 4000 ∧ Q (.int (xs.length : Nat)) H1) : tLenSetT K ta σ H Q := q
end
end HX

set_option Elab.async false
set_option linter.all false
set_option maxRecDepth 100000
set_option maxHeartbeats 2000000
namespace K20
open PySem PySem.Spec PyProof.Rows L2 HX WB
local macro_rules | `(tactic| walk_at "side") => `(tactic| first
  | assumption
  | rfl
  | (show (0 : Int) < _; omega)
  | (unfold CDiv; omega)
  | (unfold CMul; omega)
  | (unfold CPow; omega)
  | (rw [sizeLine_eq]; omega)
  | omega)
local macro_rules | `(tactic| walk_at "e") => `(tactic| first
  | ((with_reducible apply i_var); exact rfl)
  | (with_reducible apply i_c)
  | (with_reducible apply i_op)
  | (with_reducible apply i_un)
  | (with_reducible apply i_rI0)
  | ((with_reducible apply i_rI); (case c => walk_at "side"))
  | (with_reducible apply i_rGe)
  | (with_reducible apply i_rGt)
  | (with_reducible apply i_rU)
  | (with_reducible apply i_rEqI)
  | (with_reducible apply i_rNeI)
  | (with_reducible apply i_rEqS)
  | (with_reducible apply i_rNeS)
  | (with_reducible apply i_rEqB)
  | (with_reducible apply i_rNeB)
  | (with_reducible apply i_rIsN)
  | (with_reducible apply i_rNotN)
  | (with_reducible apply i_rInS)
  | (with_reducible apply i_rNotInS)
  | ((with_reducible apply i_catS); (case c => walk_at "side"))
  | (with_reducible apply i_tcb)
  | (with_reducible apply i_nil)
  | (with_reducible apply i_cons)
  | ((with_reducible apply i_lenS); (case c => walk_at "side"))
  | ((with_reducible apply i_lenL); assumption)
  | (with_reducible apply i_abs)
  | (with_reducible apply i_max2)
  | (with_reducible apply i_min2)
  | ((with_reducible apply i_strI); (case c => walk_at "side"))
  | (with_reducible apply i_intB)
  | (with_reducible apply i_test)
  | (with_reducible apply i_tB)
  | (with_reducible apply i_kB)
  | (with_reducible apply i_and)
  | (with_reducible apply i_or)
  | (with_reducible apply i_not)
  | (with_reducible apply i_if)
  | (with_reducible apply i_andV)
  | (with_reducible apply i_orV)
  | (with_reducible apply i_notV)
  | (with_reducible apply i_kAndV)
  | (with_reducible apply i_kOrV)
  | (with_reducible apply i_kNotV)
  | (with_reducible apply i_chain)
  | (with_reducible apply i_kChain)
  | (with_reducible apply i_drop)
  | (with_reducible apply i_ret)
  | (with_reducible apply i_retN)
  | (with_reducible apply i_ifS)
  | (with_reducible apply i_asg)
  | (with_reducible apply i_gName)
  | (with_reducible apply i_for)
  | (with_reducible apply i_lc)
  | (with_reducible apply i_iList)
  | (with_reducible apply i_iTup)
  | (with_reducible apply i_iStr)
  | (with_reducible apply i_kStrI)
  | (with_reducible apply i_lst)
  | (with_reducible apply i_tup)
  | (with_reducible apply i_call)
  | (with_reducible apply i_m1)
  | (with_reducible apply i_kStr)
  | (with_reducible apply i_bm)
  | (with_reducible apply i_bm0)
  | (with_reducible apply i_part)
  | (with_reducible apply i_kInt)
  | (with_reducible apply i_noPart)
  | (with_reducible apply i_sl)
  | (with_reducible apply i_range1)
  | (with_reducible apply i_range2)
  | ((with_reducible apply i_kRng1); (case c => walk_at "side"))
  | ((with_reducible apply i_kRng2); (case c => walk_at "side"))
  | (with_reducible apply i_gCons)
  | (with_reducible apply i_gNil)
  | (with_reducible apply i_gSub)
  | (with_reducible apply i_iZip)
  | (with_reducible apply i_yes)
  | (with_reducible apply i_ift)
  | (with_reducible apply i_iff)
  | (with_reducible apply i_nb))
local macro_rules | `(tactic| walk_at "go") => `(tactic| repeat (first | (with_reducible apply i_seq) | (with_reducible apply i_next) | walk_at "e"))
local macro_rules | `(tactic| walk_at "ge") => `(tactic| repeat walk_at "e")
local macro_rules | `(tactic| walk_at "sz") => `(tactic| first | decide | (rw [sizeLine_eq]; simp; done) | (rw [sizeLine_eq]; omega))
local macro_rules | `(tactic| walk_at "side") => `(tactic| (with_reducible exact WB.most_pos))
local macro_rules | `(tactic| walk_at "e") => `(tactic| first
  | ((with_reducible apply i_isT (b := true)); exact rfl)
  | ((with_reducible apply i_isT (b := false)); exact rfl)
  | (with_reducible apply i_fld)
  | ((with_reducible apply i_kFld); (case h => assumption); (case c1 => assumption); (case c2 => assumption); (case e => first | exact lk_number | exact lk_tail | exact lk_head | exact lk_load | exact lk_oneway | exact lk_points | exact lk_ties | exact lk_given))
  | (with_reducible apply i_sfld)
  | ((with_reducible apply i_kSFld); (case h => first | assumption | exact upd_same); (case c1 => assumption); (case c2 => assumption); (case e => exact Nat.le_of_ble_eq_true rfl))
  | (with_reducible apply i_methC)
  | (with_reducible apply i_make)
  | (with_reducible apply i_fldaug)
  | (with_reducible apply i_vals)
  | (with_reducible apply i_items)
  | (with_reducible apply i_dget)
  | (with_reducible apply i_dput)
  | (with_reducible apply i_din)
  | (with_reducible apply i_dnotin)
  | (with_reducible apply i_ddel)
  | (with_reducible apply i_dc)
  | (with_reducible apply i_enum)
  | (with_reducible apply i_ckw))
local macro_rules | `(tactic| walk_at "jz") => `(tactic| (rw [sizeLine_eq]; (try simp only [TX.len_app, len_e, len_b, len_p, len_g]); omega))
local macro_rules | `(tactic| walk_at "e") => `(tactic| first
  | (with_reducible apply i_tJoin)
  | (with_reducible apply i_tJsC)
  | (with_reducible apply i_tFmt)
  | ((with_reducible apply i_kJ); (case c => walk_at "jz"))
  | ((with_reducible apply i_kFS); (case c => walk_at "jz"))
  | (with_reducible apply i_tJsN))
section
variable {P : Program} {w : World} {K : PySem.W.Frag} {mg : Str → Option Value} {base : Heap}
def sp_number_text : Sp := fun vs H Q _ => ∃ n : Int, vs = [.int n] ∧ 0 ≤ n ∧ n < 10 ^ 61 ∧ Q (.str (nS n)) H
theorem ok_number_text (T : Tx K mg) : FnOk P w K mg base CX0 1 (He.ga K "number_text") T.fd_number_text ["number"] sp_number_text := by
  refine T.F_number_text.ok sc_number_text (fun vs H Q E h => ?_) (fun cdv A outer s H vs Q E hr h => ?_)
  · obtain ⟨n, rfl, _⟩ := h
    rfl
  · obtain ⟨n, rfl, h0, h1, q⟩ := h
    refine ⟨_, PSs.nox (pss_one (ps_ret (pe_callTy x_strI (by rfl) T.b_str (by decide +kernel) (pa_cons (pv 0) pa_nil)))), ?_⟩
    have hl := nS_log h0 h1
    walk_at "go"
    exact q
def sp_number_of : Sp := fun vs H Q _ => ∃ z : Str, vs = [.str z] ∧ z.length ≤ 1000 ∧ Q (numV z) H
theorem numV_bad {z : Str} (h : numOk z = false) : numV z = .non := by unfold numV; rw [h]; rfl
theorem ok_number_of (T : Tx K mg) : FnOk P w K mg base CX0 2 (He.ga K "number_of") T.fd_number_of ["word"] sp_number_of := by
  refine T.F_number_of.ok sc_number_of (fun vs H Q E h => ?_) (fun cdv A outer s H vs Q E hr h => ?_)
  · obtain ⟨x, rfl, _⟩ := h
    rfl
  · obtain ⟨z, rfl, hz, q⟩ := h
    refine ⟨_, PSs.nox (pss_cons (ps_if (PW.pt (pw_or (pt_not (pt_val (pe_callB call_isi (by rfl) T.b_isinstance (by decide +kernel) (pa_cons (pv 0) (pa_cons (pe_bltn (v := .ty "str") rfl T.b_str (by decide +kernel) rfl) pa_nil))))) (pw_or1 (pt_not (pt_chain op_le op_le pe_int (pe_callB x_lenS (by rfl) T.b_len (by decide +kernel) (pa_cons (pv 0) pa_nil)) (pe_glob (v := .int 61) rfl (T.c_MOST_FIGURES).choose_spec ⟨_, rfl⟩)))))) (pss_one (ps_ret pe_non)) pss_nil)
      (pss_cons (ps_if (pt_not (pt_val (pe_call (ok_has_only T) (hr.mono (by decide)) (by rfl) T.g_has_only T.F_has_only.kp T.k_has_only .nil pass0 (pa_cons (pv 0) (pa_cons (pe_glob (v := .str "0123456789") rfl (T.c_FIGURES).choose_spec ⟨_, rfl⟩) pa_nil))))) (pss_one (ps_ret pe_non)) pss_nil)
      (C8.pss_cut (ps_if (PW.pt (pw_and (pt_cmpR op_eq (pe_ix ix_str (pv 0) pe_int (fun _ _ => rfl)) pe_str (nomark _)) (pw_and1 (pt_cmpR op_ne (pv 0) pe_str (nomark _))))) (pss_one (ps_ret pe_non)) pss_nil)
      (pss_one (ps_ret (pe_callTy x_intS (by rfl) T.b_int (by decide +kernel) (pa_cons (pv 0) pa_nil))))))), ?_⟩
    walk_at "go"
    apply i_dec
    · intro h1
      walk_at "go"
      apply i_dec
      · intro h2
        walk_at "go"
        refine ⟨z, _, rfl, ?_⟩
        walk_at "go"
        apply i_b
        · intro h3
          walk_at "go"
          have hat := first_at h1
          refine ⟨fun σ' H' => H' = H ∧ σ' = [some (.str z)] ∧ numOk z = true, ?_, ?_⟩
          · walk_at "go"
            refine i_ixS (c := z.cps.toList.headD 0) ?_ (by rw [sizeLine_eq]; omega) hat
            walk_at "go"
            apply i_dec
            · intro h4
              walk_at "go"
              apply i_dec
              · intro h5
                walk_at "go"
                exact ⟨rfl, rfl, by unfold numOk fst1; rw [decide_eq_true h1, decide_eq_true h2, h3, decide_eq_true h5]; simp⟩
              · intro h5
                walk_at "go"
                rw [numV_bad (by unfold numOk fst1; rw [decide_eq_true h4, decide_eq_false h5]; simp)] at q
                exact q
            · intro h4
              walk_at "go"
              exact ⟨rfl, rfl, by unfold numOk fst1; rw [decide_eq_true h1, decide_eq_true h2, h3, decide_eq_false h4]; simp⟩
          · rintro σ' H' ⟨rfl, rfl, ok⟩
            have e : numV z = .int ((NumText.digitsVal z.cps.toList : Nat) : Int) := by unfold numV; rw [if_pos ok]
            rw [e] at q
            walk_at "go"
            refine ⟨z, _, rfl, PySem.intText_digits (only_digs h3) (fun e => ?_) (by omega), by omega, q⟩
            have := len_list z
            rw [e] at this
            simp at this
            omega
        · intro h3
          walk_at "go"
          rw [numV_bad (by simp [numOk, h3])] at q
          exact q
      · intro h2
        walk_at "go"
        rw [numV_bad (by simp [numOk, h2])] at q
        exact q
    · intro h1
      walk_at "go"
      rw [numV_bad (by simp [numOk, h1])] at q
      exact q
def sp_words_of : Sp := fun vs H Q _ => ∃ l : Ln, vs = [.str l.text] ∧ l.fine ∧ ∀ p, H p = none → Q (.ref p) (upd H p (.lst (l.words.map V.str)))
theorem ok_words_of (T : Tx K mg) : FnOk P w K mg base CX0 1 (He.ga K "words_of") T.fd_words_of ["line"] sp_words_of := by
  refine T.F_words_of.ok sc_words_of (fun vs H Q E h => ?_) (fun cdv A outer s H vs Q E hr h => ?_)
  · obtain ⟨x, rfl, _⟩ := h
    rfl
  · obtain ⟨l, rfl, hf, q⟩ := h
    refine ⟨_, PSs.nox (pss_cons (ps_if (pt_not (pt_val (pe_callB call_isi (by rfl) T.b_isinstance (by decide +kernel) (pa_cons (pv 0) (pa_cons (pe_bltn (v := .ty "str") rfl T.b_str (by decide +kernel) rfl) pa_nil))))) (pss_one (ps_ret pe_non)) pss_nil)
      (pss_cons (ps_set (i := 1) sc_words_of.nd rfl (Or.inl rfl) (x_split (pv 0) pe_str))
      (pss_cons (ps_if (pt_cmpR op_in_seq pe_str (pv 1) (by rfl)) (pss_one (ps_ret pe_non)) pss_nil)
      (pss_one (ps_ret (pv 1)))))), ?_⟩
    have hz := Ln.text_len hf
    have hp := Ln.parts hf
    walk_at "go"
    refine i_split (fun p hp' => ?_) (by decide +kernel) (by rw [sizeLine_eq]; omega)
    rw [hp]
    walk_at "go"
    refine i_inS (SqL.of upd_same) ?_
    rw [Ln.no_empty hf]
    show kB _ (.bl false) _
    walk_at "go"
    exact q p hp'
def sp_tie_line (K : PySem.W.Frag) : Sp := fun vs H Q _ => ∃ a n t, vs = [.ref a] ∧ TieAt K H n t a ∧ 0 ≤ n ∧ n < 10 ^ 61 ∧ 0 ≤ t.c ∧ t.c < 10 ^ 61 ∧ t.t.length ≤ 12 ∧ t.h.length ≤ 12 ∧ Q (.str (Ln.tie n t).text) H
theorem kind_len (o : Bool) : (kindS o).length = 3 := by cases o <;> decide +kernel
theorem tie_text (n : Int) (t : Ti) (k : Str) (hk : k = kindS t.o) : Str.empty ++ k ++ " " ++ nS n ++ " " ++ t.t ++ " " ++ t.h ++ " " ++ nS t.c = (Ln.tie n t).text := by
  subst hk
  refine TL.ext_tl ?_
  unfold Ln.text Ln.words
  rw [TL.join_eq, TL.tl_join]
  simp only [TL.tl_append, List.map_cons, List.map_nil, TL.joinL, List.append_assoc]
  rfl
theorem pt_text (x : Str) : Str.empty ++ "point " ++ x = (Ln.pt x).text := by
  refine TL.ext_tl ?_
  unfold Ln.text Ln.words
  rw [TL.join_eq, TL.tl_join]
  simp only [TL.tl_append, List.map_cons, List.map_nil, TL.joinL]
  have e : TL.tl ("point " : Str) = TL.tl "point" ++ TL.tl " " := by decide +kernel
  rw [e, List.append_assoc, List.append_assoc]
  rfl
theorem gv_text (g : Int) : Str.empty ++ "given " ++ nS g = (Ln.gv g).text := by
  refine TL.ext_tl ?_
  unfold Ln.text Ln.words
  rw [TL.join_eq, TL.tl_join]
  simp only [TL.tl_append, List.map_cons, List.map_nil, TL.joinL]
  have e : TL.tl ("given " : Str) = TL.tl "given" ++ TL.tl " " := by decide +kernel
  rw [e, List.append_assoc, List.append_assoc]
  rfl
theorem ok_tie_line (T : Tx K mg) : FnOk P w K mg base CX0 2 (He.ga K "_tie_line") T.fd_tie_line ["tie"] (sp_tie_line K) := by
  refine T.F_tie_line.ok sc_tie_line (fun vs H Q E h => ?_) (fun cdv A outer s H vs Q E hr h => ?_)
  · obtain ⟨_, _, _, rfl, _⟩ := h
    rfl
  · obtain ⟨a, n, t, rfl, ⟨dx, ha⟩, n0, n1, c0, c1, l1, l2, q⟩ := h
    refine ⟨_, PSs.nox (pss_cons (ps_set (i := 1) sc_tie_line.nd rfl (Or.inl rfl) (pe_ifExp (pt_val (pe_fld (pv 0) rfl)) pe_str pe_str))
      (pss_cons (ps_set (i := 2) sc_tie_line.nd rfl (Or.inl rfl) (pe_call (ok_number_text T) (hr.mono (by decide)) (by rfl) T.g_number_text T.F_number_text.kp T.k_number_text .nil pass0 (pa_cons (pe_fld (pv 0) rfl) pa_nil)))
      (pss_one (ps_ret (pe_join (PJ.cons (pe_fmt (pv 1)) (PJ.cons pe_str (PJ.cons (pe_fmt (pv 2)) (PJ.cons pe_str (PJ.cons (pe_fmt (pe_fld (pv 0) rfl)) (PJ.cons pe_str (PJ.cons (pe_fmt (pe_fld (pv 0) rfl)) (PJ.cons pe_str (PJ.cons (pe_fmt (pe_call (ok_number_text T) (hr.mono (by decide)) (by rfl) T.g_number_text T.F_number_text.kp T.k_number_text .nil pass0 (pa_cons (pe_fld (pv 0) rfl) pa_nil))) PJ.nil)))))))))))))), ?_⟩
    have d1 := T.cl_Tie
    have d2 := T.na_Tie_number
    have d3 := T.na_Tie_tail
    have d4 := T.na_Tie_head
    have d5 := T.na_Tie_load
    have d6 := T.na_Tie_is_oneway
    have z1 := nS_len n0 n1
    have z2 := nS_len c0 c1
    have tw : (kindS true).length = 3 := kind_len true
    have fw : (kindS false).length = 3 := kind_len false
    have et : ("way" : Str) = kindS true := rfl
    have ef : ("tie" : Str) = kindS false := rfl
    rw [← tie_text n t _ rfl] at q
    walk_at "go"
    refine i_b (fun e => ?_) (fun e => ?_)
    · walk_at "go"
      refine ⟨n, rfl, n0, n1, ?_⟩
      rw [et]
      walk_at "go"
      refine ⟨t.c, rfl, c0, c1, ?_⟩
      walk_at "go"
      rw [e] at q
      exact q
    · walk_at "go"
      refine ⟨n, rfl, n0, n1, ?_⟩
      rw [ef]
      walk_at "go"
      refine ⟨t.c, rfl, c0, c1, ?_⟩
      walk_at "go"
      rw [e] at q
      exact q
end
end K20

set_option Elab.async false
set_option linter.all false
set_option maxRecDepth 100000
set_option maxHeartbeats 2000000
namespace K20
open PySem PySem.Spec PyProof.Rows L2 HX WB
local macro_rules | `(tactic| walk_at "side") => `(tactic| first
  | assumption
  | rfl
  | (show (0 : Int) < _; omega)
  | (unfold CDiv; omega)
  | (unfold CMul; omega)
  | (unfold CPow; omega)
  | (rw [sizeLine_eq]; omega)
  | omega)
local macro_rules | `(tactic| walk_at "e") => `(tactic| first
  | ((with_reducible apply i_var); exact rfl)
  | (with_reducible apply i_c)
  | (with_reducible apply i_op)
  | (with_reducible apply i_un)
  | (with_reducible apply i_rI0)
  | ((with_reducible apply i_rI); (case c => walk_at "side"))
  | (with_reducible apply i_rGe)
  | (with_reducible apply i_rGt)
  | (with_reducible apply i_rU)
  | (with_reducible apply i_rEqI)
  | (with_reducible apply i_rNeI)
  | (with_reducible apply i_rEqS)
  | (with_reducible apply i_rNeS)
  | (with_reducible apply i_rEqB)
  | (with_reducible apply i_rNeB)
  | (with_reducible apply i_rIsN)
  | (with_reducible apply i_rNotN)
  | (with_reducible apply i_rInS)
  | (with_reducible apply i_rNotInS)
  | ((with_reducible apply i_catS); (case c => walk_at "side"))
  | (with_reducible apply i_tcb)
  | (with_reducible apply i_nil)
  | (with_reducible apply i_cons)
  | ((with_reducible apply i_lenS); (case c => walk_at "side"))
  | ((with_reducible apply i_lenL); assumption)
  | (with_reducible apply i_abs)
  | (with_reducible apply i_max2)
  | (with_reducible apply i_min2)
  | ((with_reducible apply i_strI); (case c => walk_at "side"))
  | (with_reducible apply i_intB)
  | (with_reducible apply i_test)
  | (with_reducible apply i_tB)
  | (with_reducible apply i_kB)
  | (with_reducible apply i_and)
  | (with_reducible apply i_or)
  | (with_reducible apply i_not)
  | (with_reducible apply i_if)
  | (with_reducible apply i_andV)
  | (with_reducible apply i_orV)
  | (with_reducible apply i_notV)
  | (with_reducible apply i_kAndV)
  | (with_reducible apply i_kOrV)
  | (with_reducible apply i_kNotV)
  | (with_reducible apply i_chain)
  | (with_reducible apply i_kChain)
  | (with_reducible apply i_drop)
  | (with_reducible apply i_ret)
  | (with_reducible apply i_retN)
  | (with_reducible apply i_ifS)
  | (with_reducible apply i_asg)
  | (with_reducible apply i_gName)
  | (with_reducible apply i_for)
  | (with_reducible apply i_lc)
  | (with_reducible apply i_iList)
  | (with_reducible apply i_iTup)
  | (with_reducible apply i_iStr)
  | (with_reducible apply i_kStrI)
  | (with_reducible apply i_lst)
  | (with_reducible apply i_tup)
  | (with_reducible apply i_call)
  | (with_reducible apply i_m1)
  | (with_reducible apply i_kStr)
  | (with_reducible apply i_bm)
  | (with_reducible apply i_bm0)
  | (with_reducible apply i_part)
  | (with_reducible apply i_kInt)
  | (with_reducible apply i_noPart)
  | (with_reducible apply i_sl)
  | (with_reducible apply i_range1)
  | (with_reducible apply i_range2)
  | ((with_reducible apply i_kRng1); (case c => walk_at "side"))
  | ((with_reducible apply i_kRng2); (case c => walk_at "side"))
  | (with_reducible apply i_gCons)
  | (with_reducible apply i_gNil)
  | (with_reducible apply i_gSub)
  | (with_reducible apply i_iZip)
  | (with_reducible apply i_yes)
  | (with_reducible apply i_ift)
  | (with_reducible apply i_iff)
  | (with_reducible apply i_nb))
local macro_rules | `(tactic| walk_at "go") => `(tactic| repeat (first | (with_reducible apply i_seq) | (with_reducible apply i_next) | walk_at "e"))
local macro_rules | `(tactic| walk_at "ge") => `(tactic| repeat walk_at "e")
local macro_rules | `(tactic| walk_at "sz") => `(tactic| first | decide | (rw [sizeLine_eq]; simp; done) | (rw [sizeLine_eq]; omega))
local macro_rules | `(tactic| walk_at "side") => `(tactic| (with_reducible exact WB.most_pos))
local macro_rules | `(tactic| walk_at "e") => `(tactic| first
  | ((with_reducible apply i_isT (b := true)); exact rfl)
  | ((with_reducible apply i_isT (b := false)); exact rfl)
  | (with_reducible apply i_fld)
  | ((with_reducible apply i_kFld); (case h => assumption); (case c1 => assumption); (case c2 => assumption); (case e => first | exact lk_number | exact lk_tail | exact lk_head | exact lk_load | exact lk_oneway | exact lk_points | exact lk_ties | exact lk_given))
  | (with_reducible apply i_sfld)
  | ((with_reducible apply i_kSFld); (case h => first | assumption | exact upd_same); (case c1 => assumption); (case c2 => assumption); (case e => exact Nat.le_of_ble_eq_true rfl))
  | (with_reducible apply i_methC)
  | (with_reducible apply i_make)
  | (with_reducible apply i_fldaug)
  | (with_reducible apply i_vals)
  | (with_reducible apply i_items)
  | (with_reducible apply i_dget)
  | (with_reducible apply i_dput)
  | (with_reducible apply i_din)
  | (with_reducible apply i_dnotin)
  | (with_reducible apply i_ddel)
  | (with_reducible apply i_dc)
  | (with_reducible apply i_enum)
  | (with_reducible apply i_ckw))
local macro_rules | `(tactic| walk_at "jz") => `(tactic| (rw [sizeLine_eq]; (try simp only [TX.len_app, len_e, len_b, len_p, len_g]); omega))
local macro_rules | `(tactic| walk_at "e") => `(tactic| first
  | (with_reducible apply i_tJoin)
  | (with_reducible apply i_tJsC)
  | (with_reducible apply i_tFmt)
  | ((with_reducible apply i_kJ); (case c => walk_at "jz"))
  | ((with_reducible apply i_kFS); (case c => walk_at "jz"))
  | (with_reducible apply i_tJsN))
section
variable {P : Program} {w : World} {K : PySem.W.Frag} {mg : Str → Option Value} {base : Heap}
def sp_web_lines (K : PySem.W.Frag) : Sp := fun vs H Q _ => ∃ p l d w, vs = [.ref p] ∧ WebAt K H p l d w ∧ Wok w ∧ w.g ≤ most ∧ ∀ a H', Same H H' → H a = none → H' a = some (.lst ((textsOf w).map V.str)) → Q (.ref a) H'
def ptsT (ps : List Str) : List Str := ps.map fun x => (Ln.pt x).text
def tsT (ts : Ts) : List Str := ts.map fun nt => (Ln.tie nt.1 nt.2).text
theorem textsOf_eq (w : Wb) : textsOf w = ptsT w.ps ++ tsT w.ts ++ [(Ln.gv w.g).text] := by
  unfold textsOf WB.linesOf ptsT tsT
  simp only [List.map_append, List.map_map, List.map_cons, List.map_nil, List.append_assoc]
  rfl
theorem ok_web_lines (T : Tx K mg) : FnOk P w K mg base CX0 5 (He.ga K "web_lines") T.fd_web_lines ["web"] (sp_web_lines K) := by
  refine T.F_web_lines.ok sc_web_lines (fun vs H Q E h => ?_) (fun cdv A outer s H vs Q E hr h => ?_)
  · obtain ⟨_, _, _, _, rfl, _⟩ := h
    rfl
  · obtain ⟨p, l, d, w, rfl, hw, ok, hg, q⟩ := h
    obtain ⟨dx, ep⟩ := hw.self
    refine ⟨_, PSs.nox (pss_cons (ps_setLc (i := 1) (own := [("name", 2)]) (by rfl) sc_web_lines.nd rfl rfl (sw_true rfl rfl rfl (by decide +kernel)) (pi_list (pe_meth0 (pv 0) T.cl_Web T.m_Web_points (ok_Web_points T) (hr.mono (by decide)) T.k_Web_points .nil pass0)) (blkOk_by (own := [("name", 2)]) (N := N_web_lines) (sc := defScope s_web_lines) (by decide +kernel)) (fun _ _ _ _ _ => (pg_name (i := 2) sc_web_lines.nd rfl (Or.inl rfl))) (fun _ _ _ _ _ => pts_nil) (fun _ _ _ _ _ => (pe_join (PJ.cons pe_str (PJ.cons (pe_fmt (pv 2)) PJ.nil)))))
      (pss_cons (ps_expr (pe_bm PySem.F.plainAttrs_list PySem.F.slot_list_extend PySem.F.type_list_extend mt_extend (pv 1) (pa_cons (pe_lc (own := [("tie", 3)]) (by rfl) sc_web_lines.nd (pi_list (pe_meth0 (pv 0) T.cl_Web T.m_Web_ties (ok_Web_ties T) (hr.mono (by decide)) T.k_Web_ties .nil pass0)) (blkOk_by (own := [("tie", 3)]) (N := N_web_lines) (sc := defScope s_web_lines) (by decide +kernel)) (fun _ _ _ _ _ => (pg_name (i := 3) sc_web_lines.nd rfl (Or.inl rfl))) (fun _ _ _ _ _ => pts_nil) (fun _ _ _ _ _ => (pe_call (ok_tie_line T) (hr.mono (by decide)) (by rfl) T.g_tie_line T.F_tie_line.kp T.k_tie_line .nil pass0 (pa_cons (pv 3) pa_nil)))) pa_nil)))
      (pss_cons (ps_expr (pe_bm PySem.F.plainAttrs_list PySem.F.slot_list_append PySem.F.type_list_append mt_append (pv 1) (pa_cons (pe_join (PJ.cons pe_str (PJ.cons (pe_fmt (pe_call (ok_number_text T) (hr.mono (by decide)) (by rfl) T.g_number_text T.F_number_text.kp T.k_number_text .nil pass0 (pa_cons (pe_meth0 (pv 0) T.cl_Web T.m_Web_given (ok_Web_given T) (hr.mono (by decide)) T.k_Web_given .nil pass0) pa_nil))) PJ.nil))) pa_nil)))
      (pss_one (ps_ret (pv 1)))))), ?_⟩
    have hl16 := ok.le
    have hl48 := ok.tl
    have hg0 := ok.g0
    have hm := most_lt
    walk_at "go"
    refine i_kMethC ep rfl ?_
    walk_at "go"
    refine ⟨p, l, d, w, rfl, hw, fun a ha => ?_⟩
    walk_at "go"
    refine i_kListI (SqL.of upd_same) ?_
    intro D hD
    have nDa : D ≠ a := fun e => by rw [e, upd_same] at hD; cases hD
    have hD0 : H D = none := by rwa [upd_ne nDa] at hD
    have s1 : Same H (upd H a (.lst (w.ps.map V.str))) := Same.new ha
    refine lc_it walk_list (fun m H' => Same (upd H a (.lst (w.ps.map V.str))) H' ∧ H' D = some (.lst ((ptsT (w.ps.take m)).map V.str)))
      ⟨Same.new hD, by rw [upd_same]; rfl⟩ (fun i H' _ h => SqL.of (h.1 _ _ upd_same)) ?_ ?_
    · rintro i v H2 H3 hi ⟨s2, eD⟩ ⟨rfl, hv⟩
      rw [List.length_map] at hi
      rw [List.getElem?_map, List.getElem?_eq_getElem hi] at hv
      cases hv
      have lx := nm_len (ok.nm _ (List.getElem_mem hi))
      walk_at "go"
      refine ⟨rfl, ?_⟩
      walk_at "go"
      refine ⟨_, eD, ?_, Same.mut s2 hD, ?_⟩
      · unfold ptsT
        rw [List.length_map, List.length_map, List.length_take, sizeLine_eq]; omega
      · rw [upd_same, List.take_add_one, List.getElem?_eq_getElem hi]
        unfold ptsT
        rw [List.map_append, List.map_append, pt_text]
        rfl
    · rintro H2 ⟨s2, eD⟩
      rw [List.length_map, List.take_length] at eD
      have hw2 := (hw.same s1).same s2
      obtain ⟨dx2, ep2⟩ := hw2.self
      walk_at "go"
      refine i_kTyL (SqL.of eD) ?_
      walk_at "go"
      refine i_kMethC ep2 rfl ?_
      walk_at "go"
      refine ⟨p, l, d, w, rfl, hw2, hl48, fun b as H4 s4 hb eb tl => ?_⟩
      walk_at "go"
      refine i_kListI (SqL.of eb) ?_
      intro G hG
      have nGb : G ≠ b := fun e => by rw [e, eb] at hG; cases hG
      have hlen := Two.len tl
      have eD4 := s4 _ _ eD
      refine lc_it walk_list (fun m H' => Same H4 H' ∧ H' G = some (.lst ((tsT (w.ts.take m)).map V.str)))
        ⟨Same.new hG, by rw [upd_same]; rfl⟩ (fun i H' _ h => SqL.of (h.1 _ _ eb)) ?_ ?_
      · rintro i v H5 H6 hi ⟨s5, eG⟩ ⟨rfl, hv⟩
        rw [List.length_map] at hi
        rw [List.getElem?_map, List.getElem?_eq_getElem hi] at hv
        cases hv
        obtain ⟨⟨n, t⟩, et, ta⟩ := Two.get tl (List.getElem?_eq_getElem hi)
        have o := ok.ok n t (List.mem_of_getElem? et)
        have o1 := o.lo
        have o2 := o.hi
        have o3 := o.c0
        have o4 := o.c1
        have ta5 := ta.same s5
        walk_at "go"
        refine ⟨rfl, ?_⟩
        walk_at "go"
        refine ⟨_, n, t, rfl, ta5, by omega, by omega, o3, by omega, nm_len (ok.nm _ o.t), nm_len (ok.nm _ o.h), ?_⟩
        refine ⟨_, eG, ?_, Same.mut s5 hG, ?_⟩
        · unfold tsT
          rw [List.length_map, List.length_map, List.length_take, sizeLine_eq]; omega
        · rw [upd_same, List.take_add_one, et]
          unfold tsT
          rw [List.map_append, List.map_append]
          rfl
      · rintro H5 ⟨s5, eG⟩
        have hm2 : (List.map V.ref as).length = w.ts.length := by rw [List.length_map, hlen]
        rw [hm2, List.take_length] at eG
        have eD5 := s5 _ _ eD4
        have hp1 : (ptsT w.ps).length = w.ps.length := List.length_map _
        have hp2 : (tsT w.ts).length = w.ts.length := List.length_map _
        walk_at "go"
        refine ⟨D, G, _, _, rfl, rfl, eD5, eG, (by rw [List.length_map, List.length_map, hp1, hp2, sizeLine_eq]; omega), ?_⟩
        rw [← List.map_append]
        have hw5 := (hw2.same s4).same s5
        have nDd : ∀ o, WebAt K (upd H5 D o) p l d w := fun o => by
          have n1 : p ≠ D := fun e => by subst e; rw [ep] at hD0; cases hD0
          have n2 : l ≠ D := fun e => by subst e; rw [hw.pts] at hD0; cases hD0
          have n3 : d ≠ D := fun e => by subst e; obtain ⟨_, e2, _⟩ := hw.ties; rw [e2] at hD0; cases hD0
          obtain ⟨dx5, e5⟩ := hw5.self
          obtain ⟨kvs, ed, hd⟩ := hw5.ties
          exact ⟨⟨dx5, (upd_ne n1).trans e5⟩, (upd_ne n2).trans hw5.pts, ⟨kvs, (upd_ne n3).trans ed, hd.mono fun _ _ _ r => r.other (r.ne eD5 (fun _ _ _ _ => by simp))⟩⟩
        have hw6 := nDd (.lst ((ptsT w.ps ++ tsT w.ts).map V.str))
        obtain ⟨dx6, ep6⟩ := hw6.self
        have s6 : Same H (upd H5 D (.lst ((ptsT w.ps ++ tsT w.ts).map V.str))) := Same.mut (((s1.trans s2).trans s4).trans s5) hD0
        have eD6 : (upd H5 D (.lst ((ptsT w.ps ++ tsT w.ts).map V.str))) D = some (.lst ((ptsT w.ps ++ tsT w.ts).map V.str)) := upd_same
        generalize upd H5 D (.lst ((ptsT w.ps ++ tsT w.ts).map V.str)) = H6 at hw6 ep6 s6 eD6 ⊢
        walk_at "go"
        refine i_kTyL (SqL.of eD6) ?_
        have z1 := nS_len hg0 (by omega)
        walk_at "go"
        refine i_kMethC ep6 rfl ?_
        walk_at "go"
        refine ⟨p, l, d, w, rfl, hw6, ?_⟩
        walk_at "go"
        refine ⟨w.g, rfl, hg0, by omega, ?_⟩
        walk_at "go"
        refine i_append eD6 ?_ (by rw [List.length_map, List.length_append, hp1, hp2, sizeLine_eq]; omega)
        walk_at "go"
        refine q D _ (Same.mut s6 hD0) hD0 ?_
        rw [upd_same, gv_text, textsOf_eq]
        simp only [List.map_append, List.map_cons, List.map_nil]
end
end K20

set_option Elab.async false
set_option linter.all false
set_option maxRecDepth 100000
set_option maxHeartbeats 2000000
namespace K20
open PySem PySem.Spec PyProof.Rows L2 HX WB
local macro_rules | `(tactic| walk_at "side") => `(tactic| first
  | assumption
  | rfl
  | (show (0 : Int) < _; omega)
  | (unfold CDiv; omega)
  | (unfold CMul; omega)
  | (unfold CPow; omega)
  | (rw [sizeLine_eq]; omega)
  | omega)
local macro_rules | `(tactic| walk_at "e") => `(tactic| first
  | ((with_reducible apply i_var); exact rfl)
  | (with_reducible apply i_c)
  | (with_reducible apply i_op)
  | (with_reducible apply i_un)
  | (with_reducible apply i_rI0)
  | ((with_reducible apply i_rI); (case c => walk_at "side"))
  | (with_reducible apply i_rGe)
  | (with_reducible apply i_rGt)
  | (with_reducible apply i_rU)
  | (with_reducible apply i_rEqI)
  | (with_reducible apply i_rNeI)
  | (with_reducible apply i_rEqS)
  | (with_reducible apply i_rNeS)
  | (with_reducible apply i_rEqB)
  | (with_reducible apply i_rNeB)
  | (with_reducible apply i_rIsN)
  | (with_reducible apply i_rNotN)
  | (with_reducible apply i_rInS)
  | (with_reducible apply i_rNotInS)
  | ((with_reducible apply i_catS); (case c => walk_at "side"))
  | (with_reducible apply i_tcb)
  | (with_reducible apply i_nil)
  | (with_reducible apply i_cons)
  | ((with_reducible apply i_lenS); (case c => walk_at "side"))
  | ((with_reducible apply i_lenL); assumption)
  | (with_reducible apply i_abs)
  | (with_reducible apply i_max2)
  | (with_reducible apply i_min2)
  | ((with_reducible apply i_strI); (case c => walk_at "side"))
  | (with_reducible apply i_intB)
  | (with_reducible apply i_test)
  | (with_reducible apply i_tB)
  | (with_reducible apply i_kB)
  | (with_reducible apply i_and)
  | (with_reducible apply i_or)
  | (with_reducible apply i_not)
  | (with_reducible apply i_if)
  | (with_reducible apply i_andV)
  | (with_reducible apply i_orV)
  | (with_reducible apply i_notV)
  | (with_reducible apply i_kAndV)
  | (with_reducible apply i_kOrV)
  | (with_reducible apply i_kNotV)
  | (with_reducible apply i_chain)
  | (with_reducible apply i_kChain)
  | (with_reducible apply i_drop)
  | (with_reducible apply i_ret)
  | (with_reducible apply i_retN)
  | (with_reducible apply i_ifS)
  | (with_reducible apply i_asg)
  | (with_reducible apply i_gName)
  | (with_reducible apply i_for)
  | (with_reducible apply i_lc)
  | (with_reducible apply i_iList)
  | (with_reducible apply i_iTup)
  | (with_reducible apply i_iStr)
  | (with_reducible apply i_kStrI)
  | (with_reducible apply i_lst)
  | (with_reducible apply i_tup)
  | (with_reducible apply i_call)
  | (with_reducible apply i_m1)
  | (with_reducible apply i_kStr)
  | (with_reducible apply i_bm)
  | (with_reducible apply i_bm0)
  | (with_reducible apply i_part)
  | (with_reducible apply i_kInt)
  | (with_reducible apply i_noPart)
  | (with_reducible apply i_sl)
  | (with_reducible apply i_range1)
  | (with_reducible apply i_range2)
  | ((with_reducible apply i_kRng1); (case c => walk_at "side"))
  | ((with_reducible apply i_kRng2); (case c => walk_at "side"))
  | (with_reducible apply i_gCons)
  | (with_reducible apply i_gNil)
  | (with_reducible apply i_gSub)
  | (with_reducible apply i_iZip)
  | (with_reducible apply i_yes)
  | (with_reducible apply i_ift)
  | (with_reducible apply i_iff)
  | (with_reducible apply i_nb))
local macro_rules | `(tactic| walk_at "go") => `(tactic| repeat (first | (with_reducible apply i_seq) | (with_reducible apply i_next) | walk_at "e"))
local macro_rules | `(tactic| walk_at "ge") => `(tactic| repeat walk_at "e")
local macro_rules | `(tactic| walk_at "sz") => `(tactic| first | decide | (rw [sizeLine_eq]; simp; done) | (rw [sizeLine_eq]; omega))
local macro_rules | `(tactic| walk_at "side") => `(tactic| (with_reducible exact WB.most_pos))
local macro_rules | `(tactic| walk_at "e") => `(tactic| first
  | ((with_reducible apply i_isT (b := true)); exact rfl)
  | ((with_reducible apply i_isT (b := false)); exact rfl)
  | (with_reducible apply i_fld)
  | ((with_reducible apply i_kFld); (case h => assumption); (case c1 => assumption); (case c2 => assumption); (case e => first | exact lk_number | exact lk_tail | exact lk_head | exact lk_load | exact lk_oneway | exact lk_points | exact lk_ties | exact lk_given))
  | (with_reducible apply i_sfld)
  | ((with_reducible apply i_kSFld); (case h => first | assumption | exact upd_same); (case c1 => assumption); (case c2 => assumption); (case e => exact Nat.le_of_ble_eq_true rfl))
  | (with_reducible apply i_methC)
  | (with_reducible apply i_make)
  | (with_reducible apply i_fldaug)
  | (with_reducible apply i_vals)
  | (with_reducible apply i_items)
  | (with_reducible apply i_dget)
  | (with_reducible apply i_dput)
  | (with_reducible apply i_din)
  | (with_reducible apply i_dnotin)
  | (with_reducible apply i_ddel)
  | (with_reducible apply i_dc)
  | (with_reducible apply i_enum)
  | (with_reducible apply i_ckw))
section
variable {P : Program} {w : World} {K : PySem.W.Frag} {mg : Str → Option Value} {base : Heap}
def sp_take (K : PySem.W.Frag) (good : Ln → Bool) : Sp := fun vs H Q _ => ∃ p l d w a ln, vs = [.ref p, .ref a] ∧ good ln = true ∧ WebAt K H p l d w ∧ Wok w ∧ a ≠ p ∧ a ≠ l ∧ a ≠ d ∧ H a = some (.lst (ln.words.map V.str)) ∧ ln.ok w ∧ ∀ H', WebAt K H' p l d (ln.does w) → Keep H H' p l d → Q (.bl true) H'
def isPt : Ln → Bool
  | .pt _ => true
  | _ => false
def isTie : Ln → Bool
  | .tie _ _ => true
  | _ => false
theorem ok_put_point_words (T : Tx K mg) : FnOk P w K mg base CX0 6 (He.ga K "_put_point_words") T.fd_put_point_words ["web", "words"] (sp_take K isPt) := by
  refine T.F_put_point_words.ok sc_put_point_words (fun vs H Q E h => ?_) (fun cdv A outer s H vs Q E hr h => ?_)
  · obtain ⟨_, _, _, _, _, _, rfl, _⟩ := h
    rfl
  · obtain ⟨p, l, d, w, a, ln, rfl, hk, hw, ok, n1, n2, n3, ha, o, q⟩ := h
    cases ln <;> simp only [isPt, Bool.false_eq_true] at hk
    rename_i x
    obtain ⟨o1, o2, o3, o4⟩ := o
    obtain ⟨dx, ep⟩ := hw.self
    refine ⟨_, PSs.nox (pss_cons (ps_if (PW.pt (pw_or (pt_cmpR op_ne (pe_callB x_lenL (by rfl) T.b_len (by decide +kernel) (pa_cons (pv 1) pa_nil)) pe_int (nomark _)) (pw_or1 (pt_cmpR op_gt (pe_meth0 (pv 0) T.cl_Web T.m_Web_given (ok_Web_given T) (hr.mono (by decide)) T.k_Web_given .nil pass0) pe_int (nomark _))))) (pss_one (ps_ret pe_bl)) pss_nil)
      (pss_cons (ps_expr (pe_meth (pv 0) T.cl_Web T.m_Web_put_point (ok_Web_put_point T) (hr.mono (by decide)) T.k_Web_put_point .nil pass0 (pa_cons (pe_ix ix_list (pv 1) pe_int (fun _ _ => rfl)) pa_nil)))
      (pss_one (ps_ret pe_bl)))), ?_⟩
    have ha' : H a = some (.lst [.str "point", .str x]) := ha
    walk_at "go"
    refine i_lenL (SqL.of ha') ?_
    walk_at "go"
    refine i_dec (fun _ => ?_) (fun e => absurd rfl e)
    walk_at "go"
    refine i_kMethC ep rfl ?_
    walk_at "go"
    refine ⟨p, l, d, w, rfl, hw, ?_⟩
    rw [o1]
    walk_at "go"
    refine i_dec (fun e => absurd e (by decide)) (fun _ => ?_)
    walk_at "go"
    refine i_kMethC ep rfl ?_
    walk_at "go"
    refine i_ixL (SqL.of ha') rfl ?_
    walk_at "go"
    refine ⟨p, l, d, w, x, rfl, hw, o2, o3, o4, fun H' h1 h2 => ?_⟩
    walk_at "go"
    exact q H' h1 h2
theorem ok_put_tie_words (T : Tx K mg) : FnOk P w K mg base CX0 5 (He.ga K "_put_tie_words") T.fd_put_tie_words ["web", "words"] (sp_take K isTie) := by
  refine T.F_put_tie_words.ok sc_put_tie_words (fun vs H Q E h => ?_) (fun cdv A outer s H vs Q E hr h => ?_)
  · obtain ⟨_, _, _, _, _, _, rfl, _⟩ := h
    rfl
  · obtain ⟨p, l, d, w, a, ln, rfl, hk, hw, ok, n1, n2, n3, ha, o, q⟩ := h
    cases ln <;> simp only [isTie, Bool.false_eq_true] at hk
    rename_i n u
    obtain ⟨o1, o2, o3, o4, o5, o6, o7, o8⟩ := o
    obtain ⟨dx, ep⟩ := hw.self
    have hg0 := ok.g0
    have hm := most_lt
    refine ⟨_, PSs.nox (pss_cons (ps_if (pt_cmpR op_ne (pe_callB x_lenL (by rfl) T.b_len (by decide +kernel) (pa_cons (pv 1) pa_nil)) pe_int (nomark _)) (pss_one (ps_ret pe_bl)) pss_nil)
      (pss_cons (ps_set (i := 2) sc_put_tie_words.nd rfl (Or.inl rfl) (pe_call (ok_number_of T) (hr.mono (by decide)) (by rfl) T.g_number_of T.F_number_of.kp T.k_number_of .nil pass0 (pa_cons (pe_ix ix_list (pv 1) pe_int (fun _ _ => rfl)) pa_nil)))
      (pss_cons (ps_set (i := 3) sc_put_tie_words.nd rfl (Or.inl rfl) (pe_call (ok_number_of T) (hr.mono (by decide)) (by rfl) T.g_number_of T.F_number_of.kp T.k_number_of .nil pass0 (pa_cons (pe_ix ix_list (pv 1) pe_int (fun _ _ => rfl)) pa_nil)))
      (pss_cons (ps_if (PW.pt (pw_or (pt_cmpR op_isN1 (pv 2) pe_non (nomark _)) (pw_or (pt_cmpR op_isN1 (pv 3) pe_non (nomark _)) (pw_or1 (pt_not (pt_chain op_lt op_le (pe_meth0 (pv 0) T.cl_Web T.m_Web_given (ok_Web_given T) (hr.mono (by decide)) T.k_Web_given .nil pass0) (pv 2) (pe_glob (v := .int 1000000000000000000000000000000000000000000000000000000000000) rfl (T.c_MOST).choose_spec ⟨_, rfl⟩))))))) (pss_one (ps_ret pe_bl)) pss_nil)
      (pss_cons (ps_fld (pv 0) (pe_op op_sub (pv 2) pe_int) rfl)
      (pss_cons (ps_expr (pe_meth (pv 0) T.cl_Web T.m_Web_put_tie (ok_Web_put_tie T) (hr.mono (by decide)) (T.k_Web_put_tie_2).choose_spec.2 (T.k_Web_put_tie_2).choose_spec.1 pass0 (pa_cons (pe_ix ix_list (pv 1) pe_int (fun _ _ => rfl)) (pa_cons (pe_ix ix_list (pv 1) pe_int (fun _ _ => rfl)) (pa_cons (pv 3) (pa_cons (pe_cmpR op_eq (pe_ix ix_list (pv 1) pe_int (fun _ _ => rfl)) pe_str (nomark _)) pa_nil))))))
      (pss_one (ps_ret pe_bl)))))))), ?_⟩
    have c1 := T.cl_Web
    have c4 := T.na_Web_given
    have z1 := nS_len (n := n) (by omega) (by omega)
    have z2 := nS_len (n := u.c) o6 (by omega)
    have b1 := num_back (n := n) (by omega) (by omega)
    have b2 := num_back (n := u.c) o6 (by omega)
    have ha' : H a = some (.lst [.str (kindS u.o), .str (nS n), .str u.t, .str u.h, .str (nS u.c)]) := ha
    walk_at "go"
    refine i_lenL (SqL.of ha') ?_
    walk_at "go"
    refine i_dec (fun _ => ?_) (fun e => absurd rfl e)
    walk_at "go"
    refine i_ixL (SqL.of ha') rfl ?_
    walk_at "go"
    refine ⟨nS n, rfl, by omega, ?_⟩
    rw [b1]
    walk_at "go"
    refine i_ixL (SqL.of ha') rfl ?_
    walk_at "go"
    refine ⟨nS u.c, rfl, by omega, ?_⟩
    rw [b2]
    walk_at "go"
    refine i_dec (fun e => (by cases e)) (fun _ => ?_)
    walk_at "go"
    refine i_dec (fun e => (by cases e)) (fun _ => ?_)
    walk_at "go"
    refine i_kMethC ep rfl ?_
    walk_at "go"
    refine ⟨p, l, d, w, rfl, hw, ?_⟩
    walk_at "go"
    refine i_dec (fun _ => ?_) (fun e => absurd o1 e)
    walk_at "go"
    refine i_dec (fun _ => ?_) (fun e => absurd o2 e)
    walk_at "go"
    rw [pf_given]
    obtain ⟨g1, g2⟩ := hw.setGiven (Same.refl H) (dx := dx) (g := n - 1)
    have ha1 : (upd H p (.ins (He.ga K "Web") dx (webFs l d (n - 1)))) a = some (.lst [.str (kindS u.o), .str (nS n), .str u.t, .str u.h, .str (nS u.c)]) := (upd_ne n1).trans ha'
    generalize upd H p (.ins (He.ga K "Web") dx (webFs l d (n - 1))) = H1 at g1 g2 ha1 ⊢
    obtain ⟨dx1, ep1⟩ := g1.self
    have ok1 : Wok { w with g := n - 1 } := ⟨ok.nd, ok.nm, ok.le, ok.tl, ok.rise, fun m t ht => have o := ok.ok m t ht; { o with hi := by have := o.hi; show m ≤ n - 1; omega }, by show 0 ≤ n - 1; omega⟩
    refine i_kMethC ep1 rfl ?_
    walk_at "go"
    refine i_ixL (SqL.of ha1) rfl ?_
    walk_at "go"
    refine i_ixL (SqL.of ha1) rfl ?_
    walk_at "go"
    refine i_ixL (SqL.of ha1) rfl ?_
    walk_at "go"
    have eo : decide (kindS u.o = "way") = u.o := by cases u.o <;> decide +kernel
    refine ⟨p, l, d, _, u, ?_, g1, ok1, o3, o4, o5, o6, o7, o8, fun H' h1 h2 => ?_⟩
    · show (V.ref p :: ([V.str u.t, V.str u.h, V.int u.c, V.bl (decide (kindS u.o = "way"))] ++ [])) = _
      rw [eo]
      rfl
    walk_at "go"
    refine q H' ?_ (g2.trans h2 (.inl rfl))
    have e : ({ w with g := n - 1 } : Wb).tie u = (Ln.tie n u).does w := by
      show (⟨w.ps, w.ts ++ [(n - 1 + 1, u)], n - 1 + 1⟩ : Wb) = ⟨w.ps, w.ts ++ [(n, u)], n⟩
      rw [Int.sub_add_cancel]
    rw [← e]
    exact h1
theorem ok_set_given_words (T : Tx K mg) : FnOk P w K mg base CX0 3 (He.ga K "_set_given_words") T.fd_set_given_words ["web", "words"] (sp_take K Ln.isGv) := by
  refine T.F_set_given_words.ok sc_set_given_words (fun vs H Q E h => ?_) (fun cdv A outer s H vs Q E hr h => ?_)
  · obtain ⟨_, _, _, _, _, _, rfl, _⟩ := h
    rfl
  · obtain ⟨p, l, d, w, a, ln, rfl, hk, hw, ok, n1, n2, n3, ha, o, q⟩ := h
    cases ln <;> simp only [Ln.isGv, Bool.false_eq_true] at hk
    rename_i g
    obtain ⟨o1, o2⟩ := o
    obtain ⟨dx, ep⟩ := hw.self
    have hg0 := ok.g0
    have hm := most_lt
    refine ⟨_, PSs.nox (pss_cons (ps_if (pt_cmpR op_ne (pe_callB x_lenL (by rfl) T.b_len (by decide +kernel) (pa_cons (pv 1) pa_nil)) pe_int (nomark _)) (pss_one (ps_ret pe_bl)) pss_nil)
      (pss_cons (ps_set (i := 2) sc_set_given_words.nd rfl (Or.inl rfl) (pe_call (ok_number_of T) (hr.mono (by decide)) (by rfl) T.g_number_of T.F_number_of.kp T.k_number_of .nil pass0 (pa_cons (pe_ix ix_list (pv 1) pe_int (fun _ _ => rfl)) pa_nil)))
      (pss_cons (ps_if (PW.pt (pw_or (pt_cmpR op_isN1 (pv 2) pe_non (nomark _)) (pw_or1 (pt_not (pt_chain op_le op_le (pe_meth0 (pv 0) T.cl_Web T.m_Web_given (ok_Web_given T) (hr.mono (by decide)) T.k_Web_given .nil pass0) (pv 2) (pe_glob (v := .int 1000000000000000000000000000000000000000000000000000000000000) rfl (T.c_MOST).choose_spec ⟨_, rfl⟩)))))) (pss_one (ps_ret pe_bl)) pss_nil)
      (pss_cons (ps_fld (pv 0) (pv 2) rfl)
      (pss_one (ps_ret pe_bl)))))), ?_⟩
    have c1 := T.cl_Web
    have c4 := T.na_Web_given
    have z1 := nS_len (n := g) (by omega) (by omega)
    have b1 := num_back (n := g) (by omega) (by omega)
    have ha' : H a = some (.lst [.str "given", .str (nS g)]) := ha
    walk_at "go"
    refine i_lenL (SqL.of ha') ?_
    walk_at "go"
    refine i_dec (fun _ => ?_) (fun e => absurd rfl e)
    walk_at "go"
    refine i_ixL (SqL.of ha') rfl ?_
    walk_at "go"
    refine ⟨nS g, rfl, by omega, ?_⟩
    rw [b1]
    walk_at "go"
    refine i_dec (fun e => (by cases e)) (fun _ => ?_)
    walk_at "go"
    refine i_kMethC ep rfl ?_
    walk_at "go"
    refine ⟨p, l, d, w, rfl, hw, ?_⟩
    walk_at "go"
    refine i_dec (fun _ => ?_) (fun e => absurd o1 e)
    walk_at "go"
    refine i_dec (fun _ => ?_) (fun e => absurd o2 e)
    walk_at "go"
    rw [pf_given]
    obtain ⟨g1, g2⟩ := hw.setGiven (Same.refl H) (dx := dx) (g := g)
    exact q _ g1 g2
def anyLn : Ln → Bool := fun _ => true
theorem ok_take_words (T : Tx K mg) : FnOk P w K mg base CX0 7 (He.ga K "_take_words") T.fd_take_words ["web", "words"] (sp_take K anyLn) := by
  refine T.F_take_words.ok sc_take_words (fun vs H Q E h => ?_) (fun cdv A outer s H vs Q E hr h => ?_)
  · obtain ⟨_, _, _, _, _, _, rfl, _⟩ := h
    rfl
  · obtain ⟨p, l, d, w, a, ln, rfl, hk, hw, ok, n1, n2, n3, ha, o, q⟩ := h
    refine ⟨_, PSs.nox (pss_cons (ps_if (pt_cmpR op_eq (pe_ix ix_list (pv 1) pe_int (fun _ _ => rfl)) pe_str (nomark _)) (pss_one (ps_ret (pe_call (ok_put_point_words T) (hr.mono (by decide)) (by rfl) T.g_put_point_words T.F_put_point_words.kp T.k_put_point_words .nil pass0 (pa_cons (pv 0) (pa_cons (pv 1) pa_nil))))) pss_nil)
      (pss_cons (ps_if (pt_cmpR op_in_seq (pe_ix ix_list (pv 1) pe_int (fun _ _ => rfl)) (pe_tup (pa_cons pe_str (pa_cons pe_str pa_nil))) (by rfl)) (pss_one (ps_ret (pe_call (ok_put_tie_words T) (hr.mono (by decide)) (by rfl) T.g_put_tie_words T.F_put_tie_words.kp T.k_put_tie_words .nil pass0 (pa_cons (pv 0) (pa_cons (pv 1) pa_nil))))) pss_nil)
      (pss_one (ps_ret (pe_and (pe_cmpR op_eq (pe_ix ix_list (pv 1) pe_int (fun _ _ => rfl)) pe_str (nomark _)) (pe_one (pe_call (ok_set_given_words T) (hr.mono (by decide)) (by rfl) T.g_set_given_words T.F_set_given_words.kp T.k_set_given_words .nil pass0 (pa_cons (pv 0) (pa_cons (pv 1) pa_nil))))))))), ?_⟩
    have e1 : ∀ b : Bool, ¬ kindS b = "point" := by intro b; cases b <;> decide +kernel
    have e2 : ∀ b : Bool, ("tie" : Str) = kindS b ∨ ("way" : Str) = kindS b := by intro b; cases b <;> simp [kindS]
    cases ln with
    | pt x =>
      have ha' : H a = some (.lst [.str "point", .str x]) := ha
      walk_at "go"
      refine i_ixL (SqL.of ha') rfl ?_
      walk_at "go"
      refine i_dec (fun _ => ?_) (fun e => absurd rfl e)
      walk_at "go"
      exact ⟨p, l, d, w, a, .pt x, rfl, rfl, hw, ok, n1, n2, n3, ha, o, q⟩
    | tie n u =>
      have ha' : H a = some (.lst [.str (kindS u.o), .str (nS n), .str u.t, .str u.h, .str (nS u.c)]) := ha
      walk_at "go"
      refine i_ixL (SqL.of ha') rfl ?_
      walk_at "go"
      refine i_dec (fun e => absurd e (e1 _)) (fun _ => ?_)
      walk_at "go"
      refine i_ixL (SqL.of ha') rfl ?_
      walk_at "go"
      refine ⟨by walk_at "sz", fun p3 hp3 => ?_⟩
      refine i_inT (ys := ["tie", "way"]) (SqT.of upd_same) ?_
      have e3 : decide (kindS u.o ∈ (["tie", "way"] : List Str)) = true := decide_eq_true (by cases u.o <;> decide +kernel)
      rw [e3]
      show kB _ (.bl true) _
      walk_at "go"
      refine ⟨p, l, d, w, a, .tie n u, rfl, rfl, hw.same (Same.new hp3), ok, n1, n2, n3, Same.new hp3 _ _ ha, o, fun H' h1 h2 => ?_⟩
      exact q H' h1 ((Keep.of (Same.new hp3)).trans h2 (.inl rfl))
    | gv g =>
      have ha' : H a = some (.lst [.str "given", .str (nS g)]) := ha
      walk_at "go"
      refine i_ixL (SqL.of ha') rfl ?_
      walk_at "go"
      refine i_dec (fun e => absurd e (by decide +kernel)) (fun _ => ?_)
      walk_at "go"
      refine i_ixL (SqL.of ha') rfl ?_
      walk_at "go"
      refine ⟨by walk_at "sz", fun p3 hp3 => ?_⟩
      refine i_inT (ys := ["tie", "way"]) (SqT.of upd_same) ?_
      have e3 : decide (("given" : Str) ∈ (["tie", "way"] : List Str)) = false := by decide +kernel
      rw [e3]
      show kB _ (.bl false) _
      have ha1 := Same.new hp3 (o := .tup ((["tie", "way"] : List Str).map V.str)) _ _ ha'
      walk_at "go"
      refine i_ixL (SqL.of ha1) rfl ?_
      walk_at "go"
      refine i_dec (fun _ => ?_) (fun e => absurd rfl e)
      walk_at "go"
      refine ⟨p, l, d, w, a, .gv g, rfl, rfl, hw.same (Same.new hp3), ok, n1, n2, n3, Same.new hp3 _ _ ha, o, fun H' h1 h2 => ?_⟩
      exact q H' h1 ((Keep.of (Same.new hp3)).trans h2 (.inl rfl))
theorem ok_stands (T : Tx K mg) : FnOk P w K mg base CX0 8 (He.ga K "_stands") T.fd_stands ["web", "words"] (sp_take K anyLn) := by
  refine T.F_stands.ok sc_stands (fun vs H Q E h => ?_) (fun cdv A outer s H vs Q E hr h => ?_)
  · obtain ⟨_, _, _, _, _, _, rfl, _⟩ := h
    rfl
  · obtain ⟨p, l, d, w, a, ln, rfl, hk, hw, ok, n1, n2, n3, ha, o, q⟩ := h
    refine ⟨_, PSs.nox (pss_cons (ps_if (pt_cmpR op_isN1 (pv 1) pe_non (nomark _)) (pss_one (ps_ret pe_bl)) pss_nil)
      (pss_one (ps_try_thru0 (pss_one (ps_ret (pe_call (ok_take_words T) (hr.mono (by decide)) (by rfl) T.g_take_words T.F_take_words.kp T.k_take_words .nil pass0 (pa_cons (pv 0) (pa_cons (pv 1) pa_nil)))))))), ?_⟩
    walk_at "go"
    refine i_dec (fun e => (by cases e)) (fun _ => ?_)
    walk_at "go"
    exact ⟨p, l, d, w, a, ln, rfl, rfl, hw, ok, n1, n2, n3, ha, o, q⟩
end
end K20

set_option Elab.async false
set_option linter.all false
set_option maxRecDepth 100000
set_option maxHeartbeats 2000000
namespace K20
open PySem PySem.Spec PyProof.Rows L2 HX WB
local macro_rules | `(tactic| walk_at "side") => `(tactic| first
  | assumption
  | rfl
  | (show (0 : Int) < _; omega)
  | (unfold CDiv; omega)
  | (unfold CMul; omega)
  | (unfold CPow; omega)
  | (rw [sizeLine_eq]; omega)
  | omega)
local macro_rules | `(tactic| walk_at "e") => `(tactic| first
  | ((with_reducible apply i_var); exact rfl)
  | (with_reducible apply i_c)
  | (with_reducible apply i_op)
  | (with_reducible apply i_un)
  | (with_reducible apply i_rI0)
  | ((with_reducible apply i_rI); (case c => walk_at "side"))
  | (with_reducible apply i_rGe)
  | (with_reducible apply i_rGt)
  | (with_reducible apply i_rU)
  | (with_reducible apply i_rEqI)
  | (with_reducible apply i_rNeI)
  | (with_reducible apply i_rEqS)
  | (with_reducible apply i_rNeS)
  | (with_reducible apply i_rEqB)
  | (with_reducible apply i_rNeB)
  | (with_reducible apply i_rIsN)
  | (with_reducible apply i_rNotN)
  | (with_reducible apply i_rInS)
  | (with_reducible apply i_rNotInS)
  | ((with_reducible apply i_catS); (case c => walk_at "side"))
  | (with_reducible apply i_tcb)
  | (with_reducible apply i_nil)
  | (with_reducible apply i_cons)
  | ((with_reducible apply i_lenS); (case c => walk_at "side"))
  | ((with_reducible apply i_lenL); assumption)
  | (with_reducible apply i_abs)
  | (with_reducible apply i_max2)
  | (with_reducible apply i_min2)
  | ((with_reducible apply i_strI); (case c => walk_at "side"))
  | (with_reducible apply i_intB)
  | (with_reducible apply i_test)
  | (with_reducible apply i_tB)
  | (with_reducible apply i_kB)
  | (with_reducible apply i_and)
  | (with_reducible apply i_or)
  | (with_reducible apply i_not)
  | (with_reducible apply i_if)
  | (with_reducible apply i_andV)
  | (with_reducible apply i_orV)
  | (with_reducible apply i_notV)
  | (with_reducible apply i_kAndV)
  | (with_reducible apply i_kOrV)
  | (with_reducible apply i_kNotV)
  | (with_reducible apply i_chain)
  | (with_reducible apply i_kChain)
  | (with_reducible apply i_drop)
  | (with_reducible apply i_ret)
  | (with_reducible apply i_retN)
  | (with_reducible apply i_ifS)
  | (with_reducible apply i_asg)
  | (with_reducible apply i_gName)
  | (with_reducible apply i_for)
  | (with_reducible apply i_lc)
  | (with_reducible apply i_iList)
  | (with_reducible apply i_iTup)
  | (with_reducible apply i_iStr)
  | (with_reducible apply i_kStrI)
  | (with_reducible apply i_lst)
  | (with_reducible apply i_tup)
  | (with_reducible apply i_call)
  | (with_reducible apply i_m1)
  | (with_reducible apply i_kStr)
  | (with_reducible apply i_bm)
  | (with_reducible apply i_bm0)
  | (with_reducible apply i_part)
  | (with_reducible apply i_kInt)
  | (with_reducible apply i_noPart)
  | (with_reducible apply i_sl)
  | (with_reducible apply i_range1)
  | (with_reducible apply i_range2)
  | ((with_reducible apply i_kRng1); (case c => walk_at "side"))
  | ((with_reducible apply i_kRng2); (case c => walk_at "side"))
  | (with_reducible apply i_gCons)
  | (with_reducible apply i_gNil)
  | (with_reducible apply i_gSub)
  | (with_reducible apply i_iZip)
  | (with_reducible apply i_yes)
  | (with_reducible apply i_ift)
  | (with_reducible apply i_iff)
  | (with_reducible apply i_nb))
local macro_rules | `(tactic| walk_at "go") => `(tactic| repeat (first | (with_reducible apply i_seq) | (with_reducible apply i_next) | walk_at "e"))
local macro_rules | `(tactic| walk_at "ge") => `(tactic| repeat walk_at "e")
local macro_rules | `(tactic| walk_at "sz") => `(tactic| first | decide | (rw [sizeLine_eq]; simp; done) | (rw [sizeLine_eq]; omega))
local macro_rules | `(tactic| walk_at "side") => `(tactic| (with_reducible exact WB.most_pos))
local macro_rules | `(tactic| walk_at "e") => `(tactic| first
  | ((with_reducible apply i_isT (b := true)); exact rfl)
  | ((with_reducible apply i_isT (b := false)); exact rfl)
  | (with_reducible apply i_fld)
  | ((with_reducible apply i_kFld); (case h => assumption); (case c1 => assumption); (case c2 => assumption); (case e => first | exact lk_number | exact lk_tail | exact lk_head | exact lk_load | exact lk_oneway | exact lk_points | exact lk_ties | exact lk_given))
  | (with_reducible apply i_sfld)
  | ((with_reducible apply i_kSFld); (case h => first | assumption | exact upd_same); (case c1 => assumption); (case c2 => assumption); (case e => exact Nat.le_of_ble_eq_true rfl))
  | (with_reducible apply i_methC)
  | (with_reducible apply i_make)
  | (with_reducible apply i_fldaug)
  | (with_reducible apply i_vals)
  | (with_reducible apply i_items)
  | (with_reducible apply i_dget)
  | (with_reducible apply i_dput)
  | (with_reducible apply i_din)
  | (with_reducible apply i_dnotin)
  | (with_reducible apply i_ddel)
  | (with_reducible apply i_dc)
  | (with_reducible apply i_enum)
  | (with_reducible apply i_ckw))
section
variable {P : Program} {w : World} {K : PySem.W.Frag} {mg : Str → Option Value} {base : Heap}
theorem wb_free {H : Hp} {p l d q : Addr} {w : Wb} (h : WebAt K H p l d w) (e : H q = none) : q ≠ p ∧ q ≠ l ∧ q ≠ d := by
  refine ⟨?_, ?_, ?_⟩
  · rintro rfl
    obtain ⟨_, e2⟩ := h.self
    rw [e2] at e; cases e
  · rintro rfl
    have e2 := h.pts
    rw [e2] at e; cases e
  · rintro rfl
    obtain ⟨_, e2, _⟩ := h.ties
    rw [e2] at e; cases e
def sp_web_of (K : PySem.W.Frag) : Sp := fun vs H Q _ => ∃ a w, vs = [.ref a] ∧ H a = some (.lst ((textsOf w).map V.str)) ∧ Wok w ∧ w.g ≤ most ∧ ∀ p l d H', Same H H' → H p = none → H l = none → H d = none → WebAt K H' p l d w → Q (.ref p) H'
theorem ok_web_of (T : Tx K mg) : FnOk P w K mg base CX0 9 (He.ga K "web_of") T.fd_web_of ["lines"] (sp_web_of K) := by
  refine T.F_web_of.ok sc_web_of (fun vs H Q E h => ?_) (fun cdv A outer s H vs Q E hr h => ?_)
  · obtain ⟨_, _, rfl, _⟩ := h
    rfl
  · obtain ⟨a, w, rfl, ha, ok, hg, q⟩ := h
    have hu := hu_of hr
    refine ⟨_, PSs.nox (pss_cons (ps_if (pt_not (pt_val (pe_callB call_isi (by rfl) T.b_isinstance (by decide +kernel) (pa_cons (pv 0) (pa_cons (pe_bltn (v := .ty "list") rfl T.b_list (by decide +kernel) rfl) pa_nil))))) (pss_one ps_never) pss_nil)
      (pss_cons (ps_set (i := 1) sc_web_of.nd rfl (Or.inl rfl) (pe_make0 T.mk_Web (ok_Web_init T) (hr.mono (by decide)) (by rfl) T.g_Web T.k_Web_init .nil pass0))
      (pss_cons (ps_set (i := 2) sc_web_of.nd rfl (Or.inl rfl) pe_bl)
      (pss_cons (ps_for PassesOwn.never rfl (pi_enum (by rfl) T.b_enumerate (pa_cons (pv 0) pa_nil)) (pg_tup rfl (pgs_cons (pg_name (i := 3) sc_web_of.nd rfl (Or.inl rfl)) (pgs_cons (pg_name (i := 4) sc_web_of.nd rfl (Or.inl rfl)) pgs_nil)))
      (pss_cons (ps_set (i := 5) sc_web_of.nd rfl (Or.inl rfl) (pe_call (ok_words_of T) (hr.mono (by decide)) (by rfl) T.g_words_of T.F_words_of.kp T.k_words_of .nil pass0 (pa_cons (pv 4) pa_nil)))
      (pss_cons (ps_if (PW.pt (pw_or (pt_val (pv 2)) (pw_or1 (pt_not (pt_val (pe_call (ok_stands T) (hr.mono (by decide)) (by rfl) T.g_stands T.F_stands.kp T.k_stands .nil pass0 (pa_cons (pv 1) (pa_cons (pv 5) pa_nil)))))))) (pss_one ps_never) pss_nil)
      (pss_one (ps_set (i := 2) sc_web_of.nd rfl (Or.inl rfl) (pe_cmpR op_eq (pe_ix ix_list (pv 5) pe_int (fun _ _ => rfl)) pe_str (nomark _)))))))
      (pss_cons (ps_if (pt_not (pt_val (pv 2))) (pss_one ps_never) pss_nil)
      (pss_one (ps_ret (pv 1)))))))), ?_⟩
    walk_at "go"
    refine i_isL ha ?_
    walk_at "go"
    intro x dx hx hdx hne
    refine ⟨x, dx, rfl, upd_same, fun l d hl0 hd0 n0 => ?_⟩
    have s1 : Same H (upd (upd H dx (.own x)) x (.ins (He.ga K "Web") dx [])) := Same.mut (Same.new hdx) hx
    have s2 : Same H (upd (upd (upd (upd (upd H dx (.own x)) x (.ins (He.ga K "Web") dx [])) l (.lst [])) d (.dK [])) x (.ins (He.ga K "Web") dx (webFs l d 0))) := Same.mut (Same.mut (Same.mut s1 (s1.free hl0)) (s1.free hd0)) hx
    have b0 : WebAt K (upd (upd (upd (upd (upd H dx (.own x)) x (.ins (He.ga K "Web") dx [])) l (.lst [])) d (.dK [])) x (.ins (He.ga K "Web") dx (webFs l d 0))) x l d wb0 := by
      have nl : l ≠ x := fun e => by rw [e, upd_same] at hl0; cases hl0
      have nd : d ≠ x := fun e => by rw [e, upd_same] at hd0; cases hd0
      exact ⟨⟨dx, upd_same⟩, (upd_ne nl).trans ((upd_ne n0).trans upd_same), ⟨[], (upd_ne nd).trans upd_same, .nil⟩⟩
    have fl := s1.free hl0
    have fd := s1.free hd0
    generalize upd (upd (upd (upd (upd H dx (.own x)) x (.ins (He.ga K "Web") dx [])) l (.lst [])) d (.dK [])) x (.ins (He.ga K "Web") dx (webFs l d 0)) = H1 at s2 b0 ⊢
    refine ⟨rfl, ?_⟩
    walk_at "go"
    have ha1 := s2 _ _ ha
    obtain ⟨na1, na2, na3⟩ : a ≠ x ∧ a ≠ l ∧ a ≠ d := ⟨fun e => (by rw [← e, ha] at hx; cases hx), fun e => (by rw [← e, ha] at fl; cases fl), fun e => (by rw [← e, ha] at fd; cases fd)⟩
    have fine := lines_fine ok hg
    have tl : ∀ i : Nat, ((textsOf w).map V.str)[i]? = ((WB.linesOf w)[i]?).map fun z => V.str z.text := fun i => by
      unfold textsOf
      rw [List.map_map, List.getElem?_map]
      rfl
    have len : ((textsOf w).map V.str).length = (WB.linesOf w).length := by unfold textsOf; rw [List.length_map, List.length_map]
    walk_at "go"
    refine i_kEnum (SqL.of ha1) ?_
    refine for_it walk_enum (fun i σ H' => ∃ w' b, WebAt K H' x l d w' ∧ Wok w' ∧ Keep H1 H' x l d ∧ ((b = false ∧ Reads w' ((WB.linesOf w).drop i) w) ∨ (b = true ∧ i = (WB.linesOf w).length ∧ w' = w)) ∧ ∃ v3 v4 v5, σ = [some (.ref a), some (.ref x), some (.bl b), v3, v4, v5])
      ⟨wb0, false, b0, wok0, Keep.rfl, .inl ⟨rfl, by rw [List.drop_zero]; exact reads_web ok hg⟩, none, none, none, rfl⟩ (fun i σ H' _ h => by
        obtain ⟨_, _, _, _, k, _⟩ := h
        exact SqL.of (k _ _ na1 na2 na3 ha1)) ?_ ?_
    · rintro i v σ H2 H3 hi ⟨w', b, hw', ok', k', c, v3, v4, v5, rfl⟩ ⟨T0, u1, u2, rfl, hT, rfl, hu1, hu2⟩
      rw [len] at hi
      have hu1 : some (V.int ((i : Nat) : Int)) = some u1 := hu1
      have hu2 : ((textsOf w).map V.str)[i]? = some u2 := hu2
      rw [tl, List.getElem?_eq_getElem hi] at hu2
      cases hu1; cases hu2
      obtain ⟨rfl, rd⟩ : b = false ∧ Reads w' ((WB.linesOf w).drop i) w := by
        rcases c with c | ⟨_, e, _⟩
        · exact c
        · omega
      rw [List.drop_eq_getElem_cons hi] at rd
      obtain ⟨o, c⟩ := rd.next
      have fl2 := fine _ (List.getElem_mem hi)
      generalize (WB.linesOf w)[i] = ln at o c fl2 ⊢
      have sT : Same H2 (upd H2 T0 (.tup [.int (i : Nat), .str ln.text])) := Same.new hT
      walk_at "go"
      refine i_gTup (SqT.of upd_same) rfl ?_
      generalize upd H2 T0 (.tup [.int (i : Nat), .str ln.text]) = H3 at sT ⊢
      walk_at "go"
      refine ⟨ln, rfl, fl2, fun q0 hq0 => ?_⟩
      have hw3 := hw'.same sT
      obtain ⟨f1, f2, f3⟩ := wb_free hw3 hq0
      have s4 : Same H3 (upd H3 q0 (.lst (ln.words.map V.str))) := Same.new hq0
      have hw4 := hw3.same s4
      have eq4 : (upd H3 q0 (.lst (ln.words.map V.str))) q0 = some (.lst (ln.words.map V.str)) := upd_same
      generalize upd H3 q0 (.lst (ln.words.map V.str)) = H4 at s4 hw4 eq4 ⊢
      walk_at "go"
      refine ⟨x, l, d, w', q0, ln, rfl, rfl, hw4, ok', f1, f2, f3, eq4, o, fun H5 h5 k5 => ?_⟩
      have eq5 := k5 _ _ f1 f2 f3 eq4
      have hd0 : ∃ z r, ln.words = z :: r ∧ decide (z = "given") = ln.isGv := by
        cases ln with
        | pt y => exact ⟨_, _, rfl, show decide (("point" : Str) = "given") = false by decide +kernel⟩
        | tie n u => exact ⟨_, _, rfl, show decide (kindS u.o = "given") = false by cases u.o <;> decide +kernel⟩
        | gv g => exact ⟨_, _, rfl, show decide (("given" : Str) = "given") = true by decide +kernel⟩
      obtain ⟨z, r, ez, eg⟩ := hd0
      rw [ez] at eq5
      have eq6 : H5 q0 = some (.lst (.str z :: r.map V.str)) := eq5
      walk_at "go"
      refine i_ixL (SqL.of eq6) (atI_nat (j := 0) rfl) ?_
      walk_at "go"
      rw [eg]
      refine ⟨ln.does w', ln.isGv, h5, Ln.does_ok ok' o, ((k'.trans (Keep.of (sT.trans s4)) (.inl rfl)).trans k5 (.inl rfl)), ?_, _, _, _, rfl⟩
      rcases c with ⟨c1, c2, c3⟩ | ⟨c1, c2⟩
      · refine .inr ⟨c1, ?_, c3.symm⟩
        have := congrArg List.length c2
        rw [List.length_drop, List.length_nil] at this
        omega
      · exact .inl ⟨c1, c2⟩
    · rintro σ H2 ⟨w', b, hw', ok', k', c, v3, v4, v5, rfl⟩
      rw [len] at c
      rcases c with ⟨rfl, rd⟩ | ⟨rfl, _, rfl⟩
      · rw [List.drop_length] at rd
        exact absurd rd Reads.ne
      walk_at "go"
      exact q x l d H2 (fun b o e => k' b o (ne_of_none e hx) (ne_of_none e fl) (ne_of_none e fd) (s2 b o e)) hx fl fd hw'
end
end K20

set_option Elab.async false
set_option linter.all false
set_option maxRecDepth 100000
set_option maxHeartbeats 2000000
/-! KS: steps and what is come to, in the heap. -/
namespace WB
open PySem PySem.Spec PyProof.Rows L2 HX
/-! ### steps -/
def StT (H : Hp) (a : Addr) (s : Int × Str) : Prop := H a = some (.tup [.int s.1, .str s.2])
structure StL (H : Hp) (l : Addr) (ss : List (Int × Str)) : Prop where
  ex : ∃ as : List Addr, H l = some (.lst (as.map V.ref)) ∧ Two (StT H) as ss
structure StD (H : Hp) (e : Addr) (ps : List Str) (L : Str → Addr) (S : Steps) : Prop where
  dict : H e = some (.dK (ps.map fun x => ((Sum.inr x : Key), V.ref (L x))))
  inj : ∀ x ∈ ps, ∀ y ∈ ps, L x = L y → x = y
  at' : ∀ x ∈ ps, StL H (L x) (S x)
section
variable {H H' : Hp} {e l a b : Addr} {ps : List Str} {L : Str → Addr} {S : Steps} {x y : Str} {n : Int} {o : HO} {ss : List (Int × Str)} {s : Int × Str}
theorem StT.same (h : StT H a s) (m : Same H H') : StT H' a s := m _ _ h
theorem StT.other (h : StT H a s) (c : H b ≠ some (.tup [.int s.1, .str s.2])) : StT (upd H b o) a s := by
  unfold StT
  rw [upd_ne (fun e => c (by rw [← e]; exact h))]
  exact h
theorem StT.off (h : StT H a s) {xs : List V} (c : H b = some (.lst xs)) : StT (upd H b o) a s := h.other (by rw [c]; simp)
theorem StL.same (h : StL H l ss) (m : Same H H') : StL H' l ss := by
  obtain ⟨as, e, t⟩ := h.ex
  exact ⟨as, m _ _ e, t.mono fun _ _ r => r.same m⟩
theorem StD.same (h : StD H e ps L S) (m : Same H H') : StD H' e ps L S := ⟨m _ _ h.dict, h.inj, fun x hx => (h.at' x hx).same m⟩
theorem StD.congr {S' : Steps} (h : StD H e ps L S) (c : ∀ x ∈ ps, S x = S' x) : StD H e ps L S' := ⟨h.dict, h.inj, fun x hx => by rw [← c x hx]; exact h.at' x hx⟩
theorem val_dict (hx : x ∈ ps) : valV (ps.map fun x => ((Sum.inr x : Key), V.ref (L x))) (Sum.inr x) = some (.ref (L x)) := by
  unfold valV
  induction ps with
  | nil => simp at hx
  | cons p r ih =>
    rw [List.map_cons, List.find?_cons]
    by_cases c : p = x
    · subst c; simp
    · have c2 : ¬ (Sum.inr p : Key) = Sum.inr x := fun q => c (Sum.inr.inj q)
      rw [decide_eq_false c2]
      exact ih ((List.mem_cons.mp hx).resolve_left fun q => c q.symm)
theorem StD.get (h : StD H e ps L S) (hx : x ∈ ps) : valV (ps.map fun x => ((Sum.inr x : Key), V.ref (L x))) (Sum.inr x) = some (.ref (L x)) := val_dict hx
/-- one step more -/
theorem StD.add (h : StD H e ps L S) (hx : x ∈ ps) (ha : StT H a (n, y)) : ∃ as : List Addr, H (L x) = some (.lst (as.map V.ref)) ∧ as.length = (S x).length ∧
    StD (upd H (L x) (.lst (as.map V.ref ++ [.ref a]))) e ps L (fun z => if z = x then S z ++ [(n, y)] else S z) := by
  obtain ⟨as, el, t⟩ := (h.at' x hx).ex
  have ne : e ≠ L x := fun q => by
    have := h.dict
    rw [q, el] at this
    cases this
  refine ⟨as, el, t.len, (upd_ne ne).trans h.dict, h.inj, fun z hz => ?_⟩
  by_cases c : z = x
  · subst c
    simp only [if_true]
    refine ⟨as ++ [a], by rw [upd_same, List.map_append]; rfl, Two.app (t.mono fun _ _ r => r.off el) (.cons (ha.off el) .nil)⟩
  · rw [if_neg c]
    obtain ⟨bs, eb, tb⟩ := (h.at' z hz).ex
    have nz : L z ≠ L x := fun q => c (h.inj z hz x hx q)
    exact ⟨bs, (upd_ne nz).trans eb, tb.mono fun _ _ r => r.off el⟩
end
/-! ### what is come to -/
def CmV (H : Hp) (v : V) : Option (Int × Str) → Prop
  | none => v = .non
  | some (n, a) => ∃ t, v = .ref t ∧ H t = some (.tup [.int n, .str a])
def CmE (H : Hp) (kv : Key × V) (p : Str × Option (Int × Str)) : Prop := kv.1 = Sum.inr p.1 ∧ CmV H kv.2 p.2
structure CmAt (H : Hp) (c : Addr) (cm : Came) : Prop where
  ex : ∃ kvs, H c = some (.dK kvs) ∧ Two (CmE H) kvs cm
section
variable {H H' : Hp} {c t l : Addr} {cm : Came} {x a : Str} {n : Int} {o : HO} {v : V} {p : Option (Int × Str)} {kvs : List (Key × V)} {kv : Key × V} {q : Str × Option (Int × Str)}
theorem CmV.same (h : CmV H v p) (m : Same H H') : CmV H' v p := by
  cases p with
  | none => exact h
  | some p =>
    obtain ⟨n, a⟩ := p
    obtain ⟨t, e, ht⟩ := h
    exact ⟨t, e, m _ _ ht⟩
theorem CmV.off (h : CmV H v p) (hc : ∀ xs, H c ≠ some (.tup xs)) : CmV (upd H c o) v p := by
  cases p with
  | none => exact h
  | some p =>
    obtain ⟨n, a⟩ := p
    obtain ⟨t, e, ht⟩ := h
    exact ⟨t, e, (upd_ne (fun q => hc _ (by rw [← q]; exact ht))).trans ht⟩
theorem CmAt.same (h : CmAt H c cm) (m : Same H H') : CmAt H' c cm := by
  obtain ⟨kvs, e, t⟩ := h.ex
  exact ⟨kvs, m _ _ e, t.mono fun _ _ r => ⟨r.1, r.2.same m⟩⟩
theorem cme_key (h : CmE H kv q) (x : Str) : decide (kv.1 = Sum.inr x) = decide (q.1 = x) := by
  rw [h.1]
  exact decide_eq_decide.mpr ⟨fun e => Sum.inr.inj e, fun e => by rw [e]⟩
theorem cm_none (t : Two (CmE H) kvs cm) (hx : x ∉ keysC cm) : valV kvs (Sum.inr x) = none := by
  rcases Two.find (p := fun kv => decide (kv.1 = (Sum.inr x : Key))) (q := fun p => decide (p.1 = x)) t (fun _ _ r => cme_key r x) with ⟨e1, _⟩ | ⟨kv, q, e1, e2, r⟩
  · unfold valV; rw [e1]; rfl
  · exact absurd (List.mem_map.mpr ⟨q, List.mem_of_find?_eq_some e2, by simpa using List.find?_some e2⟩) hx
theorem cm_some (t : Two (CmE H) kvs cm) (e : look cm x = some p) : ∃ v, valV kvs (Sum.inr x) = some v ∧ CmV H v p := by
  rcases Two.find (p := fun kv => decide (kv.1 = (Sum.inr x : Key))) (q := fun p => decide (p.1 = x)) t (fun _ _ r => cme_key r x) with ⟨_, e2⟩ | ⟨kv, q, e1, e2, r⟩
  · unfold look at e; rw [e2] at e; cases e
  · unfold look at e
    rw [e2] at e
    cases e
    exact ⟨kv.2, by unfold valV; rw [e1]; rfl, r.2⟩
theorem look_mem (h : x ∈ keysC cm) : ∃ p, look cm x = some p := by
  unfold look
  cases e : cm.find? fun p => decide (p.1 = x) with
  | none =>
    obtain ⟨q, hq, e2⟩ := List.mem_map.mp h
    have := List.find?_eq_none.mp e q hq
    simp only [decide_eq_true_eq] at this
    exact absurd e2 this
  | some q => exact ⟨_, rfl⟩
theorem cm_isSome (t : Two (CmE H) kvs cm) : (valV kvs (Sum.inr x)).isSome = decide (x ∈ keysC cm) := by
  by_cases h : x ∈ keysC cm
  · obtain ⟨p, e⟩ := look_mem h
    obtain ⟨v, e2, _⟩ := cm_some t e
    rw [e2, decide_eq_true h]; rfl
  · rw [cm_none t h, decide_eq_false h]; rfl
/-- one more that is come to -/
theorem CmAt.add (h : CmAt H c cm) (hx : x ∉ keysC cm) (ht : H t = some (.tup [.int n, .str a])) : ∃ kvs, H c = some (.dK kvs) ∧ kvs.length = cm.length ∧
    CmAt (upd H c (.dK (putK kvs (Sum.inr x) (.ref t)))) c (cm ++ [(x, some (n, a))]) := by
  obtain ⟨kvs, e, tw⟩ := h.ex
  have hc : ∀ xs, H c ≠ some (.tup xs) := fun xs => by rw [e]; simp
  refine ⟨kvs, e, tw.len, ⟨_, upd_same, ?_⟩⟩
  have en : putK kvs (Sum.inr x) (.ref t) = kvs ++ [(Sum.inr x, .ref t)] := by
    unfold putK
    rw [if_neg]
    intro q
    obtain ⟨kv, hk, e2⟩ := List.any_eq_true.mp q
    obtain ⟨q, hq, r⟩ := Two.mem tw hk
    have := cme_key r x
    rw [e2] at this
    exact hx (List.mem_map.mpr ⟨q, hq, by simpa using this.symm⟩)
  rw [en]
  refine Two.app (tw.mono fun _ _ r => ⟨r.1, r.2.off hc⟩) (.cons ⟨rfl, t, rfl, ?_⟩ .nil)
  exact (upd_ne (fun q => hc _ (by rw [← q]; exact ht))).trans ht
end
theorem i_kDInS {H : Hp} {Q : VK} {a : Addr} {kvs : List (Key × V)} {j : Str} (h : H a = some (.dK kvs)) (q : Q (.bl (valV kvs (Sum.inr j)).isSome) H) : kDIn (.str j) Q (.ref a) H := ⟨a, _, rfl, .inl ⟨kvs, Sum.inr j, .inl h, rfl, rfl⟩, q⟩
theorem i_kDNotInS {H : Hp} {Q : VK} {a : Addr} {kvs : List (Key × V)} {j : Str} (h : H a = some (.dK kvs)) (q : Q (.bl !(valV kvs (Sum.inr j)).isSome) H) : kDNotIn (.str j) Q (.ref a) H := ⟨a, _, rfl, .inl ⟨kvs, Sum.inr j, .inl h, rfl, rfl⟩, q⟩
/-- bounds -/
theorem free_len (ts : Ts) (x : Str) : (freeS ts x).length ≤ 2 * ts.length := by
  unfold freeS
  induction ts with
  | nil => simp
  | cons t r ih =>
    rw [List.flatMap_cons, List.length_append]
    have : (freeOne x t).length ≤ 2 := by
      unfold freeOne
      rw [List.length_append]
      split <;> split <;> simp
    simp only [List.length_cons]
    omega
theorem free_snoc (ts : Ts) (nt : Int × Ti) (x : Str) : freeS (ts ++ [nt]) x = freeS ts x ++ freeOne x nt := by
  unfold freeS
  rw [List.flatMap_append, List.flatMap_cons, List.flatMap_nil, List.append_nil]
end WB

set_option Elab.async false
set_option linter.all false
set_option maxRecDepth 100000
set_option maxHeartbeats 2000000
/-! HXd: a dict's comprehension that a name of the def gets. -/
namespace L2
open PySem PySem.Spec PyProof.Rows
section
variable {X : Cx}
theorem swD_true {kx vx : Expr} {gs : List Comprehension} {scope : Scope} {pos py : Pos} {y : Str} {l : Nat} {env : Env} (hk : env.scope.kind = .function) (hy : env.scope.names.lookup y = some .local) (hl : (py.line == pos.line) = true)
    (ha : (scope.names.any fun (n, k) => n == y && (k == .local || k == .cell)) = false) : swapsWith (.DictComp kx vx gs scope pos) (some (.Name y py)) l env = pure true := by
  have k1 : env.kindOf y = some .local := hy
  have k2 : env.blockKind = .function := (by unfold Env.blockKind; rw [hk]; rfl)
  unfold swapsWith; simp only [k1, k2, ha, Expr.pos, hl]; rfl
theorem ps_setDc {i : Nat} {y : Str} {py : Pos} {kx vx tg iter : Expr} {ifs : List Expr} {scope : Scope} {own : List (Str × Nat)} {pos spos : Pos} {wi : TI} {g : TG} {tt : TT} {tk tv : TE} (hc : X.calm = true) (hN : X.N.Nodup) (hy : X.N[i]? = some y)
    (hyl : X.env.scope.names.lookup y = some .local) (hsw : swapsWith (.DictComp kx vx [⟨tg, iter, ifs, 0⟩] scope pos) (some (.Name y py)) spos.line X.env = pure true) (hi : PI X tg iter wi) (ok : BlkOk X.N X.env.scope scope own)
    (hg : ∀ (s : Shared) (H : Hp) (C : Addr) (cl : List (Str × Addr)) (fp : List Addr), PG (X.blk s H scope (compEnvC scope cl C X.env) fp) tg g)
    (ht : ∀ (s : Shared) (H : Hp) (C : Addr) (cl : List (Str × Addr)) (fp : List Addr), PTs (X.blk s H scope (compEnvC scope cl C X.env) fp) ifs tt)
    (hk : ∀ (s : Shared) (H : Hp) (C : Addr) (cl : List (Str × Addr)) (fp : List Addr), PE (X.blk s H scope (compEnvC scope cl C X.env) fp) kx tk)
    (he : ∀ (s : Shared) (H : Hp) (C : Addr) (cl : List (Str × Addr)) (fp : List Addr), PE (X.blk s H scope (compEnvC scope cl C X.env) fp) vx tv) (hs : ∀ x, foldedSetIterable iter X.env x = pure x := by intro _; rfl) :
    PS X (.Assign [.Name y py] (.DictComp kx vx [⟨tg, iter, ifs, 0⟩] scope pos) spos) (tAsg (tDc wi g tt tk tv (own.map (·.2))) (gName i)) := by
  refine ⟨fun pins s σ H D I h => ?_⟩
  have h : tDc wi g tt tk tv (own.map (·.2)) σ H (fun x H1 => gName i x σ H1 D.nx) := h
  rw [exec_Assign_Name_used _ _ _ _ hsw]
  refine wpAny_bind (wpAny_standAt (wpAny_bind (?_ : wpAny _ X.A (do
    let _ ← comprehension (.DictComp kx vx [⟨tg, iter, ifs, 0⟩] scope pos) scope X.env (firstIterPos [⟨tg, iter, ifs, 0⟩] pos) newDict false (eval iter X.env) (some (assign (.Name y py) X.env))) _ _ s)))
  refine wpAny_bind (thn (dc_core (Qf := fun _ t => SP X pins D .next t) hc hN I hi ok hg ht hk he hs h fun L C t m H2 I2 q hn f => ?_) fun _ t hq => wpAny_pure (wpAny_pure hq))
  obtain ⟨f0, f1, f2, f3, f4, f5⟩ := f
  refine (wpAny_assign_Name (store_ok2 (v := V.ref L) I2 hN hy (.inl hyl) rfl (fun s2 I3 ⟨b, sb, hb⟩ => ?_) (.inr hyl)) : wpAny _ _ (assign (.Name y py) X.env (.ref L)) _ _ _)
  have nb : C ≠ b := hb.elim (fun z => z ▸ f1) (fun z e => f4 y b z e.symm)
  exact ⟨m, hn.sameBut sb nb, fun h3 sb3 => ⟨_, H2, I3.turned (t' := s2.toks) (fun c o hc e => (sb3.2 c hc).trans e) f0 f1 f3 f4 f5, q⟩⟩
end
end L2

set_option Elab.async false
set_option linter.all false
set_option maxRecDepth 100000
set_option maxHeartbeats 2000000
namespace K20
open PySem PySem.Spec PyProof.Rows L2 HX WB
local macro_rules | `(tactic| walk_at "side") => `(tactic| first
  | assumption
  | rfl
  | (show (0 : Int) < _; omega)
  | (unfold CDiv; omega)
  | (unfold CMul; omega)
  | (unfold CPow; omega)
  | (rw [sizeLine_eq]; omega)
  | omega)
local macro_rules | `(tactic| walk_at "e") => `(tactic| first
  | ((with_reducible apply i_var); exact rfl)
  | (with_reducible apply i_c)
  | (with_reducible apply i_op)
  | (with_reducible apply i_un)
  | (with_reducible apply i_rI0)
  | ((with_reducible apply i_rI); (case c => walk_at "side"))
  | (with_reducible apply i_rGe)
  | (with_reducible apply i_rGt)
  | (with_reducible apply i_rU)
  | (with_reducible apply i_rEqI)
  | (with_reducible apply i_rNeI)
  | (with_reducible apply i_rEqS)
  | (with_reducible apply i_rNeS)
  | (with_reducible apply i_rEqB)
  | (with_reducible apply i_rNeB)
  | (with_reducible apply i_rIsN)
  | (with_reducible apply i_rNotN)
  | (with_reducible apply i_rInS)
  | (with_reducible apply i_rNotInS)
  | ((with_reducible apply i_catS); (case c => walk_at "side"))
  | (with_reducible apply i_tcb)
  | (with_reducible apply i_nil)
  | (with_reducible apply i_cons)
  | ((with_reducible apply i_lenS); (case c => walk_at "side"))
  | ((with_reducible apply i_lenL); assumption)
  | (with_reducible apply i_abs)
  | (with_reducible apply i_max2)
  | (with_reducible apply i_min2)
  | ((with_reducible apply i_strI); (case c => walk_at "side"))
  | (with_reducible apply i_intB)
  | (with_reducible apply i_test)
  | (with_reducible apply i_tB)
  | (with_reducible apply i_kB)
  | (with_reducible apply i_and)
  | (with_reducible apply i_or)
  | (with_reducible apply i_not)
  | (with_reducible apply i_if)
  | (with_reducible apply i_andV)
  | (with_reducible apply i_orV)
  | (with_reducible apply i_notV)
  | (with_reducible apply i_kAndV)
  | (with_reducible apply i_kOrV)
  | (with_reducible apply i_kNotV)
  | (with_reducible apply i_chain)
  | (with_reducible apply i_kChain)
  | (with_reducible apply i_drop)
  | (with_reducible apply i_ret)
  | (with_reducible apply i_retN)
  | (with_reducible apply i_ifS)
  | (with_reducible apply i_asg)
  | (with_reducible apply i_gName)
  | (with_reducible apply i_for)
  | (with_reducible apply i_lc)
  | (with_reducible apply i_iList)
  | (with_reducible apply i_iTup)
  | (with_reducible apply i_iStr)
  | (with_reducible apply i_kStrI)
  | (with_reducible apply i_lst)
  | (with_reducible apply i_tup)
  | (with_reducible apply i_call)
  | (with_reducible apply i_m1)
  | (with_reducible apply i_kStr)
  | (with_reducible apply i_bm)
  | (with_reducible apply i_bm0)
  | (with_reducible apply i_part)
  | (with_reducible apply i_kInt)
  | (with_reducible apply i_noPart)
  | (with_reducible apply i_sl)
  | (with_reducible apply i_range1)
  | (with_reducible apply i_range2)
  | ((with_reducible apply i_kRng1); (case c => walk_at "side"))
  | ((with_reducible apply i_kRng2); (case c => walk_at "side"))
  | (with_reducible apply i_gCons)
  | (with_reducible apply i_gNil)
  | (with_reducible apply i_gSub)
  | (with_reducible apply i_iZip)
  | (with_reducible apply i_yes)
  | (with_reducible apply i_ift)
  | (with_reducible apply i_iff)
  | (with_reducible apply i_nb))
local macro_rules | `(tactic| walk_at "go") => `(tactic| repeat (first | (with_reducible apply i_seq) | (with_reducible apply i_next) | walk_at "e"))
local macro_rules | `(tactic| walk_at "ge") => `(tactic| repeat walk_at "e")
local macro_rules | `(tactic| walk_at "sz") => `(tactic| first | decide | (rw [sizeLine_eq]; simp; done) | (rw [sizeLine_eq]; omega))
local macro_rules | `(tactic| walk_at "side") => `(tactic| (with_reducible exact WB.most_pos))
local macro_rules | `(tactic| walk_at "e") => `(tactic| first
  | ((with_reducible apply i_isT (b := true)); exact rfl)
  | ((with_reducible apply i_isT (b := false)); exact rfl)
  | (with_reducible apply i_fld)
  | ((with_reducible apply i_kFld); (case h => assumption); (case c1 => assumption); (case c2 => assumption); (case e => first | exact lk_number | exact lk_tail | exact lk_head | exact lk_load | exact lk_oneway | exact lk_points | exact lk_ties | exact lk_given))
  | (with_reducible apply i_sfld)
  | ((with_reducible apply i_kSFld); (case h => first | assumption | exact upd_same); (case c1 => assumption); (case c2 => assumption); (case e => exact Nat.le_of_ble_eq_true rfl))
  | (with_reducible apply i_methC)
  | (with_reducible apply i_make)
  | (with_reducible apply i_fldaug)
  | (with_reducible apply i_vals)
  | (with_reducible apply i_items)
  | (with_reducible apply i_dget)
  | (with_reducible apply i_dput)
  | (with_reducible apply i_din)
  | (with_reducible apply i_dnotin)
  | (with_reducible apply i_ddel)
  | (with_reducible apply i_dc)
  | (with_reducible apply i_enum)
  | (with_reducible apply i_ckw))
section
variable {P : Program} {w : World} {K : PySem.W.Frag} {mg : Str → Option Value} {base : Heap}
def sp_need_all (K : PySem.W.Frag) : Sp := fun vs H Q _ => ∃ p l d w a ys, vs = [.ref p, .ref a] ∧ WebAt K H p l d w ∧ Wok w ∧ H a = some (.lst ((ys : List Str).map V.str)) ∧ (∀ y ∈ ys, y ∈ w.ps) ∧ ∀ H', Same H H' → Q .non H'
theorem ok_need_all (T : Tx K mg) : FnOk P w K mg base CX0 3 (He.ga K "need_all") T.fd_need_all ["web", "names"] (sp_need_all K) := by
  refine T.F_need_all.ok sc_need_all (fun vs H Q E h => ?_) (fun cdv A outer s H vs Q E hr h => ?_)
  · obtain ⟨_, _, _, _, _, _, rfl, _⟩ := h
    rfl
  · obtain ⟨p, l, d, w, a, ys, rfl, hw, ok, ha, hy, q⟩ := h
    obtain ⟨dx, ep⟩ := hw.self
    refine ⟨_, PSs.nox (pss_cons (ps_set (i := 2) sc_need_all.nd rfl (Or.inl rfl) (pe_meth0 (pv 0) T.cl_Web T.m_Web_points (ok_Web_points T) (hr.mono (by decide)) T.k_Web_points .nil pass0))
      (pss_one (ps_for PassesOwn.never rfl (pi_list (pv 1)) (pg_name (i := 3) sc_need_all.nd rfl (Or.inl rfl))
      (pss_one (ps_if (PW.pt (pw_or (pt_not (pt_val (pe_call (ok_is_name T) (hr.mono (by decide)) (by rfl) T.g_is_name T.F_is_name.kp T.k_is_name .nil pass0 (pa_cons (pv 3) pa_nil)))) (pw_or1 (pt_cmpR op_notIn_seq (pv 3) (pv 2) (by rfl))))) (pss_one ps_never) pss_nil))))), ?_⟩
    walk_at "go"
    refine i_kMethC ep rfl ?_
    walk_at "go"
    refine ⟨p, l, d, w, rfl, hw, fun b hb => ?_⟩
    have s1 : Same H (upd H b (.lst (w.ps.map V.str))) := Same.new hb
    have eb : (upd H b (.lst (w.ps.map V.str))) b = some (.lst (w.ps.map V.str)) := upd_same
    generalize upd H b (.lst (w.ps.map V.str)) = H1 at s1 eb ⊢
    have ha1 := s1 _ _ ha
    walk_at "go"
    refine i_kListI (SqL.of ha1) ?_
    refine for_it walk_list (fun i σ H' => H' = H1 ∧ ∃ v, σ = [some (.ref p), some (.ref a), some (.ref b), v]) ⟨rfl, none, rfl⟩ (fun i σ H' _ h => by rw [h.1]; exact SqL.of ha1) ?_ ?_
    · rintro i v σ H2 H3 hi ⟨rfl, v0, rfl⟩ ⟨rfl, hv⟩
      rw [List.length_map] at hi
      rw [List.getElem?_map, List.getElem?_eq_getElem hi] at hv
      cases hv
      have hm := hy _ (List.getElem_mem hi)
      generalize ys[i] = y at hm ⊢
      have hn := ok.nm _ hm
      walk_at "go"
      refine ⟨y, rfl, by have := nm_len hn; omega, ?_⟩
      rw [hn]
      walk_at "go"
      refine i_inS (SqL.of eb) ?_
      rw [decide_eq_true hm]
      show kB _ (.bl false) _
      walk_at "go"
      exact ⟨rfl, _, rfl⟩
    · rintro σ H2 ⟨rfl, v0, rfl⟩
      walk_at "go"
      exact q _ s1
/-- the names that are come to -/
def namesIn (ps : List Str) (cm : Came) : List Str := ps.filter fun x => decide (x ∈ keysC cm)
def sp_names_in (K : PySem.W.Frag) : Sp := fun vs H Q _ => ∃ p l d w c cm, vs = [.ref p, .ref c] ∧ WebAt K H p l d w ∧ w.ps.length ≤ 16 ∧ CmAt H c cm ∧ ∀ a H', Same H H' → H a = none → H' a = some (.lst ((namesIn w.ps cm).map V.str)) → Q (.ref a) H'
theorem ok_names_in (T : Tx K mg) : FnOk P w K mg base CX0 2 (He.ga K "names_in") T.fd_names_in ["web", "came"] (sp_names_in K) := by
  refine T.F_names_in.ok sc_names_in (fun vs H Q E h => ?_) (fun cdv A outer s H vs Q E hr h => ?_)
  · obtain ⟨_, _, _, _, _, _, rfl, _⟩ := h
    rfl
  · obtain ⟨p, l, d, w, c, cm, rfl, hw, hl, hc, q⟩ := h
    obtain ⟨dx, ep⟩ := hw.self
    have hu := hu_of hr
    refine ⟨_, PSs.nox (pss_one (ps_ret (pe_lc (own := [("name", 2)]) (by rfl) sc_names_in.nd (pi_list (pe_meth0 (pv 0) T.cl_Web T.m_Web_points (ok_Web_points T) (hr.mono (by decide)) T.k_Web_points .nil pass0)) (blkOk_by (own := [("name", 2)]) (N := N_names_in) (sc := defScope s_names_in) (by decide +kernel)) (fun _ _ _ _ _ => (pg_name (i := 2) sc_names_in.nd rfl (Or.inl rfl))) (fun _ _ _ _ _ => (pts_one (pt_cmp (pc_din hu (pv 2) (pv 1))))) (fun _ _ _ _ _ => (pv 2))))), ?_⟩
    walk_at "go"
    refine i_kMethC ep rfl ?_
    walk_at "go"
    refine ⟨p, l, d, w, rfl, hw, fun b hb => ?_⟩
    have s1 : Same H (upd H b (.lst (w.ps.map V.str))) := Same.new hb
    have eb : (upd H b (.lst (w.ps.map V.str))) b = some (.lst (w.ps.map V.str)) := upd_same
    generalize upd H b (.lst (w.ps.map V.str)) = H1 at s1 eb ⊢
    walk_at "go"
    refine i_kListI (SqL.of eb) ?_
    intro D hD
    refine lc_it walk_list (fun m H' => Same H1 H' ∧ H' D = some (.lst ((namesIn (w.ps.take m) cm).map V.str)))
      ⟨Same.new hD, by rw [upd_same]; rfl⟩ (fun i H' _ h => SqL.of (h.1 _ _ eb)) ?_ ?_
    · rintro i v H2 H3 hi ⟨s2, eD⟩ ⟨rfl, hv⟩
      rw [List.length_map] at hi
      rw [List.getElem?_map, List.getElem?_eq_getElem hi] at hv
      cases hv
      have tk : w.ps.take (i + 1) = w.ps.take i ++ [w.ps[i]] := by rw [List.take_add_one, List.getElem?_eq_getElem hi]; rfl
      rw [tk]
      generalize w.ps[i] = y
      obtain ⟨kvs, ec, tw⟩ := (hc.same (s1.trans s2)).ex
      walk_at "go"
      refine ⟨rfl, ?_⟩
      walk_at "go"
      refine i_kDInS ec ?_
      rw [cm_isSome tw]
      walk_at "go"
      refine i_dec (fun e => ?_) (fun e => ?_)
      · walk_at "go"
        refine ⟨_, eD, ?_, Same.mut s2 hD, ?_⟩
        · have := List.length_filter_le (fun x => decide (x ∈ keysC cm)) (w.ps.take i)
          rw [List.length_take] at this
          unfold namesIn
          rw [List.length_map, sizeLine_eq]; omega
        · rw [upd_same]
          unfold namesIn
          rw [List.filter_append, List.map_append, List.filter_cons, if_pos (decide_eq_true e)]
          rfl
      · refine ⟨s2, ?_⟩
        rw [eD]
        unfold namesIn
        rw [List.filter_append, List.filter_cons, if_neg (by simpa using e), List.filter_nil, List.append_nil]
    · rintro H2 ⟨s2, eD⟩
      rw [List.length_map, List.take_length] at eD
      walk_at "go"
      exact q D _ (s1.trans s2) (s1.free hD) eD
def sp_free_steps (K : PySem.W.Frag) : Sp := fun vs H Q _ => ∃ nm tl as ps ts, vs = [.ref nm, .ref tl] ∧ H nm = some (.lst ((ps : List Str).map V.str)) ∧ H tl = some (.lst (as.map V.ref)) ∧ TiesL K H as ts ∧ ps.Nodup ∧ ps.length ≤ 16 ∧ ts.length ≤ 48 ∧
  (∀ n t, (n, t) ∈ ts → t.t ∈ ps ∧ t.h ∈ ps) ∧ ∀ e L H', Same H H' → H e = none → StD H' e ps L (freeS ts) → Q (.ref e) H'
theorem ok_free_steps (T : Tx K mg) : FnOk P w K mg base CX0 1 (He.ga K "free_steps") T.fd_free_steps ["names", "ties"] (sp_free_steps K) := by
  refine T.F_free_steps.ok sc_free_steps (fun vs H Q E h => ?_) (fun cdv A outer s H vs Q E hr h => ?_)
  · obtain ⟨_, _, _, _, _, rfl, _⟩ := h
    rfl
  · obtain ⟨nm, tl, as, ps, ts, rfl, hnm, htl, hts, nd, l16, l48, ends, q⟩ := h
    have hu := hu_of hr
    refine ⟨_, PSs.nox (pss_cons (ps_setDc (i := 2) (own := [("name", 4)]) (by rfl) sc_free_steps.nd rfl rfl (swD_true rfl rfl rfl (by decide +kernel)) (pi_list (pv 0)) (blkOk_by (own := [("name", 4)]) (N := N_free_steps) (sc := defScope s_free_steps) (by decide +kernel)) (fun _ _ _ _ _ => (pg_name (i := 4) sc_free_steps.nd rfl (Or.inl rfl))) (fun _ _ _ _ _ => pts_nil) (fun _ _ _ _ _ => (pv 4)) (fun _ _ _ _ _ => (pe_lst pa_nil)))
      (pss_cons (ps_for PassesOwn.never rfl (pi_list (pv 1)) (pg_name (i := 3) sc_free_steps.nd rfl (Or.inl rfl))
      (pss_cons (ps_expr (pe_bm PySem.F.plainAttrs_list PySem.F.slot_list_append PySem.F.type_list_append mt_append (pe_dget hu (pv 2) (pe_fld (pv 3) rfl) (fun _ _ => rfl)) (pa_cons (pe_tup (pa_cons (pe_fld (pv 3) rfl) (pa_cons (pe_fld (pv 3) rfl) pa_nil))) pa_nil)))
      (pss_one (ps_if (pt_not (pt_val (pe_fld (pv 3) rfl))) (pss_one (ps_expr (pe_bm PySem.F.plainAttrs_list PySem.F.slot_list_append PySem.F.type_list_append mt_append (pe_dget hu (pv 2) (pe_fld (pv 3) rfl) (fun _ _ => rfl)) (pa_cons (pe_tup (pa_cons (pe_fld (pv 3) rfl) (pa_cons (pe_fld (pv 3) rfl) pa_nil))) pa_nil)))) pss_nil))))
      (pss_one (ps_ret (pv 2))))), ?_⟩
    have c1 := T.cl_Tie
    have c2 := T.na_Tie_number
    have c5 := T.na_Tie_tail
    have c6 := T.na_Tie_head
    have c7 := T.na_Tie_is_oneway
    walk_at "go"
    refine i_kListI (SqL.of hnm) ?_
    intro e he
    refine dc_it walk_list (fun m H' => Same H H' ∧ ∃ L : Str → Addr, StD H' e (ps.take m) L (fun _ => []) ∧ ∀ x ∈ ps.take m, H (L x) = none)
      ⟨Same.new he, fun _ => e, ⟨by rw [upd_same]; rfl, by simp, by simp⟩, by simp⟩ (fun i H' _ h => SqL.of (h.1 _ _ hnm)) ?_ ?_
    · rintro i v H2 H3 hi ⟨s2, L, sd, fr⟩ ⟨rfl, hv⟩
      rw [List.length_map] at hi
      rw [List.getElem?_map, List.getElem?_eq_getElem hi] at hv
      cases hv
      have tk : ps.take (i + 1) = ps.take i ++ [ps[i]] := by rw [List.take_add_one, List.getElem?_eq_getElem hi]; rfl
      have hni : ¬ ps[i] ∈ ps.take i := by
        intro m
        obtain ⟨k, hk, ek⟩ := List.mem_take_iff_getElem.mp m
        have := (List.getElem_inj nd (h₀ := by omega) (h₁ := hi)).mp ek
        omega
      generalize ps[i] = y at tk hni ⊢
      walk_at "go"
      refine ⟨rfl, ?_⟩
      walk_at "go"
      refine ⟨by walk_at "sz", fun b hb => ?_⟩
      have s3 : Same H3 (upd H3 b (.lst [])) := Same.new hb
      have sd3 := sd.same s3
      have eb : (upd H3 b (.lst [])) b = some (.lst []) := upd_same
      have fb := s2.free hb
      have nbL : ∀ x ∈ ps.take i, L x ≠ b := fun x hx e => by
        obtain ⟨as, e2, _⟩ := (sd.at' x hx).ex
        rw [e, hb] at e2; cases e2
      generalize upd H3 b (.lst []) = H4 at s3 sd3 eb ⊢
      have ee := sd3.dict
      have neb : e ≠ b := fun q => by rw [q, eb] at ee; cases ee
      refine ⟨_, Sum.inr y, rfl, ee, by rw [List.length_map, List.length_take, sizeLine_eq]; omega, Same.mut (s2.trans s3) he, fun x => if x = y then b else L x, ⟨?_, ?_, ?_⟩, ?_⟩
      · rw [upd_same, tk, List.map_append, List.map_cons, List.map_nil, if_pos rfl]
        have e1 : ((ps.take i).map fun x => ((Sum.inr x : Key), V.ref (L x))) = (ps.take i).map fun x => ((Sum.inr x : Key), V.ref (if x = y then b else L x)) := by
          apply List.map_congr_left
          intro x hx
          rw [if_neg (fun e => hni (by rw [← e]; exact hx))]
        have e2 : putK ((ps.take i).map fun x => ((Sum.inr x : Key), V.ref (L x))) (Sum.inr y) (.ref b) = ((ps.take i).map fun x => ((Sum.inr x : Key), V.ref (L x))) ++ [(Sum.inr y, .ref b)] := by
          unfold putK
          rw [if_neg]
          intro q
          obtain ⟨kv, hk, e2⟩ := List.any_eq_true.mp q
          obtain ⟨x, hx, rfl⟩ := List.mem_map.mp hk
          have : (Sum.inr x : Key) = Sum.inr y := by simpa using e2
          exact hni (by rw [← Sum.inr.inj this]; exact hx)
        rw [e2, e1]
      · intro x hx z hz exz
        have exz : (if x = y then b else L x) = (if z = y then b else L z) := exz
        rw [tk] at hx hz
        rcases List.mem_append.mp hx with hx | hx <;> rcases List.mem_append.mp hz with hz | hz
        · rw [if_neg (fun e => hni (by rw [← e]; exact hx)), if_neg (fun e => hni (by rw [← e]; exact hz))] at exz
          exact sd.inj x hx z hz exz
        · rw [if_neg (fun e => hni (by rw [← e]; exact hx)), if_pos (List.mem_singleton.mp hz)] at exz
          exact absurd exz (nbL x hx)
        · rw [if_pos (List.mem_singleton.mp hx), if_neg (fun e => hni (by rw [← e]; exact hz))] at exz
          exact absurd exz.symm (nbL z hz)
        · rw [List.mem_singleton.mp hx, List.mem_singleton.mp hz]
      · intro x hx
        show StL _ (if x = y then b else L x) []
        rw [tk] at hx
        by_cases c : x = y
        · rw [if_pos c]
          exact ⟨[], (upd_ne neb.symm).trans eb, .nil⟩
        · rw [if_neg c]
          have hx : x ∈ ps.take i := by
            rcases List.mem_append.mp hx with h | h
            · exact h
            · exact absurd (List.mem_singleton.mp h) c
          obtain ⟨as, e2, t2⟩ := (sd3.at' x hx).ex
          have n2 : L x ≠ e := fun q => by rw [q, ee] at e2; cases e2
          have : as = [] := by cases t2; rfl
          subst this
          exact ⟨[], (upd_ne n2).trans e2, .nil⟩
      · intro x hx
        show H (if x = y then b else L x) = none
        rw [tk] at hx
        by_cases c : x = y
        · rw [if_pos c]; exact fb
        · rw [if_neg c]
          rcases List.mem_append.mp hx with h | h
          · exact fr x h
          · exact absurd (List.mem_singleton.mp h) c
    · rintro H2 ⟨s2, L, sd, fr⟩
      rw [List.length_map, List.take_length] at sd fr
      have htl2 := s2 _ _ htl
      have hts2 := hts.same s2
      have hlen := Two.len hts
      walk_at "go"
      refine i_kListI (SqL.of htl2) ?_
      refine for_it walk_list (fun i σ H' => Same H H' ∧ StD H' e ps L (freeS (ts.take i)) ∧ ∃ v, σ = [some (.ref nm), some (.ref tl), some (.ref e), v, none])
        ⟨s2, sd.congr (fun x _ => by simp [freeS]), none, rfl⟩ (fun i σ H' _ h => SqL.of (h.1 _ _ htl)) ?_ ?_
      · rintro i v σ H3 H4 hi ⟨s3, sd3, v0, rfl⟩ ⟨rfl, hv⟩
        rw [List.length_map] at hi
        rw [List.getElem?_map, List.getElem?_eq_getElem hi] at hv
        cases hv
        obtain ⟨⟨n, t⟩, et, ta⟩ := Two.get hts (List.getElem?_eq_getElem hi)
        obtain ⟨dy, ta3⟩ := ta.same s3
        obtain ⟨m1, m2⟩ := ends n t (List.mem_of_getElem? et)
        have tk : ts.take (i + 1) = ts.take i ++ [(n, t)] := by rw [List.take_add_one, et]; rfl
        have lb : ∀ x, (freeS (ts.take i) x).length ≤ 96 := fun x => by
          have := free_len (ts.take i) x
          rw [List.length_take] at this
          omega
        rw [tk]
        have sdg := sd3.dict
        walk_at "go"
        refine i_kDGetS sdg (sd3.get m1) ?_
        obtain ⟨bs, eb, _⟩ := (sd3.at' _ m1).ex
        refine i_kTyL (SqL.of eb) ?_
        walk_at "go"
        refine ⟨by walk_at "sz", fun p3 hp3 => ?_⟩
        have s4 := Same.new hp3 (o := .tup [.int n, .str t.h])
        obtain ⟨cs, ec, lc, sd5⟩ := (sd3.same s4).add m1 (a := p3) (y := t.h) (n := n) upd_same
        have lc1 := lb t.t
        walk_at "go"
        refine i_append ec ?_ (by rw [List.length_map, lc, sizeLine_eq]; omega)
        have s5 := Same.mut (s3.trans s4) (fr t.t m1) (o := .lst (cs.map V.ref ++ [.ref p3]))
        generalize upd (upd _ p3 (.tup [.int n, .str t.h])) (L t.t) (.lst (cs.map V.ref ++ [.ref p3])) = H5 at sd5 s5 ⊢
        obtain ⟨dz, ta5⟩ := ta.same s5
        have sdg5 := sd5.dict
        walk_at "go"
        refine i_b (fun eo => ?_) (fun eo => ?_)
        · walk_at "go"
          refine ⟨s5, sd5.congr (fun x _ => ?_), _, rfl⟩
          rw [free_snoc]
          unfold freeOne
          show (if x = t.t then _ else _) = freeS (ts.take i) x ++ ((if t.t = x then [(n, t.h)] else []) ++ if t.o = false ∧ t.h = x then [(n, t.t)] else [])
          rw [if_neg (fun e => (by have := e.1; rw [eo] at this; cases this) : ¬ (t.o = false ∧ t.h = x)), List.append_nil]
          by_cases c : x = t.t
          · rw [if_pos c, if_pos c.symm]
          · rw [if_neg c, if_neg (fun e => c e.symm), List.append_nil]
        · walk_at "go"
          refine i_kDGetS sdg5 (sd5.get m2) ?_
          obtain ⟨bs2, eb2, _⟩ := (sd5.at' _ m2).ex
          refine i_kTyL (SqL.of eb2) ?_
          walk_at "go"
          refine ⟨by walk_at "sz", fun p4 hp4 => ?_⟩
          have s6 := Same.new hp4 (o := .tup [.int n, .str t.t])
          obtain ⟨cs2, ec2, lc2, sd7⟩ := (sd5.same s6).add m2 (a := p4) (y := t.t) (n := n) upd_same
          have lc3 := lb t.h
          walk_at "go"
          refine i_append ec2 ?_ (by
            rw [List.length_map, lc2, sizeLine_eq]
            split
            · rw [List.length_append, List.length_singleton]; omega
            · omega)
          have s7 := Same.mut (s5.trans s6) (fr t.h m2) (o := .lst (cs2.map V.ref ++ [.ref p4]))
          generalize upd (upd _ p4 (.tup [.int n, .str t.t])) (L t.h) (.lst (cs2.map V.ref ++ [.ref p4])) = H7 at sd7 s7 ⊢
          walk_at "go"
          refine ⟨s7, sd7.congr (fun x _ => ?_), _, rfl⟩
          rw [free_snoc]
          unfold freeOne
          show (if x = t.h then (if x = t.t then _ else _) ++ _ else (if x = t.t then _ else _)) = freeS (ts.take i) x ++ ((if t.t = x then [(n, t.h)] else []) ++ if t.o = false ∧ t.h = x then [(n, t.t)] else [])
          by_cases c : x = t.t <;> by_cases c2 : x = t.h
          · rw [if_pos c2, if_pos c, if_pos c.symm, if_pos ⟨eo, c2.symm⟩, List.append_assoc]
          · rw [if_neg c2, if_pos c, if_pos c.symm, if_neg (fun e => c2 e.2.symm), List.append_nil]
          · rw [if_pos c2, if_neg c, if_neg (fun e => c e.symm), if_pos ⟨eo, c2.symm⟩, List.nil_append]
          · rw [if_neg c2, if_neg c, if_neg (fun e => c e.symm), if_neg (fun e => c2 e.2.symm), List.append_nil, List.append_nil]
      · rintro σ H3 ⟨s3, sd3, v0, rfl⟩
        rw [List.length_map, hlen, List.take_length] at sd3
        walk_at "go"
        exact q e L H3 s3 he sd3
end
end K20

set_option Elab.async false
set_option linter.all false
set_option maxRecDepth 100000
set_option maxHeartbeats 2000000
namespace K20
open PySem PySem.Spec PyProof.Rows L2 HX WB
local macro_rules | `(tactic| walk_at "side") => `(tactic| first
  | assumption
  | rfl
  | (show (0 : Int) < _; omega)
  | (unfold CDiv; omega)
  | (unfold CMul; omega)
  | (unfold CPow; omega)
  | (rw [sizeLine_eq]; omega)
  | omega)
local macro_rules | `(tactic| walk_at "e") => `(tactic| first
  | ((with_reducible apply i_var); exact rfl)
  | (with_reducible apply i_c)
  | (with_reducible apply i_op)
  | (with_reducible apply i_un)
  | (with_reducible apply i_rI0)
  | ((with_reducible apply i_rI); (case c => walk_at "side"))
  | (with_reducible apply i_rGe)
  | (with_reducible apply i_rGt)
  | (with_reducible apply i_rU)
  | (with_reducible apply i_rEqI)
  | (with_reducible apply i_rNeI)
  | (with_reducible apply i_rEqS)
  | (with_reducible apply i_rNeS)
  | (with_reducible apply i_rEqB)
  | (with_reducible apply i_rNeB)
  | (with_reducible apply i_rIsN)
  | (with_reducible apply i_rNotN)
  | (with_reducible apply i_rInS)
  | (with_reducible apply i_rNotInS)
  | ((with_reducible apply i_catS); (case c => walk_at "side"))
  | (with_reducible apply i_tcb)
  | (with_reducible apply i_nil)
  | (with_reducible apply i_cons)
  | ((with_reducible apply i_lenS); (case c => walk_at "side"))
  | ((with_reducible apply i_lenL); assumption)
  | (with_reducible apply i_abs)
  | (with_reducible apply i_max2)
  | (with_reducible apply i_min2)
  | ((with_reducible apply i_strI); (case c => walk_at "side"))
  | (with_reducible apply i_intB)
  | (with_reducible apply i_test)
  | (with_reducible apply i_tB)
  | (with_reducible apply i_kB)
  | (with_reducible apply i_and)
  | (with_reducible apply i_or)
  | (with_reducible apply i_not)
  | (with_reducible apply i_if)
  | (with_reducible apply i_andV)
  | (with_reducible apply i_orV)
  | (with_reducible apply i_notV)
  | (with_reducible apply i_kAndV)
  | (with_reducible apply i_kOrV)
  | (with_reducible apply i_kNotV)
  | (with_reducible apply i_chain)
  | (with_reducible apply i_kChain)
  | (with_reducible apply i_drop)
  | (with_reducible apply i_ret)
  | (with_reducible apply i_retN)
  | (with_reducible apply i_ifS)
  | (with_reducible apply i_asg)
  | (with_reducible apply i_gName)
  | (with_reducible apply i_for)
  | (with_reducible apply i_lc)
  | (with_reducible apply i_iList)
  | (with_reducible apply i_iTup)
  | (with_reducible apply i_iStr)
  | (with_reducible apply i_kStrI)
  | (with_reducible apply i_lst)
  | (with_reducible apply i_tup)
  | (with_reducible apply i_call)
  | (with_reducible apply i_m1)
  | (with_reducible apply i_kStr)
  | (with_reducible apply i_bm)
  | (with_reducible apply i_bm0)
  | (with_reducible apply i_part)
  | (with_reducible apply i_kInt)
  | (with_reducible apply i_noPart)
  | (with_reducible apply i_sl)
  | (with_reducible apply i_range1)
  | (with_reducible apply i_range2)
  | ((with_reducible apply i_kRng1); (case c => walk_at "side"))
  | ((with_reducible apply i_kRng2); (case c => walk_at "side"))
  | (with_reducible apply i_gCons)
  | (with_reducible apply i_gNil)
  | (with_reducible apply i_gSub)
  | (with_reducible apply i_iZip)
  | (with_reducible apply i_yes)
  | (with_reducible apply i_ift)
  | (with_reducible apply i_iff)
  | (with_reducible apply i_nb))
local macro_rules | `(tactic| walk_at "go") => `(tactic| repeat (first | (with_reducible apply i_seq) | (with_reducible apply i_next) | walk_at "e"))
local macro_rules | `(tactic| walk_at "ge") => `(tactic| repeat walk_at "e")
local macro_rules | `(tactic| walk_at "sz") => `(tactic| first | decide | (rw [sizeLine_eq]; simp; done) | (rw [sizeLine_eq]; omega))
local macro_rules | `(tactic| walk_at "side") => `(tactic| (with_reducible exact WB.most_pos))
local macro_rules | `(tactic| walk_at "e") => `(tactic| first
  | ((with_reducible apply i_isT (b := true)); exact rfl)
  | ((with_reducible apply i_isT (b := false)); exact rfl)
  | (with_reducible apply i_fld)
  | ((with_reducible apply i_kFld); (case h => assumption); (case c1 => assumption); (case c2 => assumption); (case e => first | exact lk_number | exact lk_tail | exact lk_head | exact lk_load | exact lk_oneway | exact lk_points | exact lk_ties | exact lk_given))
  | (with_reducible apply i_sfld)
  | ((with_reducible apply i_kSFld); (case h => first | assumption | exact upd_same); (case c1 => assumption); (case c2 => assumption); (case e => exact Nat.le_of_ble_eq_true rfl))
  | (with_reducible apply i_methC)
  | (with_reducible apply i_make)
  | (with_reducible apply i_fldaug)
  | (with_reducible apply i_vals)
  | (with_reducible apply i_items)
  | (with_reducible apply i_dget)
  | (with_reducible apply i_dput)
  | (with_reducible apply i_din)
  | (with_reducible apply i_dnotin)
  | (with_reducible apply i_ddel)
  | (with_reducible apply i_dc)
  | (with_reducible apply i_enum)
  | (with_reducible apply i_ckw))
theorem i_pairs0 {σ : L2.St} {H : Hp} {Q : List (V × V) → Hp → Prop} (q : Q [] H) : tPairs [] σ H Q := q
theorem i_pairs {σ : L2.St} {H : Hp} {Q : List (V × V) → Hp → Prop} {tk tv : TE} {r : List (TE × TE)} (q : tk σ H fun x H1 => tv σ H1 fun y H2 => tPairs r σ H2 fun ps H3 => Q ((x, y) :: ps) H3) : tPairs ((tk, tv) :: r) σ H Q := q
section
variable {P : Program} {w : World} {K : PySem.W.Frag} {mg : Str → Option Value} {base : Heap}
def sp_numbers_to : Sp := fun vs H Q _ => ∃ c cm Y, ∃ rk : Str → Nat, vs = [.ref c, .str Y] ∧ CmAt H c cm ∧ (∀ y n a, look cm y = some (some (n, a)) → (∃ p, look cm a = some p) ∧ rk a < rk y) ∧ (∃ p, look cm Y = some p) ∧ rk Y < 17 ∧ ∀ a H', Same H H' → H a = none → H' a = some (.lst ((back cm 17 Y).reverse.map V.int)) → Q (.ref a) H'
theorem ok_numbers_to (T : Tx K mg) : FnOk P w K mg base CX0 1 (He.ga K "numbers_to") T.fd_numbers_to ["came", "target"] sp_numbers_to := by
  refine T.F_numbers_to.ok sc_numbers_to (fun vs H Q E h => ?_) (fun cdv A outer s H vs Q E hr h => ?_)
  · obtain ⟨_, _, _, _, rfl, _⟩ := h
    rfl
  · obtain ⟨c, cm, Y, rk, rfl, hc, hrk, ⟨p, el⟩, i17, q⟩ := h
    have hu := hu_of hr
    refine ⟨_, PSs.nox (pss_cons (ps_set (i := 2) sc_numbers_to.nd rfl (Or.inl rfl) (pe_lst pa_nil))
      (pss_cons (ps_set (i := 3) sc_numbers_to.nd rfl (Or.inl rfl) (pe_dget hu (pv 0) (pv 1) (fun _ _ => rfl)))
      (pss_cons (ps_while PassesOwn.never (pt_cmpR op_notN1 (pv 3) pe_non (nomark _)) (pss_cons (ps_asg (pv 3) (pg_tup rfl (pgs_cons (pg_name (i := 4) sc_numbers_to.nd rfl (Or.inl rfl)) (pgs_cons (pg_name (i := 5) sc_numbers_to.nd rfl (Or.inl rfl)) pgs_nil))))
      (pss_cons (ps_expr (pe_bm PySem.F.plainAttrs_list PySem.F.slot_list_append PySem.F.type_list_append mt_append (pv 2) (pa_cons (pv 4) pa_nil)))
      (pss_one (ps_set (i := 3) sc_numbers_to.nd rfl (Or.inl rfl) (pe_dget hu (pv 0) (pv 5) (fun _ _ => rfl)))))))
      (pss_one (ps_ret (pe_stepL (pv 2) (pe_un un_neg pe_int))))))), ?_⟩
    walk_at "go"
    refine ⟨by walk_at "sz", fun r hr0 => ?_⟩
    have s1 : Same H (upd H r (.lst [])) := Same.new hr0
    have er : (upd H r (.lst [])) r = some (.lst []) := upd_same
    generalize upd H r (.lst []) = H1 at s1 er ⊢
    obtain ⟨kvs, ec, tw⟩ := (hc.same s1).ex
    obtain ⟨v, ev, hv⟩ := cm_some tw el
    walk_at "go"
    refine i_kDGetS ec ev ?_
    walk_at "go"
    refine ⟨fun m σ H' => ∃ ns y p v, Same H H' ∧ H' r = some (.lst ((ns : List Int).map V.int)) ∧ rk y < m ∧ look cm y = some p ∧ CmV H' v p ∧ ns ++ back cm m y = back cm 17 Y ∧ ns.length + m ≤ 17 ∧
      ∃ v4 v5, σ = [some (.ref c), some (.str Y), some (.ref r), some v, v4, v5],
      ⟨17, [], Y, p, v, s1, er, i17, el, hv, rfl, by simp, none, none, rfl⟩, ?_⟩
    rintro m σ H2 ⟨ns, y, p, v, s2, er2, hi, el, hv, eb, nl, v4, v5, rfl⟩
    obtain ⟨m, rfl⟩ : ∃ k, m = k + 1 := ⟨m - 1, by omega⟩
    have fr := hr0
    cases p with
    | none =>
      have hv : v = .non := hv
      subst hv
      have e0 : back cm (m + 1) y = [] := by
        show (match look cm y with
          | some (some p) => p.1 :: back cm m p.2
          | _ => []) = _
        rw [el]
      rw [e0, List.append_nil] at eb
      subst eb
      walk_at "go"
      refine i_dec (fun _ => ?_) (fun e => absurd rfl e)
      walk_at "go"
      refine i_stepL ?_
      walk_at "go"
      refine i_kStepL (SqL.of er2) (.inr rfl) (fun a ha => ?_)
      walk_at "go"
      refine q a _ (Same.mut s2 (s2.free ha) |>.trans (Same.refl _)) (s2.free ha) ?_
      rw [upd_same, if_neg (by decide), List.map_reverse]
    | some na =>
      obtain ⟨n, a⟩ := na
      obtain ⟨t, rfl, ht⟩ := hv
      obtain ⟨⟨p2, el2⟩, lt⟩ := hrk y n a el
      have e0 : back cm (m + 1) y = n :: back cm m a := by
        show (match look cm y with
          | some (some p) => p.1 :: back cm m p.2
          | _ => []) = _
        rw [el]
      rw [e0] at eb
      walk_at "go"
      refine i_dec (fun e => (by cases e)) (fun _ => ?_)
      refine ⟨fun σ' H' => ∃ m', m' < m + 1 ∧ ∃ ns y p v, Same H H' ∧ H' r = some (.lst ((ns : List Int).map V.int)) ∧ rk y < m' ∧ look cm y = some p ∧ CmV H' v p ∧ ns ++ back cm m' y = back cm 17 Y ∧ ns.length + m' ≤ 17 ∧
        ∃ v4 v5, σ' = [some (.ref c), some (.str Y), some (.ref r), some v, v4, v5], fun _ _ h => h, ?_⟩
      walk_at "go"
      refine i_gTup (SqT.of ht) rfl ?_
      walk_at "go"
      refine i_kTyL (SqL.of er2) ?_
      walk_at "go"
      refine i_append er2 ?_ (by rw [List.length_map, sizeLine_eq]; omega)
      have s3 : Same H (upd H2 r (.lst (ns.map V.int ++ [.int n]))) := Same.mut s2 hr0
      have er3 : (upd H2 r (.lst (ns.map V.int ++ [.int n]))) r = some (.lst (ns.map V.int ++ [.int n])) := upd_same
      generalize upd H2 r (.lst (ns.map V.int ++ [.int n])) = H3 at s3 er3 ⊢
      obtain ⟨kvs3, ec3, tw3⟩ := (hc.same s3).ex
      obtain ⟨v3, ev3, hv3⟩ := cm_some tw3 el2
      walk_at "go"
      refine i_kDGetS ec3 ev3 ?_
      walk_at "go"
      refine ⟨m, Nat.lt_succ_self _, ns ++ [n], a, p2, v3, s3, ?_, by omega, el2, hv3, ?_, by rw [List.length_append, List.length_singleton]; omega, _, _, rfl⟩
      · rw [er3, List.map_append]; rfl
      · rw [List.append_assoc]; exact eb
end
end K20

set_option Elab.async false
set_option linter.all false
set_option maxRecDepth 100000
set_option maxHeartbeats 2000000
/-! KP: steps along ties taken as plain ones; the law's own rows; what is come to without a tie, past a point. -/
namespace WB
open PySem PySem.Spec PyProof.Rows L2 HX
theorem plain_len (ts : Ts) (x : Str) : (plainS ts x).length ≤ 2 * ts.length := by
  unfold plainS
  induction ts with
  | nil => simp
  | cons t r ih =>
    rw [List.flatMap_cons, List.length_append]
    have : (plainOne x t).length ≤ 2 := by
      unfold plainOne
      rw [List.length_append]
      split <;> split <;> simp
    simp only [List.length_cons]
    omega
theorem plain_snoc (ts : Ts) (nt : Int × Ti) (x : Str) : plainS (ts ++ [nt]) x = plainS ts x ++ plainOne x nt := by
  unfold plainS
  rw [List.flatMap_append, List.flatMap_cons, List.flatMap_nil, List.append_nil]
theorem plain_mem {ts : Ts} {x y : Str} {n : Int} : (n, y) ∈ plainS ts x ↔ ∃ u, (n, u) ∈ ts ∧ ((u.t = x ∧ u.h = y) ∨ (u.h = x ∧ u.t = y)) := by
  unfold plainS plainOne
  rw [List.mem_flatMap]
  constructor
  · rintro ⟨⟨m, u⟩, hm, h⟩
    rcases List.mem_append.mp h with h | h
    · split at h
      · rename_i c
        simp at h
        obtain ⟨rfl, rfl⟩ := h
        exact ⟨u, hm, .inl ⟨c, rfl⟩⟩
      · simp at h
    · split at h
      · rename_i c
        simp at h
        obtain ⟨rfl, rfl⟩ := h
        exact ⟨u, hm, .inr ⟨c, rfl⟩⟩
      · simp at h
  · rintro ⟨u, hu, h⟩
    refine ⟨(n, u), hu, List.mem_append.mpr ?_⟩
    rcases h with ⟨h1, h2⟩ | ⟨h1, h2⟩
    · left; simp [h1, h2]
    · right; simp [h1, h2]
/-- the ends of some ties are points -/
def EndsIn (ts : Ts) (ps : List Str) : Prop := ∀ n t, (n, t) ∈ ts → t.t ∈ ps ∧ t.h ∈ ps
theorem Wok.ends {w : Wb} (h : Wok w) : EndsIn w.ts w.ps := fun n t ht => ⟨(h.ok n t ht).t, (h.ok n t ht).h⟩
theorem EndsIn.filter {ts : Ts} {ps : List Str} (h : EndsIn ts ps) (p : Int × Ti → Bool) : EndsIn (ts.filter p) ps := fun n t ht => h n t (List.mem_filter.mp ht).1
theorem plain_in {ts : Ts} {ps : List Str} (h : EndsIn ts ps) : ∀ a, ∀ s ∈ plainS ts a, s.2 ∈ ps := by
  rintro a ⟨n, y⟩ hs
  obtain ⟨u, hu, c⟩ := plain_mem.mp hs
  rcases c with ⟨_, rfl⟩ | ⟨_, rfl⟩
  · exact (h n u hu).2
  · exact (h n u hu).1
theorem free_in' {ts : Ts} {ps : List Str} (h : EndsIn ts ps) : ∀ a, ∀ s ∈ freeS ts a, s.2 ∈ ps := by
  rintro a ⟨n, y⟩ hs
  obtain ⟨u, hu, c⟩ := free_mem.mp hs
  rcases c with ⟨_, rfl⟩ | ⟨_, _, rfl⟩
  · exact (h n u hu).2
  · exact (h n u hu).1
/-! ### rows, as the law takes them: one-way ties ahead alone, or as plain ones -/
def turnsOf (b : Bool) (t : Ti) : List (Str × Str) := if b && t.o then [(t.t, t.h)] else [(t.t, t.h), (t.h, t.t)]
/-- the law's steps: without the tie of a number, past a point -/
def rowS (b : Bool) (g : Int) (sh : Option Str) (ts : Ts) : Steps := fun x => ts.flatMap fun nt => if nt.1 = g then [] else ((turnsOf b nt.2).filter fun p => decide (p.1 = x) && !decide (some p.2 = sh)).map fun p => (nt.1, p.2)
theorem turns_mem {b : Bool} {t : Ti} {x y : Str} : (x, y) ∈ turnsOf b t ↔ (t.t = x ∧ t.h = y) ∨ ((b && t.o) = false ∧ t.h = x ∧ t.t = y) := by
  unfold turnsOf
  by_cases c : (b && t.o) = true
  · rw [if_pos c]
    simp only [List.mem_cons, List.not_mem_nil, or_false, Prod.mk.injEq, c]
    constructor
    · rintro ⟨rfl, rfl⟩; exact .inl ⟨rfl, rfl⟩
    · rintro (⟨rfl, rfl⟩ | ⟨h, _⟩)
      · exact ⟨rfl, rfl⟩
      · cases h
  · rw [if_neg c]
    have c2 : (b && t.o) = false := by simpa using c
    simp only [List.mem_cons, List.not_mem_nil, or_false, Prod.mk.injEq, c2, true_and]
    constructor
    · rintro (⟨rfl, rfl⟩ | ⟨rfl, rfl⟩)
      · exact .inl ⟨rfl, rfl⟩
      · exact .inr ⟨rfl, rfl⟩
    · rintro (⟨rfl, rfl⟩ | ⟨rfl, rfl⟩)
      · exact .inl ⟨rfl, rfl⟩
      · exact .inr ⟨rfl, rfl⟩
theorem row_mem {b : Bool} {g n : Int} {sh : Option Str} {ts : Ts} {x y : Str} : (n, y) ∈ rowS b g sh ts x ↔ ∃ u, (n, u) ∈ ts ∧ n ≠ g ∧ (x, y) ∈ turnsOf b u ∧ some y ≠ sh := by
  unfold rowS
  rw [List.mem_flatMap]
  constructor
  · rintro ⟨⟨m, u⟩, hm, h⟩
    split at h
    · cases h
    · rename_i c
      obtain ⟨⟨a, z⟩, hp, e⟩ := List.mem_map.mp h
      obtain ⟨h1, h2⟩ := List.mem_filter.mp hp
      simp only [Bool.and_eq_true, decide_eq_true_eq, Bool.not_eq_true', decide_eq_false_iff_not] at h2
      cases e
      obtain ⟨rfl, h3⟩ := h2
      exact ⟨u, hm, c, h1, h3⟩
  · rintro ⟨u, hu, c, h1, h2⟩
    refine ⟨(n, u), hu, ?_⟩
    rw [if_neg c]
    refine List.mem_map.mpr ⟨(x, y), List.mem_filter.mpr ⟨h1, ?_⟩, rfl⟩
    simp [h2]
/-- what is come to by steps that are alike -/
theorem Rch.imp {S S' : Steps} {one y : Str} (h : ∀ a n z, (n, z) ∈ S a → ∃ m, (m, z) ∈ S' a) (r : Rch S one y) : Rch S' one y := by
  induction r with
  | here => exact .here
  | step _ s ih =>
    obtain ⟨m, hm⟩ := h _ _ _ s
    exact .step ih hm
theorem Rch.congr {S S' : Steps} {one y : Str} (h : ∀ a n z, (n, z) ∈ S a ↔ (n, z) ∈ S' a) : Rch S one y ↔ Rch S' one y :=
  ⟨Rch.imp fun a n z e => ⟨n, (h a n z).mp e⟩, Rch.imp fun a n z e => ⟨n, (h a n z).mpr e⟩⟩
theorem Leads.congr {S S' : Steps} (h : ∀ a n z, (n, z) ∈ S a → (n, z) ∈ S' a) {x y : Str} {ns : List Int} {ps : List Str} (l : Leads S x ns ps y) : Leads S' x ns ps y := by
  induction l with
  | here => exact .here _
  | snoc _ s ih => exact .snoc ih (h _ _ _ s)
/-- the ties without one -/
def less (ts : Ts) (n : Int) : Ts := ts.filter fun nt => !decide (nt.1 = n)
theorem less_mem {ts : Ts} {n m : Int} {u : Ti} : (m, u) ∈ less ts n ↔ (m, u) ∈ ts ∧ m ≠ n := by
  unfold less
  rw [List.mem_filter]
  simp
theorem plain_row {ts : Ts} {g : Int} (a : Str) (n : Int) (z : Str) : (n, z) ∈ plainS (less ts g) a ↔ (n, z) ∈ rowS false g none ts a := by
  rw [plain_mem, row_mem]
  constructor
  · rintro ⟨u, hu, c⟩
    obtain ⟨h1, h2⟩ := less_mem.mp hu
    exact ⟨u, h1, h2, turns_mem.mpr (c.imp id fun c => ⟨rfl, c⟩), by simp⟩
  · rintro ⟨u, hu, hn, ht, _⟩
    exact ⟨u, less_mem.mpr ⟨hu, hn⟩, (turns_mem.mp ht).imp id fun c => c.2⟩
theorem row_in {b : Bool} {g : Int} {sh : Option Str} {ts : Ts} {ps : List Str} (h : EndsIn ts ps) : ∀ a, ∀ s ∈ rowS b g sh ts a, s.2 ∈ ps := by
  rintro a ⟨n, y⟩ hs
  obtain ⟨u, hu, _, ht, _⟩ := row_mem.mp hs
  rcases turns_mem.mp ht with ⟨_, rfl⟩ | ⟨_, _, rfl⟩
  · exact (h n u hu).2
  · exact (h n u hu).1
theorem rch_in {S : Steps} {ps : List Str} {one : Str} (h1 : one ∈ ps) (hS : ∀ a, ∀ s ∈ S a, s.2 ∈ ps) {y : Str} (r : Rch S one y) : y ∈ ps := by
  induction r with
  | here => exact h1
  | step _ s _ => exact hS _ _ s
end WB

set_option Elab.async false
set_option linter.all false
set_option maxRecDepth 100000
set_option maxHeartbeats 2000000
/-! KB: a web with another piece beside it. -/
namespace WB
open PySem PySem.Spec PyProof.Rows L2 HX
theorem rise_ext : ∀ {a b : Ts}, Rise a → Rise b → (∀ x, x ∈ a ↔ x ∈ b) → a = b
  | [], [], _, _, _ => rfl
  | [], y :: s, _, _, h => absurd ((h y).mpr (List.mem_cons_self ..)) (by simp)
  | x :: r, [], _, _, h => absurd ((h x).mp (List.mem_cons_self ..)) (by simp)
  | x :: r, y :: s, ha, hb, h => by
    obtain ⟨a1, a2⟩ := List.pairwise_cons.mp ha
    obtain ⟨b1, b2⟩ := List.pairwise_cons.mp hb
    have e : x = y := by
      rcases List.mem_cons.mp ((h x).mp (List.mem_cons_self ..)) with e | e
      · exact e
      · rcases List.mem_cons.mp ((h y).mpr (List.mem_cons_self ..)) with e2 | e2
        · exact e2.symm
        · have h1 := a1 y e2
          have h2 := b1 x e
          omega
    subst e
    congr 1
    refine rise_ext a2 b2 fun z => ⟨fun hz => ?_, fun hz => ?_⟩
    · rcases List.mem_cons.mp ((h z).mp (List.mem_cons_of_mem _ hz)) with e | e
      · subst e
        have := a1 z hz
        omega
      · exact e
    · rcases List.mem_cons.mp ((h z).mpr (List.mem_cons_of_mem _ hz)) with e | e
      · subst e
        have := b1 z hz
        omega
      · exact e
/-- w2 is w with other points and ties beside -/
structure Beside (w w2 : Wb) : Prop where
  ts : w2.ts.filter (fun nt => decide (nt.2.t ∈ w.ps)) = w.ts
  far : ∀ n t, (n, t) ∈ w2.ts → t.t ∉ w.ps → t.h ∉ w.ps
  ps : w2.ps.filter (fun x => decide (x ∈ w.ps)) = w.ps
section
variable {w w2 : Wb}
theorem Beside.mem (h : Beside w w2) {n : Int} {t : Ti} (m : (n, t) ∈ w.ts) : (n, t) ∈ w2.ts := by
  rw [← h.ts] at m
  exact (List.mem_filter.mp m).1
theorem Beside.pmem (h : Beside w w2) {x : Str} (m : x ∈ w.ps) : x ∈ w2.ps := by
  rw [← h.ps] at m
  exact (List.mem_filter.mp m).1
theorem flat_filter {β : Type} (f : Int × Ti → List β) (p : Int × Ti → Bool) : ∀ (ts : Ts), (∀ nt ∈ ts, p nt = false → f nt = []) → (ts.filter p).flatMap f = ts.flatMap f
  | [], _ => rfl
  | x :: r, h => by
    have ih := flat_filter f p r fun y hy => h y (List.mem_cons_of_mem _ hy)
    rw [List.filter_cons]
    cases e : p x with
    | true => simp only [if_true, List.flatMap_cons, ih]
    | false =>
      have := h x (List.mem_cons_self ..) e
      simp [ih, this]
/-- steps from its points are alike -/
theorem Beside.plain (h : Beside w w2) (q : Int × Ti → Bool) {a : Str} (ha : a ∈ w.ps) : plainS (w2.ts.filter q) a = plainS (w.ts.filter q) a := by
  rw [← h.ts, List.filter_filter]
  have e : (w2.ts.filter fun nt => q nt && decide (nt.2.t ∈ w.ps)) = (w2.ts.filter q).filter fun nt => decide (nt.2.t ∈ w.ps) := by
    rw [List.filter_filter]
    congr 1
    funext nt
    exact Bool.and_comm _ _
  rw [e]
  unfold plainS
  refine (flat_filter _ _ _ fun nt hnt hp => ?_).symm
  have n1 : nt.2.t ∉ w.ps := by simpa using hp
  have n2 := h.far nt.1 nt.2 (List.mem_filter.mp hnt).1 n1
  unfold plainOne
  rw [if_neg (fun e => n1 (by rw [e]; exact ha)), if_neg (fun e => n2 (by rw [e]; exact ha))]
  rfl
theorem Beside.free (h : Beside w w2) (q : Int × Ti → Bool) {a : Str} (ha : a ∈ w.ps) : freeS (w2.ts.filter q) a = freeS (w.ts.filter q) a := by
  rw [← h.ts, List.filter_filter]
  have e : (w2.ts.filter fun nt => q nt && decide (nt.2.t ∈ w.ps)) = (w2.ts.filter q).filter fun nt => decide (nt.2.t ∈ w.ps) := by
    rw [List.filter_filter]
    congr 1
    funext nt
    exact Bool.and_comm _ _
  rw [e]
  unfold freeS
  refine (flat_filter _ _ _ fun nt hnt hp => ?_).symm
  have n1 : nt.2.t ∉ w.ps := by simpa using hp
  have n2 := h.far nt.1 nt.2 (List.mem_filter.mp hnt).1 n1
  unfold freeOne
  rw [if_neg (fun e => n1 (by rw [e]; exact ha)), if_neg (fun e => n2 (by rw [e.2]; exact ha))]
  rfl
theorem Beside.names (h : Beside w w2) {ks : List Str} (hk : ∀ y ∈ ks, y ∈ w.ps) : (w2.ps.filter fun x => decide (x ∈ ks)) = w.ps.filter fun x => decide (x ∈ ks) := by
  conv => rhs; rw [← h.ps]
  rw [List.filter_filter]
  apply List.filter_congr
  intro x _
  by_cases c : x ∈ ks
  · simp [c, hk x c]
  · simp [c]
end
/-- ties alike but for their loads -/
def Alike (ts us : Ts) : Prop := Two (fun a b => a.1 = b.1 ∧ a.2.t = b.2.t ∧ a.2.h = b.2.h ∧ a.2.o = b.2.o) ts us
theorem Alike.plain {ts us : Ts} (h : Alike ts us) (a : Str) : plainS ts a = plainS us a := by
  unfold plainS
  induction h with
  | nil => rfl
  | cons r _ ih =>
    obtain ⟨r1, r2, r3, _⟩ := r
    rw [List.flatMap_cons, List.flatMap_cons, ih]
    unfold plainOne
    rw [r1, r2, r3]
theorem Alike.free {ts us : Ts} (h : Alike ts us) (a : Str) : freeS ts a = freeS us a := by
  unfold freeS
  induction h with
  | nil => rfl
  | cons r _ ih =>
    obtain ⟨r1, r2, r3, r4⟩ := r
    rw [List.flatMap_cons, List.flatMap_cons, ih]
    unfold freeOne
    rw [r1, r2, r3, r4]
theorem Alike.less {ts us : Ts} (h : Alike ts us) (n : Int) : Alike (less ts n) (less us n) := by
  unfold WB.less
  induction h with
  | nil => exact .nil
  | @cons a b as bs r _ ih =>
    rw [List.filter_cons, List.filter_cons, r.1]
    split
    · exact .cons r ih
    · exact ih
end WB

set_option Elab.async false
set_option linter.all false
set_option maxRecDepth 100000
set_option maxHeartbeats 2000000
/-! KM: ties and points that must be passed. -/
namespace WB
open PySem PySem.Spec PyProof.Rows L2 HX
/-- the ties that don't touch a point -/
def past (ts : Ts) (z : Str) : Ts := ts.filter fun nt => !decide (nt.2.t = z) && !decide (nt.2.h = z)
theorem past_mem {ts : Ts} {z : Str} {n : Int} {u : Ti} : (n, u) ∈ past ts z ↔ (n, u) ∈ ts ∧ u.t ≠ z ∧ u.h ≠ z := by
  unfold past
  rw [List.mem_filter]
  simp
theorem asc_ext : ∀ {a b : List Int}, a.Pairwise (· < ·) → b.Pairwise (· < ·) → (∀ x, x ∈ a ↔ x ∈ b) → a = b
  | [], [], _, _, _ => rfl
  | [], y :: s, _, _, h => absurd ((h y).mpr (List.mem_cons_self ..)) (by simp)
  | x :: r, [], _, _, h => absurd ((h x).mp (List.mem_cons_self ..)) (by simp)
  | x :: r, y :: s, ha, hb, h => by
    obtain ⟨a1, a2⟩ := List.pairwise_cons.mp ha
    obtain ⟨b1, b2⟩ := List.pairwise_cons.mp hb
    have e : x = y := by
      rcases List.mem_cons.mp ((h x).mp (List.mem_cons_self ..)) with e | e
      · exact e
      · rcases List.mem_cons.mp ((h y).mpr (List.mem_cons_self ..)) with e' | e'
        · exact e'.symm
        · have := a1 y e'
          have := b1 x e
          omega
    subst e
    have t : r = s := asc_ext a2 b2 fun z => ⟨fun hz => by
      rcases List.mem_cons.mp ((h z).mp (List.mem_cons_of_mem _ hz)) with e | e
      · have := a1 z hz
        omega
      · exact e, fun hz => by
      rcases List.mem_cons.mp ((h z).mpr (List.mem_cons_of_mem _ hz)) with e | e
      · have := b1 z hz
        omega
      · exact e⟩
    rw [t]
theorem asc_of {a : List Int} (h : a.Pairwise (· ≤ ·)) (nd : a.Nodup) : a.Pairwise (· < ·) := (List.Pairwise.and h nd).imp fun {x y} c => by
  obtain ⟨c1, c2⟩ := c
  omega
section
variable {ts : Ts} {one other y : Str} {ns : List Int} {ps : List Str} {S : Steps}
theorem Leads.rch (h : Leads S one ns ps y) : Rch S one y := by
  induction h with
  | here => exact .here
  | snoc _ s ih => exact .step ih s
theorem Leads.last (h : Leads S one ns ps y) : y ∈ ps := by
  cases h <;> simp
theorem Leads.less {n : Int} (h : Leads (plainS ts) one ns ps y) (hn : n ∉ ns) : Leads (plainS (less ts n)) one ns ps y := by
  induction h with
  | here => exact .here _
  | @snoc a y ns ps m h s ih =>
    obtain ⟨u, hu, c⟩ := plain_mem.mp s
    refine .snoc (ih fun q => hn (List.mem_append.mpr (.inl q))) (plain_mem.mpr ⟨u, less_mem.mpr ⟨hu, fun e => hn ?_⟩, c⟩)
    rw [e]; simp
theorem Leads.ends (h : Leads (plainS ts) one ns ps y) : ∀ m ∈ ns, ∃ t, (m, t) ∈ ts ∧ t.t ∈ ps ∧ t.h ∈ ps := by
  induction h with
  | here => intro m hm; simp at hm
  | @snoc a y ns ps n h s ih =>
    intro m hm
    rcases List.mem_append.mp hm with hm | hm
    · obtain ⟨t, h1, h2, h3⟩ := ih m hm
      exact ⟨t, h1, List.mem_append.mpr (.inl h2), List.mem_append.mpr (.inl h3)⟩
    · rw [List.mem_singleton.mp hm]
      obtain ⟨u, hu, c⟩ := plain_mem.mp s
      have ha := h.last
      rcases c with ⟨e1, e2⟩ | ⟨e1, e2⟩
      · exact ⟨u, hu, by rw [e1]; simp [ha], by rw [e2]; simp⟩
      · exact ⟨u, hu, by rw [e2]; simp, by rw [e1]; simp [ha]⟩
theorem Leads.nd (rise : Rise ts) (h : Leads (plainS ts) one ns ps y) (nd : ps.Nodup) : ns.Nodup := by
  induction h with
  | here => exact List.nodup_nil
  | @snoc a y ns ps n h s ih =>
    obtain ⟨p1, p2, p3⟩ := List.nodup_append.mp nd
    refine List.nodup_append.mpr ⟨ih p1, by simp, fun m hm k hk e => ?_⟩
    rw [List.mem_singleton.mp hk] at e
    subst e
    obtain ⟨t, h1, h2, h3⟩ := h.ends m hm
    obtain ⟨u, hu, c⟩ := plain_mem.mp s
    have tu : t = u := by
      have h4 := tget_of rise h1
      rw [tget_of rise hu] at h4
      exact (Option.some.inj h4).symm
    subst tu
    have hy : y ∈ ps := by
      rcases c with ⟨_, e2⟩ | ⟨_, e2⟩
      · rw [← e2]; exact h3
      · rw [← e2]; exact h2
    exact p3 y hy y (by simp) rfl
/-! ### ties -/
/-- the numbers of the ties without which a point isn't come to -/
def dueN (ts : Ts) (one other : Str) : List Int := (ts.filter fun nt => decide (other ∉ keysC (came (plainS (less ts nt.1)) one))).map (·.1)
theorem due_asc (rise : Rise ts) : (dueN ts one other).Pairwise (· < ·) := by
  unfold dueN
  rw [List.pairwise_map]
  exact List.Pairwise.filter _ rise
theorem less_end (l16 : ps.length ≤ 16) (h1 : one ∈ ps) (en : EndsIn ts ps) (n : Int) : CmEnd (plainS (less ts n)) one (came (plainS (less ts n)) one) :=
  came_end l16 h1 fun a _ => plain_in (en.filter _) a
theorem past_end (l16 : ps.length ≤ 16) (h1 : one ∈ ps) (en : EndsIn ts ps) (z : Str) : CmEnd (plainS (past ts z)) one (came (plainS (past ts z)) one) :=
  came_end l16 h1 fun a _ => plain_in (en.filter _) a
theorem plain_end (l16 : ps.length ≤ 16) (h1 : one ∈ ps) (en : EndsIn ts ps) : CmEnd (plainS ts) one (came (plainS ts) one) := came_end l16 h1 fun a _ => plain_in en a
theorem cm_len {cm : Came} (l16 : ps.length ≤ 16) (h1 : one ∈ ps) (en : EndsIn ts ps) (h : CmOk (plainS ts) one cm) : cm.length ≤ 16 := by
  have := nodup_len h.nd (h.keys_in h1 fun a _ => plain_in en a)
  rw [keysC_len] at this
  omega
theorem back_way (l16 : ps.length ≤ 16) (h1 : one ∈ ps) (en : EndsIn ts ps) {cm : Came} (ok : CmOk (plainS ts) one cm) (hy : other ∈ keysC cm) : ∃ qs, Leads (plainS ts) one (back cm 17 other).reverse qs other ∧ qs.Nodup ∧ (∀ z ∈ qs, z ∈ ps) ∧ (back cm 17 other).length ≤ 15 := by
  obtain ⟨i, hi⟩ := List.mem_iff_getElem?.mp hy
  have hil := (List.getElem?_eq_some_iff.mp hi).1
  rw [keysC_len] at hil
  have := cm_len l16 h1 en ok
  obtain ⟨h2, qs, h3, h4, h5⟩ := ok.back i other 17 hi (by omega)
  exact ⟨qs, h3, h4, fun z hz => by
    obtain ⟨j, _, hj⟩ := h5 z hz
    exact ok.keys_in h1 (fun a _ => plain_in en a) z (List.mem_of_getElem? hj), by omega⟩
theorem due_mem (l16 : ps.length ≤ 16) (h1 : one ∈ ps) (en : EndsIn ts ps) {n : Int} (hy : other ∈ keysC (came (plainS ts) one)) :
    n ∈ dueN ts one other ↔ n ∈ back (came (plainS ts) one) 17 other ∧ other ∉ keysC (came (plainS (less ts n)) one) := by
  obtain ⟨qs, hl, _, _, _⟩ := back_way l16 h1 en (plain_end l16 h1 en).toCmOk hy
  unfold dueN
  rw [List.mem_map]
  constructor
  · rintro ⟨⟨m, t⟩, hm, rfl⟩
    obtain ⟨hm1, hm2⟩ := List.mem_filter.mp hm
    have hm2 : other ∉ keysC (came (plainS (less ts m)) one) := of_decide_eq_true hm2
    refine ⟨?_, hm2⟩
    by_cases c : m ∈ (back (came (plainS ts) one) 17 other).reverse
    · simpa using c
    · exact absurd ((less_end l16 h1 en m).keys_iff.mpr (hl.less c).rch) hm2
  · rintro ⟨c1, c2⟩
    obtain ⟨t, ht, _⟩ := hl.ends n (by simpa using c1)
    exact ⟨(n, t), List.mem_filter.mpr ⟨ht, decide_eq_true c2⟩, rfl⟩
theorem due_eq (l16 : ps.length ≤ 16) (h1 : one ∈ ps) (en : EndsIn ts ps) (rise : Rise ts) (hy : other ∈ keysC (came (plainS ts) one)) {ms : List Int}
    (hp : ms.Perm (back (came (plainS ts) one) 17 other).reverse) (ha : ms.Pairwise (· ≤ ·)) : ms.filter (fun n => decide (other ∉ keysC (came (plainS (less ts n)) one))) = dueN ts one other := by
  obtain ⟨qs, hl, nd, _, _⟩ := back_way l16 h1 en (plain_end l16 h1 en).toCmOk hy
  have mn : ms.Nodup := hp.nodup_iff.mpr (hl.nd rise nd)
  refine asc_ext (List.Pairwise.filter _ (asc_of ha mn)) (due_asc rise) fun n => ?_
  rw [due_mem l16 h1 en hy, List.mem_filter, hp.mem_iff, List.mem_reverse]
  simp
/-! ### points -/
def dueP (ps : List Str) (ts : Ts) (one other : Str) : List Str := (ps.filter fun x => !decide (x = one) && !decide (x = other)).filter fun x => decide (other ∉ keysC (came (plainS (past ts x)) one))
theorem plain_row0 (num : ∀ n t, (n, t) ∈ ts → 1 ≤ n) (a : Str) (n : Int) (z : Str) : (n, z) ∈ plainS ts a ↔ (n, z) ∈ rowS false 0 none ts a := by
  rw [← plain_row]
  have e : WB.less ts 0 = ts := List.filter_eq_self.mpr fun nt h => by
    have := num nt.1 nt.2 h
    simp; omega
  rw [e]
theorem shun_ne {g : Int} {x : Str} (hx : one ≠ x) (r : Rch (rowS false g (some x) ts) one y) : y ≠ x := by
  cases r with
  | here => exact hx
  | step _ s =>
    obtain ⟨_, _, _, _, c⟩ := row_mem.mp s
    exact fun e => c (by rw [e])
theorem past_shun (num : ∀ n t, (n, t) ∈ ts → 1 ≤ n) {x : Str} (hx : one ≠ x) : Rch (plainS (past ts x)) one y ↔ Rch (rowS false 0 (some x) ts) one y := by
  constructor
  · refine Rch.imp fun a n z h => ⟨n, ?_⟩
    obtain ⟨u, hu, c⟩ := plain_mem.mp h
    obtain ⟨h1, h2, h3⟩ := past_mem.mp hu
    refine row_mem.mpr ⟨u, h1, by have := num n u h1; omega, turns_mem.mpr (c.imp id fun c => ⟨rfl, c⟩), fun e => ?_⟩
    cases e
    rcases c with ⟨_, e⟩ | ⟨_, e⟩
    · exact h3 e
    · exact h2 e
  · intro r
    induction r with
    | here => exact .here
    | @step a y n h s ih =>
      have na := shun_ne hx h
      obtain ⟨u, hu, _, ht, c⟩ := row_mem.mp s
      have ny : y ≠ x := fun e => c (by rw [e])
      refine .step (n := n) ih (plain_mem.mpr ⟨u, past_mem.mpr ⟨hu, ?_⟩, (turns_mem.mp ht).imp id fun c => c.2⟩)
      rcases turns_mem.mp ht with ⟨e1, e2⟩ | ⟨_, e1, e2⟩
      · exact ⟨by rw [e1]; exact na, by rw [e2]; exact ny⟩
      · exact ⟨by rw [e2]; exact ny, by rw [e1]; exact na⟩
theorem unseen (num : ∀ n t, (n, t) ∈ ts → 1 ≤ n) {x : Str} (h : ¬ Rch (plainS ts) one x) (r : Rch (plainS ts) one y) : Rch (rowS false 0 (some x) ts) one y := by
  induction r with
  | here => exact .here
  | @step a y n r s ih =>
    obtain ⟨u, hu, _, ht, _⟩ := row_mem.mp ((plain_row0 num _ _ _).mp s)
    exact .step (n := n) ih (row_mem.mpr ⟨u, hu, by have := num n u hu; omega, ht, fun e => h (by cases e; exact .step r s)⟩)
end
/-! ### what stands beside -/
section
variable {w w2 : Wb} {one other : Str}
theorem Beside.came (b : Beside w w2) (ok : Wok w) (h1 : one ∈ w.ps) : WB.came (plainS w2.ts) one = WB.came (plainS w.ts) one := by
  refine came_congr (ps := w.ps) h1 (fun a _ => plain_in ok.ends a) fun a ha => ?_
  have := b.plain (fun _ => true) ha
  rwa [List.filter_eq_self.mpr (fun _ _ => rfl), List.filter_eq_self.mpr (fun _ _ => rfl)] at this
theorem Beside.less (b : Beside w w2) (ok : Wok w) (h1 : one ∈ w.ps) (n : Int) : WB.came (plainS (WB.less w2.ts n)) one = WB.came (plainS (WB.less w.ts n)) one :=
  came_congr (ps := w.ps) h1 (fun a _ => plain_in (ok.ends.filter _) a) fun a ha => b.plain _ ha
theorem Beside.past (b : Beside w w2) (ok : Wok w) (h1 : one ∈ w.ps) (z : Str) : WB.came (plainS (WB.past w2.ts z)) one = WB.came (plainS (WB.past w.ts z)) one :=
  came_congr (ps := w.ps) h1 (fun a _ => plain_in (ok.ends.filter _) a) fun a ha => b.plain _ ha
theorem Beside.due (b : Beside w w2) (ok : Wok w) (ok2 : Wok w2) (h1 : one ∈ w.ps) (hy : other ∈ keysC (WB.came (plainS w.ts) one)) : dueN w2.ts one other = dueN w.ts one other := by
  have e := b.came ok h1
  refine asc_ext (due_asc ok2.rise) (due_asc ok.rise) fun n => ?_
  rw [due_mem ok2.le (b.pmem h1) ok2.ends (by rw [e]; exact hy), due_mem ok.le h1 ok.ends hy, e, b.less ok h1 n]
theorem Beside.dueP (b : Beside w w2) (ok : Wok w) (h1 : one ∈ w.ps) (hy : other ∈ keysC (WB.came (plainS w.ts) one)) : WB.dueP w2.ps w2.ts one other = WB.dueP w.ps w.ts one other := by
  unfold WB.dueP
  rw [List.filter_filter, List.filter_filter]
  conv => rhs; rw [← b.ps]
  rw [List.filter_filter]
  apply List.filter_congr
  intro x hx
  rw [b.past ok h1 x]
  by_cases c : x ∈ w.ps
  · simp [c]
  · have e : WB.past w.ts x = w.ts := List.filter_eq_self.mpr fun nt h => by
      have := ok.ends nt.1 nt.2 h
      have h1 : nt.2.t ≠ x := fun e => c (by rw [← e]; exact this.1)
      have h2 : nt.2.h ≠ x := fun e => c (by rw [← e]; exact this.2)
      simp [h1, h2]
    rw [e]
    simp [c, hy]
end
end WB

set_option Elab.async false
set_option linter.all false
set_option maxRecDepth 100000
set_option maxHeartbeats 2000000
namespace K20
open PySem PySem.Spec PyProof.Rows L2 HX WB
local macro_rules | `(tactic| walk_at "side") => `(tactic| first
  | assumption
  | rfl
  | (show (0 : Int) < _; omega)
  | (unfold CDiv; omega)
  | (unfold CMul; omega)
  | (unfold CPow; omega)
  | (rw [sizeLine_eq]; omega)
  | omega)
local macro_rules | `(tactic| walk_at "e") => `(tactic| first
  | ((with_reducible apply i_var); exact rfl)
  | (with_reducible apply i_c)
  | (with_reducible apply i_op)
  | (with_reducible apply i_un)
  | (with_reducible apply i_rI0)
  | ((with_reducible apply i_rI); (case c => walk_at "side"))
  | (with_reducible apply i_rGe)
  | (with_reducible apply i_rGt)
  | (with_reducible apply i_rU)
  | (with_reducible apply i_rEqI)
  | (with_reducible apply i_rNeI)
  | (with_reducible apply i_rEqS)
  | (with_reducible apply i_rNeS)
  | (with_reducible apply i_rEqB)
  | (with_reducible apply i_rNeB)
  | (with_reducible apply i_rIsN)
  | (with_reducible apply i_rNotN)
  | (with_reducible apply i_rInS)
  | (with_reducible apply i_rNotInS)
  | ((with_reducible apply i_catS); (case c => walk_at "side"))
  | (with_reducible apply i_tcb)
  | (with_reducible apply i_nil)
  | (with_reducible apply i_cons)
  | ((with_reducible apply i_lenS); (case c => walk_at "side"))
  | ((with_reducible apply i_lenL); assumption)
  | (with_reducible apply i_abs)
  | (with_reducible apply i_max2)
  | (with_reducible apply i_min2)
  | ((with_reducible apply i_strI); (case c => walk_at "side"))
  | (with_reducible apply i_intB)
  | (with_reducible apply i_test)
  | (with_reducible apply i_tB)
  | (with_reducible apply i_kB)
  | (with_reducible apply i_and)
  | (with_reducible apply i_or)
  | (with_reducible apply i_not)
  | (with_reducible apply i_if)
  | (with_reducible apply i_andV)
  | (with_reducible apply i_orV)
  | (with_reducible apply i_notV)
  | (with_reducible apply i_kAndV)
  | (with_reducible apply i_kOrV)
  | (with_reducible apply i_kNotV)
  | (with_reducible apply i_chain)
  | (with_reducible apply i_kChain)
  | (with_reducible apply i_drop)
  | (with_reducible apply i_ret)
  | (with_reducible apply i_retN)
  | (with_reducible apply i_ifS)
  | (with_reducible apply i_asg)
  | (with_reducible apply i_gName)
  | (with_reducible apply i_for)
  | (with_reducible apply i_lc)
  | (with_reducible apply i_iList)
  | (with_reducible apply i_iTup)
  | (with_reducible apply i_iStr)
  | (with_reducible apply i_kStrI)
  | (with_reducible apply i_lst)
  | (with_reducible apply i_tup)
  | (with_reducible apply i_call)
  | (with_reducible apply i_m1)
  | (with_reducible apply i_kStr)
  | (with_reducible apply i_bm)
  | (with_reducible apply i_bm0)
  | (with_reducible apply i_part)
  | (with_reducible apply i_kInt)
  | (with_reducible apply i_noPart)
  | (with_reducible apply i_sl)
  | (with_reducible apply i_range1)
  | (with_reducible apply i_range2)
  | ((with_reducible apply i_kRng1); (case c => walk_at "side"))
  | ((with_reducible apply i_kRng2); (case c => walk_at "side"))
  | (with_reducible apply i_gCons)
  | (with_reducible apply i_gNil)
  | (with_reducible apply i_gSub)
  | (with_reducible apply i_iZip)
  | (with_reducible apply i_yes)
  | (with_reducible apply i_ift)
  | (with_reducible apply i_iff)
  | (with_reducible apply i_nb))
local macro_rules | `(tactic| walk_at "go") => `(tactic| repeat (first | (with_reducible apply i_seq) | (with_reducible apply i_next) | walk_at "e"))
local macro_rules | `(tactic| walk_at "ge") => `(tactic| repeat walk_at "e")
local macro_rules | `(tactic| walk_at "sz") => `(tactic| first | decide | (rw [sizeLine_eq]; simp; done) | (rw [sizeLine_eq]; omega))
local macro_rules | `(tactic| walk_at "side") => `(tactic| (with_reducible exact WB.most_pos))
local macro_rules | `(tactic| walk_at "e") => `(tactic| first
  | ((with_reducible apply i_isT (b := true)); exact rfl)
  | ((with_reducible apply i_isT (b := false)); exact rfl)
  | (with_reducible apply i_fld)
  | ((with_reducible apply i_kFld); (case h => assumption); (case c1 => assumption); (case c2 => assumption); (case e => first | exact lk_number | exact lk_tail | exact lk_head | exact lk_load | exact lk_oneway | exact lk_points | exact lk_ties | exact lk_given))
  | (with_reducible apply i_sfld)
  | ((with_reducible apply i_kSFld); (case h => first | assumption | exact upd_same); (case c1 => assumption); (case c2 => assumption); (case e => exact Nat.le_of_ble_eq_true rfl))
  | (with_reducible apply i_methC)
  | (with_reducible apply i_make)
  | (with_reducible apply i_fldaug)
  | (with_reducible apply i_vals)
  | (with_reducible apply i_items)
  | (with_reducible apply i_dget)
  | (with_reducible apply i_dput)
  | (with_reducible apply i_din)
  | (with_reducible apply i_dnotin)
  | (with_reducible apply i_ddel)
  | (with_reducible apply i_dc)
  | (with_reducible apply i_enum)
  | (with_reducible apply i_ckw))
section
variable {P : Program} {w : World} {K : PySem.W.Frag} {mg : Str → Option Value} {base : Heap}
/-- an instance of a class with one field, a list -/
structure HasL (K : PySem.W.Frag) (H : Hp) (c f : Str) (r nl : Addr) (xs : List V) : Prop where
  self : ∃ dx, H r = some (.ins (He.ga K c) dx [(f, .ref nl)])
  lst : H nl = some (.lst xs)
theorem HasL.same {H H' : Hp} {c f : Str} {r nl : Addr} {xs : List V} (h : HasL K H c f r nl xs) (m : Same H H') : HasL K H' c f r nl xs := ⟨by obtain ⟨dx, e⟩ := h.self; exact ⟨dx, m _ _ e⟩, m _ _ h.lst⟩
def sp_mk (K : PySem.W.Frag) (c f : Str) : Sp := fun vs H Q _ => ∃ (x dx a : Addr) (xs : List V), vs = [.ref x, .ref a] ∧ H x = some (.ins (He.ga K c) dx []) ∧ H a = some (.lst xs) ∧
  ∀ nl, H nl = none → Q .non (upd (upd H nl (.lst xs)) x (.ins (He.ga K c) dx [(f, .ref nl)]))
theorem ok_Border_init (T : Tx K mg) : FnOk P w K mg base CX0 1 (He.ma K (He.ga K "Border") "__init__") T.fd_Border_init ["self", "names"] (sp_mk K "Border" "names") := by
  refine T.F_Border_init.ok sc_Border_init (fun vs H Q E h => ?_) (fun cdv A outer s H vs Q E hr h => ?_)
  · obtain ⟨_, _, _, _, rfl, _⟩ := h
    rfl
  · obtain ⟨x, dx, a, xs, rfl, hx, ha, q⟩ := h
    refine ⟨_, PSs.nox (pss_one (ps_fld (pv 0) (pe_callTy x_list (by rfl) T.b_list (by decide +kernel) (pa_cons (pv 1) pa_nil)) rfl)), ?_⟩
    have c1 := T.cl_Border
    have c2 := T.na_Border_names
    walk_at "go"
    refine ⟨a, _, rfl, .inl (SqL.of ha), fun nl hnl => ?_⟩
    have hx1 := (upd_ne (ne_of_none hx hnl) (o := .lst xs)).trans hx
    walk_at "go"
    exact q nl hnl
def sp_border_by (K : PySem.W.Frag) : Sp := fun vs H Q _ => ∃ p l d w c cm, vs = [.ref p, .ref c] ∧ WebAt K H p l d w ∧ w.ps.length ≤ 16 ∧ CmAt H c cm ∧ ∀ r nl H', Same H H' → H r = none → H nl = none → HasL K H' "Border" "names" r nl ((namesIn w.ps cm).map V.str) → Q (.ref r) H'
theorem ok_border_by (T : Tx K mg) : FnOk P w K mg base CX0 3 (He.ga K "border_by") T.fd_border_by ["web", "came"] (sp_border_by K) := by
  refine T.F_border_by.ok sc_border_by (fun vs H Q E h => ?_) (fun cdv A outer s H vs Q E hr h => ?_)
  · obtain ⟨_, _, _, _, _, _, rfl, _⟩ := h
    rfl
  · obtain ⟨p, l, d, w, c, cm, rfl, hw, l16, hc, q⟩ := h
    refine ⟨_, PSs.nox (pss_one (ps_ret (pe_make T.mk_Border (ok_Border_init T) (hr.mono (by decide)) (by rfl) T.g_Border T.k_Border_init .nil pass0 (pa_cons (pe_call (ok_names_in T) (hr.mono (by decide)) (by rfl) T.g_names_in T.F_names_in.kp T.k_names_in .nil pass0 (pa_cons (pv 0) (pa_cons (pv 1) pa_nil))) pa_nil)))), ?_⟩
    walk_at "go"
    refine ⟨p, l, d, w, c, cm, rfl, hw, l16, hc, fun a H1 s1 ha ea => ?_⟩
    walk_at "go"
    intro x dx hx hdx hne
    refine ⟨x, dx, a, _, rfl, upd_same, (upd_ne (ne_of_none ea hx)).trans ((upd_ne (ne_of_none ea hdx)).trans ea), fun nl hnl => ?_⟩
    have s2 : Same H1 (upd (upd H1 dx (.own x)) x (.ins (He.ga K "Border") dx [])) := Same.mut (Same.new hdx) hx
    have fnl := s2.free hnl
    refine ⟨rfl, ?_⟩
    walk_at "go"
    refine q x nl _ ?_ (s1.free hx) (s1.free fnl) ⟨⟨dx, upd_same⟩, ?_⟩
    · exact s1.trans (Same.mut (Same.mut s2 fnl) hx)
    · have nx : nl ≠ x := fun e => by rw [e, upd_same] at hnl; cases hnl
      exact (upd_ne nx).trans upd_same
/-- what is told: a way, or the border -/
def toldBy (K : PySem.W.Frag) (H : Hp) (Q : VK) (ps : List Str) (cm : Came) (y : Str) : Prop :=
  (y ∈ keysC cm → ∀ r nl H', Same H H' → H r = none → H nl = none → HasL K H' "Way" "numbers" r nl ((back cm 17 y).reverse.map V.int) → Q (.ref r) H') ∧
  (y ∉ keysC cm → ∀ r nl H', Same H H' → H r = none → H nl = none → HasL K H' "Border" "names" r nl ((namesIn ps cm).map V.str) → Q (.ref r) H')
theorem ok_way_by (T : Tx K mg) : FnOk P w K mg base CX0 2 (He.ga K "way_by") T.fd_way_by ["came", "target"] sp_numbers_to := by
  refine T.F_way_by.ok sc_way_by (fun vs H Q E h => ?_) (fun cdv A outer s H vs Q E hr h => ?_)
  · obtain ⟨_, _, _, _, rfl, _⟩ := h
    rfl
  · obtain ⟨c, cm, Y, rk, rfl, hc, hrk, hy, i17, q⟩ := h
    refine ⟨_, PSs.nox (pss_one (ps_ret (pe_call (ok_numbers_to T) (hr.mono (by decide)) (by rfl) T.g_numbers_to T.F_numbers_to.kp T.k_numbers_to .nil pass0 (pa_cons (pv 0) (pa_cons (pv 1) pa_nil))))), ?_⟩
    walk_at "go"
    exact ⟨c, cm, Y, rk, rfl, hc, hrk, hy, i17, fun a H' s f e => by walk_at "go"; exact q a H' s f e⟩
end
end K20

set_option Elab.async false
set_option linter.all false
set_option maxRecDepth 100000
set_option maxHeartbeats 2000000
/-! KDJ: least ways: the nearest point first, its steps relaxed. -/
namespace WB
open PySem PySem.Spec L2
structure DS where
  keys : List Str
  par : Str → Option (Int × Str)
  ht : Str → Int
  F : List Str
  L : List Str
def kfS (ht : Str → Int) : V → Int := fun v => match v with
  | .str x => ht x
  | _ => 0
def pick (s : DS) : Str := s.L.getD (LamK.bestAt (kfS s.ht) (s.L.map V.str)) ""
theorem pick_at {s : DS} (h : s.L ≠ []) : (s.L.map V.str).getD (LamK.bestAt (kfS s.ht) (s.L.map V.str)) .non = V.str (pick s) := by
  have hl := LamK.best_lt (kf := kfS s.ht) (ys := s.L.map V.str) (by simpa using h)
  rw [List.length_map] at hl
  unfold pick
  rw [List.getD_eq_getElem?_getD, List.getD_eq_getElem?_getD, List.getElem?_map, List.getElem?_eq_getElem hl]
  rfl
theorem pick_mem {s : DS} (h : s.L ≠ []) : pick s ∈ s.L := by
  have hl := LamK.best_lt (kf := kfS s.ht) (ys := s.L.map V.str) (by simpa using h)
  rw [List.length_map] at hl
  unfold pick
  rw [List.getD_eq_getElem?_getD, List.getElem?_eq_getElem hl]
  exact List.getElem_mem hl
theorem pick_le {s : DS} (h : s.L ≠ []) {y : Str} (hy : y ∈ s.L) : s.ht (pick s) ≤ s.ht y := by
  have := LamK.best_le (kf := kfS s.ht) (ys := s.L.map V.str) (by simpa using h) (y := .str y) (List.mem_map.mpr ⟨y, hy, rfl⟩)
  rw [pick_at h] at this
  exact this
def relax (ld : Int → Int) (a : Str) (s : DS) (p : Int × Str) : DS :=
  if p.2 ∈ s.keys then
    if s.ht a + ld p.1 < s.ht p.2 then { s with par := fun x => if x = p.2 then some (p.1, a) else s.par x, ht := fun x => if x = p.2 then s.ht a + ld p.1 else s.ht x } else s
  else { s with keys := s.keys ++ [p.2], L := s.L ++ [p.2], par := fun x => if x = p.2 then some (p.1, a) else s.par x, ht := fun x => if x = p.2 then s.ht a + ld p.1 else s.ht x }
def dOpen (s : DS) : DS := { s with L := s.L.erase (pick s), F := s.F ++ [pick s] }
def dStep (S : Steps) (ld : Int → Int) (s : DS) : DS := (S (pick s)).foldl (relax ld (pick s)) (dOpen s)
def dRun (S : Steps) (ld : Int → Int) : Nat → DS → DS
  | 0, s => s
  | f + 1, s => if s.L = [] then s else dRun S ld f (dStep S ld s)
def dStart (one : Str) : DS := ⟨[one], fun _ => none, fun _ => 0, [], [one]⟩
def dij (S : Steps) (ld : Int → Int) (one : Str) : DS := dRun S ld 17 (dStart one)
/-- ex: what is still to be looked at -/
structure DOk (S : Steps) (ld : Int → Int) (one : Str) (s : DS) (ex : Str → Int × Str → Prop) : Prop where
  nd : s.keys.Nodup
  part : ∀ x, x ∈ s.keys ↔ x ∈ s.F ∨ x ∈ s.L
  dis : ∀ x ∈ s.F, x ∉ s.L
  fnd : s.F.Nodup
  lnd : s.L.Nodup
  hd : one ∈ s.keys
  p1 : s.par one = none
  h1 : s.ht one = 0
  par : ∀ y ∈ s.keys, y ≠ one → ∃ n a, s.par y = some (n, a) ∧ a ∈ s.F ∧ (n, y) ∈ S a ∧ s.ht y = s.ht a + ld n ∧ (y ∈ s.F → s.F.idxOf a < s.F.idxOf y)
  feas : ∀ a ∈ s.F, ∀ p ∈ S a, ¬ ex a p → p.2 ∈ s.keys ∧ s.ht p.2 ≤ s.ht a + ld p.1
  mono : ∀ a ∈ s.F, ∀ y ∈ s.L, s.ht a ≤ s.ht y
  nn : ∀ y ∈ s.keys, 0 ≤ s.ht y
  rch : ∀ y ∈ s.keys, Rch S one y
theorem dOk_start (S : Steps) (ld : Int → Int) (one : Str) : DOk S ld one (dStart one) fun _ _ => False :=
  ⟨by simp [dStart], by simp [dStart], by simp [dStart], by simp [dStart], by simp [dStart], by simp [dStart], rfl, rfl, fun y hy ne => absurd (List.mem_singleton.mp hy) ne, by simp [dStart], by simp [dStart],
    fun y _ => Int.le_refl _, fun y hy => by rw [List.mem_singleton.mp hy]; exact .here⟩
section
variable {S : Steps} {ld : Int → Int} {one : Str} {s : DS}
theorem DOk.opened (h : DOk S ld one s fun _ _ => False) (hL : s.L ≠ []) : DOk S ld one (dOpen s) (fun b _ => b = pick s) ∧ ∀ f ∈ (dOpen s).F, s.ht f ≤ s.ht (pick s) := by
  have hp := pick_mem hL
  have hpF : pick s ∉ s.F := fun c => h.dis _ c hp
  refine ⟨⟨h.nd, fun x => ?_, fun x hx hl => ?_, ?_, h.lnd.erase _, h.hd, h.p1, h.h1, fun y hy ne => ?_, fun a ha p hpS ne => ?_, fun a ha y hy => ?_, h.nn, h.rch⟩, fun f hf => ?_⟩
  · show x ∈ s.keys ↔ x ∈ s.F ++ [pick s] ∨ x ∈ s.L.erase (pick s)
    rw [h.part x, List.mem_append, List.mem_singleton, h.lnd.mem_erase_iff]
    constructor
    · rintro (c | c)
      · exact .inl (.inl c)
      · by_cases e : x = pick s
        · exact .inl (.inr e)
        · exact .inr ⟨e, c⟩
    · rintro ((c | c) | c)
      · exact .inl c
      · exact .inr (c ▸ hp)
      · exact .inr c.2
  · have hl : x ∈ s.L.erase (pick s) := hl
    rw [h.lnd.mem_erase_iff] at hl
    rcases List.mem_append.mp (show x ∈ s.F ++ [pick s] from hx) with c | c
    · exact h.dis x c hl.2
    · exact hl.1 (List.mem_singleton.mp c)
  · show (s.F ++ [pick s]).Nodup
    exact List.nodup_append.mpr ⟨h.fnd, by simp, fun x hx y hy e => hpF (by rw [← List.mem_singleton.mp hy, ← e]; exact hx)⟩
  · obtain ⟨n, a, e1, e2, e3, e4, e5⟩ := h.par y hy ne
    refine ⟨n, a, e1, List.mem_append_left _ e2, e3, e4, fun hF => ?_⟩
    show (s.F ++ [pick s]).idxOf a < (s.F ++ [pick s]).idxOf y
    rw [List.idxOf_append (a := a), if_pos e2]
    rcases List.mem_append.mp (show y ∈ s.F ++ [pick s] from hF) with c | c
    · rw [List.idxOf_append, if_pos c]
      exact e5 c
    · have c : y = pick s := List.mem_singleton.mp c
      rw [List.idxOf_append, if_neg (by rw [c]; exact hpF)]
      have := List.idxOf_lt_length_of_mem e2
      omega
  · rcases List.mem_append.mp (show a ∈ s.F ++ [pick s] from ha) with c | c
    · exact h.feas a c p hpS (fun z => z)
    · exact absurd (List.mem_singleton.mp c) ne
  · have hy2 : y ∈ s.L := List.mem_of_mem_erase hy
    rcases List.mem_append.mp (show a ∈ s.F ++ [pick s] from ha) with c | c
    · exact h.mono a c y hy2
    · rw [List.mem_singleton.mp c]
      exact pick_le hL hy2
  · rcases List.mem_append.mp (show f ∈ s.F ++ [pick s] from hf) with c | c
    · exact h.mono f c _ hp
    · rw [List.mem_singleton.mp c]
      exact Int.le_refl _
theorem relax_F {a : Str} {p : Int × Str} : (relax ld a s p).F = s.F := by
  unfold relax
  split
  · split <;> rfl
  · rfl
theorem DOk.relax (hl : ∀ n, 0 ≤ ld n) {a : Str} {p : Int × Str} {r : List (Int × Str)} (h : DOk S ld one s fun b q => b = a ∧ q ∈ p :: r) (ha : a ∈ s.F) (mx : ∀ f ∈ s.F, s.ht f ≤ s.ht a) (hp : p ∈ S a) :
    DOk S ld one (relax ld a s p) (fun b q => b = a ∧ q ∈ r) ∧ (∀ f ∈ s.F, (WB.relax ld a s p).ht f = s.ht f) := by
  have hak : a ∈ s.keys := (h.part a).mpr (.inl ha)
  have a0 := h.nn a hak
  have l0 := hl p.1
  have ex_of : ∀ {b q}, ¬ (b = a ∧ q ∈ r) → (b = a ∧ q = p) ∨ ¬ (b = a ∧ q ∈ p :: r) := fun {b q} c => by
    by_cases e : b = a ∧ q = p
    · exact .inl e
    · refine .inr fun z => ?_
      rcases List.mem_cons.mp z.2 with d | d
      · exact e ⟨z.1, d⟩
      · exact c ⟨z.1, d⟩
  unfold WB.relax
  by_cases k : p.2 ∈ s.keys
  · rw [if_pos k]
    by_cases lt : s.ht a + ld p.1 < s.ht p.2
    · rw [if_pos lt]
      have nF : p.2 ∉ s.F := fun c => by
        have := mx _ c
        omega
      have n1 : one ≠ p.2 := fun c => by
        rw [← c, h.h1] at lt
        omega
      have old : ∀ {x}, x ∈ s.F → (if x = p.2 then s.ht a + ld p.1 else s.ht x) = s.ht x := fun {x} hx => if_neg (fun e => nF (by rw [← e]; exact hx))
      refine ⟨⟨h.nd, h.part, h.dis, h.fnd, h.lnd, h.hd, ?_, ?_, fun y hy ne => ?_, fun b hb q hq nex => ?_, fun b hb y hy => ?_, fun y hy => ?_, h.rch⟩, fun f hf => old hf⟩
      · show (if one = p.2 then _ else _) = _
        rw [if_neg n1]
        exact h.p1
      · show (if one = p.2 then _ else _) = _
        rw [if_neg n1]
        exact h.h1
      · by_cases c : y = p.2
        · refine ⟨p.1, a, if_pos c, ha, by rw [c]; exact hp, ?_, fun hF => absurd (by rw [← c]; exact hF) nF⟩
          show (if y = p.2 then _ else _) = (if a = p.2 then _ else _) + _
          rw [if_pos c, old ha]
        · obtain ⟨n, b, e1, e2, e3, e4, e5⟩ := h.par y hy ne
          refine ⟨n, b, (if_neg c).trans e1, e2, e3, ?_, e5⟩
          show (if y = p.2 then _ else _) = (if b = p.2 then _ else _) + _
          rw [if_neg c, old e2]
          exact e4
      · show q.2 ∈ s.keys ∧ (if q.2 = p.2 then _ else _) ≤ (if b = p.2 then _ else _) + _
        rw [old hb]
        rcases ex_of nex with ⟨c1, c2⟩ | c
        · subst c1 c2
          exact ⟨k, by rw [if_pos rfl]; exact Int.le_refl _⟩
        · obtain ⟨f1, f2⟩ := h.feas b hb q hq c
          refine ⟨f1, ?_⟩
          by_cases c3 : q.2 = p.2
          · rw [if_pos c3]
            rw [c3] at f2
            omega
          · rw [if_neg c3]
            exact f2
      · show (if b = p.2 then _ else _) ≤ (if y = p.2 then _ else _)
        rw [old hb]
        by_cases c : y = p.2
        · rw [if_pos c]
          have := mx b hb
          omega
        · rw [if_neg c]
          exact h.mono b hb y hy
      · show 0 ≤ (if y = p.2 then _ else _)
        split
        · omega
        · exact h.nn y hy
    · rw [if_neg lt]
      refine ⟨⟨h.nd, h.part, h.dis, h.fnd, h.lnd, h.hd, h.p1, h.h1, h.par, fun b hb q hq nex => ?_, h.mono, h.nn, h.rch⟩, fun f hf => rfl⟩
      rcases ex_of nex with ⟨c1, c2⟩ | c
      · subst c1 c2
        exact ⟨k, by omega⟩
      · exact h.feas b hb q hq c
  · rw [if_neg k]
    have nF : p.2 ∉ s.F := fun c => k ((h.part _).mpr (.inl c))
    have nL : p.2 ∉ s.L := fun c => k ((h.part _).mpr (.inr c))
    have oldk : ∀ {x}, x ∈ s.keys → (if x = p.2 then s.ht a + ld p.1 else s.ht x) = s.ht x := fun {x} hx => if_neg (fun e => k (by rw [← e]; exact hx))
    have old : ∀ {x}, x ∈ s.F → (if x = p.2 then s.ht a + ld p.1 else s.ht x) = s.ht x := fun {x} hx => oldk ((h.part _).mpr (.inl hx))
    have n1 : one ≠ p.2 := fun c => k (by rw [← c]; exact h.hd)
    refine ⟨⟨?_, fun x => ?_, fun x hx hl => ?_, h.fnd, ?_, List.mem_append_left _ h.hd, (if_neg n1).trans h.p1, (if_neg n1).trans h.h1, fun y hy ne => ?_, fun b hb q hq nex => ?_, fun b hb y hy => ?_, fun y hy => ?_, fun y hy => ?_⟩, fun f hf => old hf⟩
    · exact List.nodup_append.mpr ⟨h.nd, by simp, fun x hx y hy e => k (by rw [← List.mem_singleton.mp hy, ← e]; exact hx)⟩
    · show x ∈ s.keys ++ [p.2] ↔ x ∈ s.F ∨ x ∈ s.L ++ [p.2]
      rw [List.mem_append, List.mem_append, h.part x, or_assoc]
    · rcases List.mem_append.mp (show x ∈ s.L ++ [p.2] from hl) with c | c
      · exact h.dis x hx c
      · exact nF (by rw [← List.mem_singleton.mp c]; exact hx)
    · exact List.nodup_append.mpr ⟨h.lnd, by simp, fun x hx y hy e => nL (by rw [← List.mem_singleton.mp hy, ← e]; exact hx)⟩
    · by_cases c : y = p.2
      · refine ⟨p.1, a, if_pos c, ha, by rw [c]; exact hp, ?_, fun hF => absurd (by rw [← c]; exact hF) nF⟩
        show (if y = p.2 then _ else _) = (if a = p.2 then _ else _) + _
        rw [if_pos c, old ha]
      · have hy2 : y ∈ s.keys := by
          rcases List.mem_append.mp (show y ∈ s.keys ++ [p.2] from hy) with z | z
          · exact z
          · exact absurd (List.mem_singleton.mp z) c
        obtain ⟨n, b, e1, e2, e3, e4, e5⟩ := h.par y hy2 ne
        refine ⟨n, b, (if_neg c).trans e1, e2, e3, ?_, e5⟩
        show (if y = p.2 then _ else _) = (if b = p.2 then _ else _) + _
        rw [if_neg c, old e2]
        exact e4
    · show q.2 ∈ s.keys ++ [p.2] ∧ (if q.2 = p.2 then _ else _) ≤ (if b = p.2 then _ else _) + _
      rw [old hb]
      rcases ex_of nex with ⟨c1, c2⟩ | c
      · subst c1 c2
        exact ⟨by simp, by rw [if_pos rfl]; exact Int.le_refl _⟩
      · obtain ⟨f1, f2⟩ := h.feas b hb q hq c
        exact ⟨List.mem_append_left _ f1, by rw [oldk f1]; exact f2⟩
    · show (if b = p.2 then _ else _) ≤ (if y = p.2 then _ else _)
      rw [old hb]
      rcases List.mem_append.mp (show y ∈ s.L ++ [p.2] from hy) with c | c
      · rw [oldk ((h.part _).mpr (.inr c))]
        exact h.mono b hb y c
      · rw [if_pos (List.mem_singleton.mp c)]
        have := mx b hb
        omega
    · show 0 ≤ (if y = p.2 then _ else _)
      split
      · omega
      · rename_i c
        rcases List.mem_append.mp (show y ∈ s.keys ++ [p.2] from hy) with z | z
        · exact h.nn y z
        · exact absurd (List.mem_singleton.mp z) c
    · rcases List.mem_append.mp (show y ∈ s.keys ++ [p.2] from hy) with z | z
      · exact h.rch y z
      · rw [List.mem_singleton.mp z]
        exact .step (n := p.1) (h.rch a hak) hp
theorem DOk.weaken {ex ex' : Str → Int × Str → Prop} (h : DOk S ld one s ex) (w : ∀ b q, q ∈ S b → ex b q → ex' b q) : DOk S ld one s ex' :=
  ⟨h.nd, h.part, h.dis, h.fnd, h.lnd, h.hd, h.p1, h.h1, h.par, fun a ha p hp ne => h.feas a ha p hp fun c => ne (w a p hp c), h.mono, h.nn, h.rch⟩
/-- what holds when j steps of a are looked at -/
theorem DOk.fold (hl : ∀ n, 0 ≤ ld n) {a : Str} : ∀ (r : List (Int × Str)) (s : DS), (∀ p ∈ r, p ∈ S a) → DOk S ld one s (fun b q => b = a ∧ q ∈ r) → a ∈ s.F → (∀ f ∈ s.F, s.ht f ≤ s.ht a) → DOk S ld one (r.foldl (WB.relax ld a) s) (fun _ _ => False) ∧ (r.foldl (WB.relax ld a) s).F = s.F ∧ ∀ f ∈ s.F, (r.foldl (WB.relax ld a) s).ht f = s.ht f
  | [], s, _, h, _, _ => ⟨h.weaken fun b q _ c => by simp at c, rfl, fun _ _ => rfl⟩
  | p :: r, s, hp, h, ha, mx => by
    obtain ⟨h2, e2⟩ := h.relax hl ha mx (hp p (List.mem_cons_self ..))
    have eF : (WB.relax ld a s p).F = s.F := relax_F
    obtain ⟨h3, e3, e4⟩ := DOk.fold hl r (WB.relax ld a s p) (fun q hq => hp q (List.mem_cons_of_mem _ hq)) h2 (by rw [eF]; exact ha) (fun f hf => by
      rw [eF] at hf
      rw [e2 f hf, e2 a ha]
      exact mx f hf)
    exact ⟨h3, e3.trans eF, fun f hf => (e4 f (by rw [eF]; exact hf)).trans (e2 f hf)⟩
theorem DOk.fold2 (hl : ∀ n, 0 ≤ ld n) {a : Str} : ∀ (r rest : List (Int × Str)) (s : DS), (∀ p ∈ r, p ∈ S a) → DOk S ld one s (fun b q => b = a ∧ q ∈ r ++ rest) → a ∈ s.F → (∀ f ∈ s.F, s.ht f ≤ s.ht a) → DOk S ld one (r.foldl (WB.relax ld a) s) (fun b q => b = a ∧ q ∈ rest) ∧ (r.foldl (WB.relax ld a) s).F = s.F ∧ ∀ f ∈ s.F, (r.foldl (WB.relax ld a) s).ht f = s.ht f
  | [], _, s, _, h, _, _ => ⟨h, rfl, fun _ _ => rfl⟩
  | p :: r, rest, s, hp, h, ha, mx => by
    obtain ⟨h2, e2⟩ := DOk.relax (r := r ++ rest) hl h ha mx (hp p (List.mem_cons_self ..))
    have eF : (WB.relax ld a s p).F = s.F := relax_F
    obtain ⟨h3, e3, e4⟩ := DOk.fold2 hl r rest (WB.relax ld a s p) (fun q hq => hp q (List.mem_cons_of_mem _ hq)) h2 (by rw [eF]; exact ha) (fun f hf => by
      rw [eF] at hf
      rw [e2 f hf, e2 a ha]
      exact mx f hf)
    exact ⟨h3, e3.trans eF, fun f hf => (e4 f (by rw [eF]; exact hf)).trans (e2 f hf)⟩
theorem DOk.step (hl : ∀ n, 0 ≤ ld n) (h : DOk S ld one s fun _ _ => False) (hL : s.L ≠ []) : DOk S ld one (dStep S ld s) (fun _ _ => False) ∧ (dStep S ld s).F = s.F ++ [pick s] := by
  obtain ⟨h1, mx⟩ := h.opened hL
  have h2 := h1.weaken (ex' := fun b q => b = pick s ∧ q ∈ S (pick s)) fun b q hq c => ⟨c, by rw [← c]; exact hq⟩
  obtain ⟨h3, h4, _⟩ := DOk.fold hl (S (pick s)) (dOpen s) (fun _ hp => hp) h2 (List.mem_append_right _ (List.mem_singleton.mpr rfl)) mx
  exact ⟨h3, h4⟩
theorem DOk.flen {ex : Str → Int × Str → Prop} (h : DOk S ld one s ex) {ps : List Str} (h1 : one ∈ ps) (he : ∀ a ∈ ps, ∀ p ∈ S a, p.2 ∈ ps) : s.keys.length ≤ ps.length ∧ s.F.length ≤ s.keys.length ∧ ∀ y ∈ s.keys, y ∈ ps := by
  have all : ∀ {z}, Rch S one z → z ∈ ps := fun r => by
    induction r with
    | here => exact h1
    | step _ st ih => exact he _ ih _ st
  have kin : ∀ y ∈ s.keys, y ∈ ps := fun y hy => all (h.rch y hy)
  exact ⟨nodup_len h.nd kin, nodup_len h.fnd fun y hy => (h.part y).mpr (.inl hy), kin⟩
/-- the whole run -/
theorem DOk.run (hl : ∀ n, 0 ≤ ld n) {ps : List Str} (h1 : one ∈ ps) (he : ∀ a ∈ ps, ∀ p ∈ S a, p.2 ∈ ps) (l16 : ps.length ≤ 16) : ∀ (f : Nat) (s : DS), DOk S ld one s (fun _ _ => False) → 17 ≤ f + s.F.length → DOk S ld one (dRun S ld f s) (fun _ _ => False) ∧ (dRun S ld f s).L = []
  | 0, s, h, hf => by
    have := (h.flen h1 he).1
    have := (h.flen h1 he).2.1
    omega
  | f + 1, s, h, hf => by
    unfold dRun
    by_cases c : s.L = []
    · rw [if_pos c]
      exact ⟨h, c⟩
    · rw [if_neg c]
      obtain ⟨h2, h3⟩ := h.step hl c
      refine DOk.run hl h1 he l16 f _ h2 ?_
      rw [h3, List.length_append, List.length_singleton]
      omega
theorem dij_ok (hl : ∀ n, 0 ≤ ld n) {ps : List Str} (h1 : one ∈ ps) (he : ∀ a ∈ ps, ∀ p ∈ S a, p.2 ∈ ps) (l16 : ps.length ≤ 16) : DOk S ld one (dij S ld one) (fun _ _ => False) ∧ (dij S ld one).L = [] :=
  DOk.run hl h1 he l16 17 _ (dOk_start S ld one) (by omega)
/-- alike steps, alike runs -/
theorem fold_congr {ld' : Int → Int} {a : Str} : ∀ (r : List (Int × Str)) (s : DS), (∀ p ∈ r, ld' p.1 = ld p.1) → r.foldl (WB.relax ld' a) s = r.foldl (WB.relax ld a) s
  | [], _, _ => rfl
  | p :: r, s, h => by
    rw [List.foldl_cons, List.foldl_cons]
    have e : WB.relax ld' a s p = WB.relax ld a s p := by
      unfold WB.relax
      rw [h p (List.mem_cons_self ..)]
    rw [e]
    exact fold_congr r _ fun q hq => h q (List.mem_cons_of_mem _ hq)
theorem run_congr {S' : Steps} {ld' : Int → Int} (hl : ∀ n, 0 ≤ ld n) (e : ∀ a, Rch S one a → S' a = S a ∧ ∀ p ∈ S a, ld' p.1 = ld p.1) : ∀ (f : Nat) (s : DS), DOk S ld one s (fun _ _ => False) → dRun S' ld' f s = dRun S ld f s
  | 0, _, _ => rfl
  | f + 1, s, h => by
    unfold dRun
    by_cases c : s.L = []
    · rw [if_pos c, if_pos c]
    · rw [if_neg c, if_neg c]
      obtain ⟨e1, e2⟩ := e (pick s) (h.rch _ ((h.part _).mpr (.inr (pick_mem c))))
      have e3 : dStep S' ld' s = dStep S ld s := by
        unfold dStep
        rw [e1]
        exact fold_congr _ _ e2
      rw [e3]
      exact run_congr hl e f _ (h.step hl c).1
theorem dij_congr {S' : Steps} {ld' : Int → Int} (hl : ∀ n, 0 ≤ ld n) (e : ∀ a, Rch S one a → S' a = S a ∧ ∀ p ∈ S a, ld' p.1 = ld p.1) : dij S' ld' one = dij S ld one := run_congr hl e 17 _ (dOk_start S ld one)
/-- what was come by -/
def cameD (s : DS) : Came := s.keys.map fun x => (x, s.par x)
theorem cameD_keys (s : DS) : keysC (cameD s) = s.keys := by
  unfold keysC cameD
  rw [List.map_map]
  exact List.map_id _
theorem cameD_look {y : Str} (h : y ∈ s.keys) (nd : s.keys.Nodup) : look (cameD s) y = some (s.par y) := by
  obtain ⟨i, hi, e⟩ := List.getElem_of_mem h
  refine look_at (i := i) (by rw [cameD_keys]; exact nd) ?_
  unfold cameD
  rw [List.getElem?_map, List.getElem?_eq_getElem hi, e]
  rfl
theorem DOk.back (h : DOk S ld one s fun _ _ => False) (hL : s.L = []) : ∀ (f : Nat) (y : Str), y ∈ s.keys → s.F.idxOf y < f → ∃ ps, Leads S one (back (cameD s) f y).reverse ps y ∧ ps.Nodup ∧ (∀ z ∈ ps, z ∈ s.keys ∧ s.F.idxOf z ≤ s.F.idxOf y) ∧ ((WB.back (cameD s) f y).map ld).sum = s.ht y
  | 0, _, _, hf => by omega
  | f + 1, y, hy, hf => by
    have lk := cameD_look hy h.nd
    by_cases c : y = one
    · subst c
      have e0 : WB.back (cameD s) (f + 1) y = [] := by
        show (match look (cameD s) y with
          | some (some p) => p.1 :: WB.back (cameD s) f p.2
          | _ => []) = _
        rw [lk, h.p1]
      rw [e0]
      exact ⟨[y], .here _, by simp, fun z hz => by rw [List.mem_singleton.mp hz]; exact ⟨hy, Nat.le_refl _⟩, h.h1.symm⟩
    · obtain ⟨n, a, e1, e2, e3, e4, e5⟩ := h.par y hy c
      have e0 : WB.back (cameD s) (f + 1) y = n :: WB.back (cameD s) f a := by
        show (match look (cameD s) y with
          | some (some p) => p.1 :: WB.back (cameD s) f p.2
          | _ => []) = _
        rw [lk, e1]
      have yF : y ∈ s.F := by
        rcases (h.part y).mp hy with z | z
        · exact z
        · rw [hL] at z; cases z
      have lt := e5 yF
      obtain ⟨ps, l1, l2, l3, l4⟩ := DOk.back h hL f a ((h.part a).mpr (.inl e2)) (by omega)
      refine ⟨ps ++ [y], ?_, ?_, fun z hz => ?_, ?_⟩
      · rw [e0, List.reverse_cons]
        exact .snoc l1 e3
      · exact List.nodup_append.mpr ⟨l2, by simp, fun z hz w hw e => by
          have := (l3 z hz).2
          rw [e, List.mem_singleton.mp hw] at this
          omega⟩
      · rcases List.mem_append.mp hz with hz | hz
        · exact ⟨(l3 z hz).1, by have := (l3 z hz).2; omega⟩
        · rw [List.mem_singleton.mp hz]
          exact ⟨hy, Nat.le_refl _⟩
      · rw [e0, List.map_cons, List.sum_cons, l4, e4]
        omega
end
/-! ### in the heap -/
section
variable {f : Str → V} {ps : List Str} {x : Str} {v : V}
def mapD (f : Str → V) (ps : List Str) : List (Key × V) := ps.map fun x => (Sum.inr x, f x)
theorem mapD_get (h : x ∈ ps) : valV (mapD f ps) (Sum.inr x) = some (f x) := by
  unfold mapD
  induction ps with
  | nil => cases h
  | cons y r ih =>
    rw [List.map_cons]
    by_cases c : y = x
    · subst c
      unfold valV
      simp
    · have h2 : x ∈ r := by
        rcases List.mem_cons.mp h with e | e
        · exact absurd e.symm c
        · exact e
      have := ih h2
      unfold valV at this ⊢
      rw [List.find?_cons_of_neg (by simpa using c)]
      exact this
theorem mapD_put (h : x ∈ ps) : putK (mapD f ps) (Sum.inr x) v = mapD (fun y => if y = x then v else f y) ps := by
  unfold putK
  rw [if_pos]
  · unfold mapD
    rw [List.map_map]
    apply List.map_congr_left
    intro y _
    show (if (Sum.inr y : Key) = Sum.inr x then _ else _) = _
    by_cases c : y = x
    · subst c
      show _ = (Sum.inr y, if y = y then v else f y)
      rw [if_pos rfl, if_pos rfl]
    · show _ = (Sum.inr y, if y = x then v else f y)
      rw [if_neg (fun e => c (Sum.inr.inj e)), if_neg c]
  · refine List.any_eq_true.mpr ⟨_, List.mem_map.mpr ⟨x, h, rfl⟩, by simp⟩
theorem mapD_congr {g : Str → V} (h : ∀ x ∈ ps, f x = g x) : mapD f ps = mapD g ps := List.map_congr_left fun x hx => by rw [h x hx]
theorem mapD_new (h : x ∉ ps) : putK (mapD f ps) (Sum.inr x) v = mapD (fun y => if y = x then v else f y) (ps ++ [x]) := by
  unfold putK
  rw [if_neg]
  · unfold mapD
    rw [List.map_append, List.map_cons, List.map_nil]
    have e1 : (if x = x then v else f x) = v := if_pos rfl
    show _ = _ ++ [((Sum.inr x : Key), (if x = x then v else f x))]
    rw [e1]
    congr 1
    refine List.map_congr_left fun y hy => ?_
    show _ = ((Sum.inr y : Key), (if y = x then v else f y))
    rw [if_neg (fun e => h (by rw [← e]; exact hy))]
  · intro q
    obtain ⟨kv, hk, e⟩ := List.any_eq_true.mp q
    obtain ⟨y, hy, rfl⟩ := List.mem_map.mp hk
    have : (Sum.inr y : Key) = Sum.inr x := by simpa using e
    exact h (by rw [← Sum.inr.inj this]; exact hy)
end
/-- loads by number -/
def numD (ts : Ts) : List (Key × V) := ts.map fun e => (Sum.inl e.1, V.int e.2.c)
def ldOf (ts : Ts) (n : Int) : Int := ((tget ts n).map (·.c)).getD 0
theorem ldOf_mem {ts : Ts} (h : Rise ts) {n : Int} {t : Ti} (m : (n, t) ∈ ts) : ldOf ts n = t.c := by
  unfold ldOf
  rw [tget_of h m]
  rfl
theorem numD_get {ts : Ts} (h : Rise ts) {n : Int} {t : Ti} (m : (n, t) ∈ ts) : valV (numD ts) (Sum.inl n) = some (.int (ldOf ts n)) := by
  rw [ldOf_mem h m]
  unfold numD
  induction ts with
  | nil => cases m
  | cons e r ih =>
    obtain ⟨h1, h2⟩ := List.pairwise_cons.mp h
    rw [List.map_cons]
    by_cases c : e.1 = n
    · have : e = (n, t) := by
        rcases List.mem_cons.mp m with z | z
        · exact z.symm
        · have := h1 _ z
          have : e.1 < n := this
          omega
      subst this
      unfold valV
      simp
    · have h2' : (n, t) ∈ r := by
        rcases List.mem_cons.mp m with z | z
        · exact absurd (by rw [← z]) c
        · exact z
      have := ih h2 h2'
      unfold valV at this ⊢
      rw [List.find?_cons_of_neg (by simpa using c)]
      exact this
theorem numD_snoc {ts : Ts} {n : Int} {t : Ti} (h : ∀ e ∈ ts, e.1 ≠ n) : putK (numD ts) (Sum.inl n) (.int t.c) = numD (ts ++ [(n, t)]) := by
  unfold putK
  rw [if_neg]
  · unfold numD
    rw [List.map_append]
    rfl
  · intro q
    obtain ⟨kv, hk, e⟩ := List.any_eq_true.mp q
    obtain ⟨y, hy, rfl⟩ := List.mem_map.mp hk
    have : (Sum.inl y.1 : Key) = Sum.inl n := by simpa using e
    exact h y hy (Sum.inl.inj this)
theorem came_put {H : Hp} {c t : Addr} {keys : List Str} {par : Str → Option (Int × Str)} {y a : Str} {n : Int} (h : CmAt H c (keys.map fun x => (x, par x))) (ht : H t = some (.tup [.int n, .str a])) :
    ∃ kvs, H c = some (.dK kvs) ∧ kvs.length = keys.length ∧ CmAt (upd H c (.dK (putK kvs (Sum.inr y) (.ref t)))) c ((if y ∈ keys then keys else keys ++ [y]).map fun x => (x, if x = y then some (n, a) else par x)) := by
  by_cases k : y ∈ keys
  · rw [if_pos k]
    obtain ⟨kvs, e, tw⟩ := h.ex
    have hc : ∀ xs, H c ≠ some (.tup xs) := fun xs => by rw [e]; simp
    refine ⟨kvs, e, by rw [tw.len, List.length_map], ⟨_, upd_same, ?_⟩⟩
    have any : (kvs.any fun kv => decide (kv.1 = Sum.inr y)) = true := by
      obtain ⟨i, hi, ei⟩ := List.getElem_of_mem k
      obtain ⟨kv, e1, e2⟩ := tw.getr (i := i) (b := (y, par y)) (by rw [List.getElem?_map, List.getElem?_eq_getElem hi, ei]; rfl)
      exact List.any_eq_true.mpr ⟨kv, List.mem_of_getElem? e1, by simpa using e2.1⟩
    have en : putK kvs (Sum.inr y) (.ref t) = kvs.map fun kv => if kv.1 = Sum.inr y then (kv.1, V.ref t) else kv := by
      unfold putK
      rw [if_pos any]
    rw [en]
    have em : (keys.map fun x => (x, if x = y then some (n, a) else par x)) = (keys.map fun x => (x, par x)).map fun p => (p.1, if p.1 = y then some (n, a) else p.2) := by
      rw [List.map_map]
      rfl
    rw [em]
    refine tw.map fun kv p r => ?_
    obtain ⟨r1, r2⟩ := r
    by_cases c2 : p.1 = y
    · rw [if_pos (by rw [r1, c2]), if_pos c2]
      refine ⟨r1, t, rfl, ?_⟩
      rw [upd_ne (fun z => hc _ (by rw [← z]; exact ht))]
      exact ht
    · rw [if_neg (fun z => c2 (by rw [r1] at z; exact Sum.inr.inj z)), if_neg c2]
      exact ⟨r1, r2.off hc⟩
  · rw [if_neg k]
    obtain ⟨kvs, e1, e2, e3⟩ := h.add (x := y) (n := n) (a := a) (t := t) (by
      intro m
      unfold keysC at m
      rw [List.map_map] at m
      obtain ⟨z, hz, e⟩ := List.mem_map.mp m
      have e : z = y := e
      exact k (by rw [← e]; exact hz)) ht
    refine ⟨kvs, e1, by rw [e2, List.length_map], ?_⟩
    have em : ((keys ++ [y]).map fun x => (x, if x = y then some (n, a) else par x)) = (keys.map fun x => (x, par x)) ++ [(y, some (n, a))] := by
      rw [List.map_append, List.map_cons, List.map_nil, if_pos rfl]
      congr 1
      exact List.map_congr_left fun z hz => by rw [if_neg (fun e => k (by rw [← e]; exact hz))]
    rw [em]
    exact e3
theorem cmAt_other {H : Hp} {c g : Addr} {cm : Came} {o : HO} (h : CmAt H g cm) (n : g ≠ c) (hc : ∀ xs, H c ≠ some (.tup xs)) : CmAt (upd H c o) g cm := by
  obtain ⟨kvs, e, t⟩ := h.ex
  exact ⟨kvs, (upd_ne n).trans e, t.mono fun _ _ r => ⟨r.1, r.2.off hc⟩⟩
end WB

set_option Elab.async false
set_option linter.all false
set_option maxRecDepth 100000
set_option maxHeartbeats 4000000
namespace K20
open PySem PySem.Spec PyProof.Rows L2 HX WB LamK
local macro_rules | `(tactic| walk_at "side") => `(tactic| first
  | assumption
  | rfl
  | (show (0 : Int) < _; omega)
  | (unfold CDiv; omega)
  | (unfold CMul; omega)
  | (unfold CPow; omega)
  | (rw [sizeLine_eq]; omega)
  | omega)
local macro_rules | `(tactic| walk_at "e") => `(tactic| first
  | ((with_reducible apply i_var); exact rfl)
  | (with_reducible apply i_c)
  | (with_reducible apply i_op)
  | (with_reducible apply i_un)
  | (with_reducible apply i_rI0)
  | ((with_reducible apply i_rI); (case c => walk_at "side"))
  | (with_reducible apply i_rGe)
  | (with_reducible apply i_rGt)
  | (with_reducible apply i_rU)
  | (with_reducible apply i_rEqI)
  | (with_reducible apply i_rNeI)
  | (with_reducible apply i_rEqS)
  | (with_reducible apply i_rNeS)
  | (with_reducible apply i_rEqB)
  | (with_reducible apply i_rNeB)
  | (with_reducible apply i_rIsN)
  | (with_reducible apply i_rNotN)
  | (with_reducible apply i_rInS)
  | (with_reducible apply i_rNotInS)
  | ((with_reducible apply i_catS); (case c => walk_at "side"))
  | (with_reducible apply i_tcb)
  | (with_reducible apply i_nil)
  | (with_reducible apply i_cons)
  | ((with_reducible apply i_lenS); (case c => walk_at "side"))
  | ((with_reducible apply i_lenL); assumption)
  | (with_reducible apply i_abs)
  | (with_reducible apply i_max2)
  | (with_reducible apply i_min2)
  | ((with_reducible apply i_strI); (case c => walk_at "side"))
  | (with_reducible apply i_intB)
  | (with_reducible apply i_test)
  | (with_reducible apply i_tB)
  | (with_reducible apply i_kB)
  | (with_reducible apply i_and)
  | (with_reducible apply i_or)
  | (with_reducible apply i_not)
  | (with_reducible apply i_if)
  | (with_reducible apply i_andV)
  | (with_reducible apply i_orV)
  | (with_reducible apply i_notV)
  | (with_reducible apply i_kAndV)
  | (with_reducible apply i_kOrV)
  | (with_reducible apply i_kNotV)
  | (with_reducible apply i_chain)
  | (with_reducible apply i_kChain)
  | (with_reducible apply i_drop)
  | (with_reducible apply i_ret)
  | (with_reducible apply i_retN)
  | (with_reducible apply i_ifS)
  | (with_reducible apply i_asg)
  | (with_reducible apply i_gName)
  | (with_reducible apply i_for)
  | (with_reducible apply i_lc)
  | (with_reducible apply i_iList)
  | (with_reducible apply i_iTup)
  | (with_reducible apply i_iStr)
  | (with_reducible apply i_kStrI)
  | (with_reducible apply i_lst)
  | (with_reducible apply i_tup)
  | (with_reducible apply i_call)
  | (with_reducible apply i_m1)
  | (with_reducible apply i_kStr)
  | (with_reducible apply i_bm)
  | (with_reducible apply i_bm0)
  | (with_reducible apply i_part)
  | (with_reducible apply i_kInt)
  | (with_reducible apply i_noPart)
  | (with_reducible apply i_sl)
  | (with_reducible apply i_range1)
  | (with_reducible apply i_range2)
  | ((with_reducible apply i_kRng1); (case c => walk_at "side"))
  | ((with_reducible apply i_kRng2); (case c => walk_at "side"))
  | (with_reducible apply i_gCons)
  | (with_reducible apply i_gNil)
  | (with_reducible apply i_gSub)
  | (with_reducible apply i_iZip)
  | (with_reducible apply i_yes)
  | (with_reducible apply i_ift)
  | (with_reducible apply i_iff)
  | (with_reducible apply i_nb))
local macro_rules | `(tactic| walk_at "go") => `(tactic| repeat (first | (with_reducible apply i_seq) | (with_reducible apply i_next) | walk_at "e"))
local macro_rules | `(tactic| walk_at "ge") => `(tactic| repeat walk_at "e")
local macro_rules | `(tactic| walk_at "sz") => `(tactic| first | decide | (rw [sizeLine_eq]; simp; done) | (rw [sizeLine_eq]; omega))
local macro_rules | `(tactic| walk_at "side") => `(tactic| (with_reducible exact WB.most_pos))
local macro_rules | `(tactic| walk_at "e") => `(tactic| first
  | ((with_reducible apply i_isT (b := true)); exact rfl)
  | ((with_reducible apply i_isT (b := false)); exact rfl)
  | (with_reducible apply i_fld)
  | ((with_reducible apply i_kFld); (case h => assumption); (case c1 => assumption); (case c2 => assumption); (case e => first | exact lk_number | exact lk_tail | exact lk_head | exact lk_load | exact lk_oneway | exact lk_points | exact lk_ties | exact lk_given))
  | (with_reducible apply i_sfld)
  | ((with_reducible apply i_kSFld); (case h => first | assumption | exact upd_same); (case c1 => assumption); (case c2 => assumption); (case e => exact Nat.le_of_ble_eq_true rfl))
  | (with_reducible apply i_methC)
  | (with_reducible apply i_make)
  | (with_reducible apply i_fldaug)
  | (with_reducible apply i_vals)
  | (with_reducible apply i_items)
  | (with_reducible apply i_dget)
  | (with_reducible apply i_dput)
  | (with_reducible apply i_din)
  | (with_reducible apply i_dnotin)
  | (with_reducible apply i_ddel)
  | (with_reducible apply i_dc)
  | (with_reducible apply i_enum)
  | (with_reducible apply i_ckw))
/-! ### apart from one address -/
theorem off_same {P : Addr} {H H1 H2 : Hp} (h1 : Same (off P H) H1) (h2 : Same (off P H1) H2) : Same (off P H) H2 := fun b o e => h2 b o (by
  rw [off_ne (off_le e).2]
  exact h1 b o e)
theorem off_in {P : Addr} {H : Hp} : Same (off P H) H := fun b o e => (off_le e).1
theorem tabL_same {P : Addr} {q : Str} {H H' : Hp} (h : TabL H P q) (s : Same H H') : TabL H' P q := by
  obtain ⟨C, e, c⟩ := h
  exact ⟨C, s _ _ e, fun x hx => ⟨(c x hx).1, s _ _ (c x hx).2⟩⟩
theorem tabL_ne {P : Addr} {q : Str} {H : Hp} {b : Addr} {o : HO} (h : TabL H P q) (e : H b = some o) (n : ∀ φ, o ≠ .ext φ) : b ≠ P := by
  rintro rfl
  obtain ⟨C, e2, _⟩ := h
  rw [e] at e2
  exact n _ (Option.some.inj e2)
theorem off_free {P : Addr} {q : Str} {H H1 : Hp} {a : Addr} (s : Same (off P H) H1) (t : TabL H1 P q) (h : H1 a = none) : H a = none := by
  have f := s.free h
  have n : a ≠ P := by
    rintro rfl
    obtain ⟨C, e2, _⟩ := t
    rw [h] at e2
    cases e2
  rwa [off_ne n] at f
section
variable {K : PySem.W.Frag} {H H' : Hp} {P : Addr} {q : Str}
theorem off_at (t : TabL H P q) {b : Addr} {o : HO} (n : ∀ φ, o ≠ .ext φ) (e : H b = some o) : off P H b = some o := by
  rw [off_ne (tabL_ne t e n)]
  exact e
theorem sqL_off {a : Addr} {xs : List V} (t : TabL H P q) (h : SqL K H a xs) : SqL K (off P H) a xs := by
  rcases h with (h | ⟨o, h⟩) | h
  · exact .inl (.inl (off_at t (fun _ => by simp) h))
  · exact .inl (.inr ⟨o, off_at t (fun _ => by simp) h⟩)
  · exact .inr h
theorem webAt_off {p l d : Addr} {w : Wb} (t : TabL H P q) (h : WebAt K H p l d w) : WebAt K (off P H) p l d w := by
  obtain ⟨⟨dx, e1⟩, e2, kvs, e3, dp⟩ := h
  exact ⟨⟨dx, off_at t (fun _ => by simp) e1⟩, off_at t (fun _ => by simp) e2, kvs, off_at t (fun _ => by simp) e3, dp.mono fun n u a ⟨dy, e⟩ => ⟨dy, off_at t (fun _ => by simp) e⟩⟩
theorem stL_off {l : Addr} {ss : List (Int × Str)} (t : TabL H P q) (h : StL H l ss) : StL (off P H) l ss := by
  obtain ⟨as, e, tw⟩ := h.ex
  exact ⟨as, off_at t (fun _ => by simp) e, tw.mono fun _ _ r => off_at t (fun _ => by simp) r⟩
theorem stD_off {e : Addr} {ps : List Str} {L : Str → Addr} {S : Steps} (t : TabL H P q) (h : StD H e ps L S) : StD (off P H) e ps L S := ⟨off_at t (fun _ => by simp) h.dict, h.inj, fun x hx => stL_off t (h.at' x hx)⟩
theorem cmAt_off {c : Addr} {cm : Came} (t : TabL H P q) (h : CmAt H c cm) : CmAt (off P H) c cm := by
  obtain ⟨kvs, e, tw⟩ := h.ex
  refine ⟨kvs, off_at t (fun _ => by simp) e, tw.mono fun kv p r => ⟨r.1, ?_⟩⟩
  obtain ⟨r1, r2⟩ := r
  cases hp : p.2 with
  | none =>
    rw [hp] at r2
    exact r2
  | some na =>
    rw [hp] at r2
    obtain ⟨t2, e1, e2⟩ := r2
    exact ⟨t2, e1, off_at t (fun _ => by simp) e2⟩
end
theorem upd_tab {P b : Addr} {q : Str} {H : Hp} {o o2 : HO} (t : TabL H P q) (e : H b = some o2) (n : ∀ φ, o2 ≠ .ext φ) : TabL (upd H b o) P q := by
  obtain ⟨C, c1, c2⟩ := t
  have ne : ∀ {x : Addr} {φ}, H x = some (.ext φ) → x ≠ b := fun {x φ} h z => by
    rw [z, e] at h
    exact n φ (Option.some.inj h)
  exact ⟨C, (upd_ne (ne c1)).trans c1, fun c hc => ⟨(c2 c hc).1, (upd_ne (ne (c2 c hc).2)).trans (c2 c hc).2⟩⟩
/-- the name of the lambda's code -/
def lamQ : Str := "_least_came.<locals>.<lambda>"
/-- heights as a dict -/
def htD (s : DS) : List (Key × V) := mapD (fun x => V.int (s.ht x)) s.keys
theorem relax_keys {ld : Int → Int} {a x : Str} {s : DS} {p : Int × Str} (h : x ∈ s.keys) : x ∈ (relax ld a s p).keys := by
  unfold relax
  split
  · split
    · exact h
    · exact h
  · exact List.mem_append_left _ h
section
variable {P : Program} {w : World} {K : PySem.W.Frag} {mg : Str → Option Value} {base : Heap}
def sp_lcame (K : PySem.W.Frag) : Sp := fun vs H Q _ => ∃ p l d w one, vs = [.ref p, .str one] ∧ WebAt K (off (tb K) H) p l d w ∧ Wok w ∧ one ∈ w.ps ∧ TabL H (tb K) lamQ ∧
  ∀ t c hd H', Same (off (tb K) H) H' → TabL H' (tb K) lamQ → H' t = some (.tup [.ref c, .ref hd]) → CmAt H' c (cameD (dij (freeS w.ts) (ldOf w.ts) one)) → H' hd = some (.dK (htD (dij (freeS w.ts) (ldOf w.ts) one))) → Q (.ref t) H'
theorem ok_least_came (T : Tx K mg) (J : Js P w K mg base) : FnOk P w K mg base CX0 5 (He.ga K "_least_came") T.fd_least_came ["web", "one"] (sp_lcame K) := by
  refine AnyL.tab_ok T.F_least_came J.cdo sc_least_came (fun vs H Q E h => ?_) (fun A outer s H vs Q E hr h => ?_)
  · obtain ⟨_, _, _, _, _, rfl, _⟩ := h
    rfl
  · obtain ⟨p, l, d, w, one, rfl, hw0, ok, h1, ht, q⟩ := h
    have hu := hu_of hr
    refine ⟨_, PSs.nox (pss_cons (ps_set (i := 2) sc_least_came.nd rfl (Or.inl rfl) (pe_call (ok_free_steps T) (hr.mono (by decide)) (by rfl) T.g_free_steps T.F_free_steps.kp T.k_free_steps .nil pass0 (pa_cons (pe_meth0 (pv 0) T.cl_Web T.m_Web_points (ok_Web_points T) (hr.mono (by decide)) T.k_Web_points .nil pass0) (pa_cons (pe_meth0 (pv 0) T.cl_Web T.m_Web_ties (ok_Web_ties T) (hr.mono (by decide)) T.k_Web_ties .nil pass0) pa_nil))))
      (pss_cons (ps_setDc (i := 3) (own := [("tie", 11)]) (by rfl) sc_least_came.nd rfl rfl (swD_true rfl rfl rfl (by decide +kernel)) (pi_list (pe_meth0 (pv 0) T.cl_Web T.m_Web_ties (ok_Web_ties T) (hr.mono (by decide)) T.k_Web_ties .nil pass0)) (blkOk_by (own := [("tie", 11)]) (N := N_least_came) (sc := defScope s_least_came) (by decide +kernel)) (fun _ _ _ _ _ => (pg_name (i := 11) sc_least_came.nd rfl (Or.inl rfl))) (fun _ _ _ _ _ => pts_nil) (fun _ _ _ _ _ => (pe_fldK K rfl (pv 11) rfl)) (fun _ _ _ _ _ => (pe_fldK K rfl (pv 11) rfl)))
      (pss_cons (ps_set (i := 4) sc_least_came.nd rfl (Or.inl rfl) (pe_disp (pps_cons (pv 1) pe_non pps_nil) (by rfl) (by rfl) (fun z => by cases z) (by decide)))
      (pss_cons (ps_set (i := 5) sc_least_came.nd rfl (Or.inr rfl) (pe_disp (pps_cons (pv 1) pe_int pps_nil) (by rfl) (by rfl) (fun z => by cases z) (by decide)))
      (pss_cons (ps_set (i := 6) sc_least_came.nd rfl (Or.inl rfl) (pe_lst (pa_cons (pv 1) pa_nil)))
      (pss_cons (ps_while PassesOwn.never (pt_truth (pv 6) (by intro _; rfl)) (pss_cons (ps_set (i := 7) sc_least_came.nd rfl (Or.inl rfl) (LamK.pe_minLam hr (by rfl) T.b_min J.tab rfl ⟨LamK.oneP_of (dscope := defScope s_least_came) (by decide +kernel), rfl, fun _ _ _ _ => rfl, fun _ _ _ h => Or.inr (Or.inl h)⟩ (LamK.ek_int (LamK.ee_get (AnyL.ee_var (i := 5) rfl rfl rfl rfl (AnyL.clo_at (by decide +kernel))) (AnyL.ee_x rfl rfl) (fun _ _ => rfl))) (pv 6)))
      (pss_cons (ps_expr (pe_bm PySem.F.plainAttrs_list PySem.F.slot_list_remove PySem.F.type_list_remove mt_removeS (pv 6) (pa_cons (pv 7) pa_nil)))
      (pss_one (ps_for PassesOwn.never rfl (pi_list (pe_dget hu (pv 2) (pv 7) (fun _ _ => rfl))) (pg_tup rfl (pgs_cons (pg_name (i := 8) sc_least_came.nd rfl (Or.inl rfl)) (pgs_cons (pg_name (i := 9) sc_least_came.nd rfl (Or.inl rfl)) pgs_nil)))
      (pss_cons (ps_set (i := 10) sc_least_came.nd rfl (Or.inl rfl) (pe_op op_add (pe_dget hu (pv 5) (pv 7) (fun _ _ => rfl)) (pe_dget hu (pv 3) (pv 8) (fun _ _ => rfl))))
      (C8.pss_cut (ps_if (pt_cmp (pc_dnotin hu (pv 9) (pv 4))) (pss_one (ps_expr (pe_bm PySem.F.plainAttrs_list PySem.F.slot_list_append PySem.F.type_list_append mt_append (pv 6) (pa_cons (pv 9) pa_nil)))) pss_nil)
      (pss_one (ps_if (PW.pt (pw_or (pt_cmp (pc_dnotin hu (pv 9) (pv 4))) (pw_or1 (pt_cmpR op_lt (pv 10) (pe_dget hu (pv 5) (pv 9) (fun _ _ => rfl)) (nomark _))))) (pss_cons (ps_dput hu (pv 4) (pv 9) (pe_tup (pa_cons (pv 8) (pa_cons (pv 7) pa_nil))) rfl)
      (pss_one (ps_dput hu (pv 5) (pv 9) (pv 10) rfl))) pss_nil)))))))))
      (pss_one (ps_ret (pe_tup (pa_cons (pv 4) (pa_cons (pv 5) pa_nil))))))))))), ?_⟩
    have c1 := T.cl_Tie
    have c2 := T.na_Tie_number
    have c5 := T.na_Tie_load
    have l48 := ok.tl
    have l16 := ok.le
    have hw := hw0.same off_in
    obtain ⟨dx, ep⟩ := hw.self
    walk_at "go"
    refine i_kMethC ep rfl ?_
    walk_at "go"
    refine ⟨p, l, d, w, rfl, hw, fun a1 ha1 => ?_⟩
    have s1 : Same H (upd H a1 (.lst (w.ps.map V.str))) := Same.new ha1
    have ea1 : (upd H a1 (.lst (w.ps.map V.str))) a1 = some (.lst (w.ps.map V.str)) := upd_same
    generalize upd H a1 (.lst (w.ps.map V.str)) = H1 at s1 ea1 ⊢
    walk_at "go"
    refine i_kMethC (s1 _ _ ep) rfl ?_
    walk_at "go"
    refine ⟨p, l, d, w, rfl, hw.same s1, l48, fun a2 as2 H2 s2 ha2 ea2 tl2 => ?_⟩
    walk_at "go"
    refine ⟨a1, a2, as2, w.ps, w.ts, rfl, s2 _ _ ea1, ea2, tl2, ok.nd, l16, l48, fun n t m => ⟨(ok.ok n t m).t, (ok.ok n t m).h⟩, fun e Ls H3 s3 he sd => ?_⟩
    have s03 := (s1.trans s2).trans s3
    walk_at "go"
    refine i_kMethC (s03 _ _ ep) rfl ?_
    walk_at "go"
    refine ⟨p, l, d, w, rfl, hw.same s03, l48, fun a4 as4 H4 s4 ha4 ea4 tl4 => ?_⟩
    have al4 := Two.len tl4
    walk_at "go"
    refine i_kListI (SqL.of ea4) ?_
    intro nd hnd
    refine dc_it walk_list (fun m H' => Same H4 H' ∧ H' nd = some (.dK (numD (w.ts.take m))))
      ⟨Same.new hnd, by rw [upd_same]; rfl⟩ (fun i H' _ h => SqL.of (h.1 _ _ ea4)) ?_ ?_
    · rintro i v H5 H6 hi ⟨s5, en⟩ ⟨rfl, hv⟩
      rw [List.length_map] at hi
      rw [List.getElem?_map, List.getElem?_eq_getElem hi] at hv
      cases hv
      obtain ⟨⟨n, t⟩, et, ta⟩ := Two.get tl4 (List.getElem?_eq_getElem hi)
      obtain ⟨dy, ta6⟩ := ta.same s5
      have tk : w.ts.take (i + 1) = w.ts.take i ++ [(n, t)] := by rw [List.take_add_one, et]; rfl
      have new : ∀ z ∈ w.ts.take i, z.1 ≠ n := fun z hz c => by
        obtain ⟨k, hk, ek⟩ := List.mem_take_iff_getElem.mp hz
        obtain ⟨i1, i2⟩ := List.getElem?_eq_some_iff.mp et
        have := List.pairwise_iff_getElem.mp ok.rise k i (by omega) i1 (by omega)
        rw [ek, i2, c] at this
        exact absurd this (Int.lt_irrefl _)
      rw [tk]
      generalize as4[i] = ai at ta6 ⊢
      walk_at "go"
      refine ⟨rfl, ?_⟩
      walk_at "go"
      refine ⟨_, Sum.inl n, rfl, en, by unfold numD; rw [List.length_map, List.length_take, sizeLine_eq]; omega, Same.mut s5 hnd, ?_⟩
      rw [upd_same, numD_snoc new]
    · rintro H5 ⟨s5, en⟩
      rw [List.length_map, al4, List.take_length] at en
      have s05 := (s03.trans s4).trans s5
      have sd5 := sd.same (s4.trans s5)
      have t5 := tabL_same ht s05
      have o5 : Same (off (tb K) H) H5 := fun b o z => s05 _ _ (off_in b o z)
      clear s5 s4 s03 s3 s2 s1 ea4 tl4 ea2 tl2 ea1 ep hw ha4 ha2 ha1 he hnd sd
      walk_at "go"
      intro c hc
      have e0 : (upd H5 c (.dK [])) c = some (.dK []) := upd_same
      apply i_pairs
      walk_at "go"
      apply i_pairs0
      refine ⟨e0, [(Sum.inr one, .non)], rfl, (show 1 ≤ 15 by decide), ?_⟩
      rw [upd_upd]
      have s6 : Same H5 (upd H5 c (.dK (mergeK [] [((Sum.inr one : Key), V.non)]))) := Same.new hc
      have cm6 : CmAt (upd H5 c (.dK (mergeK [] [((Sum.inr one : Key), V.non)]))) c (cameD (dStart one)) := ⟨_, upd_same, .cons ⟨rfl, rfl⟩ .nil⟩
      generalize upd H5 c (.dK (mergeK [] [((Sum.inr one : Key), V.non)])) = H6 at s6 cm6 ⊢
      walk_at "go"
      intro hd hhd
      have e1 : (upd H6 hd (.dK [])) hd = some (.dK []) := upd_same
      apply i_pairs
      walk_at "go"
      apply i_pairs0
      refine ⟨e1, [(Sum.inr one, .int 0)], rfl, (show 1 ≤ 15 by decide), ?_⟩
      rw [upd_upd]
      have s7 : Same H6 (upd H6 hd (.dK (mergeK [] [((Sum.inr one : Key), V.int 0)]))) := Same.new hhd
      have eh7 : (upd H6 hd (.dK (mergeK [] [((Sum.inr one : Key), V.int 0)]))) hd = some (.dK (htD (dStart one))) := upd_same
      have cm7 := cm6.same s7
      have nch : c ≠ hd := fun z => by
        obtain ⟨kvs, ec, _⟩ := cm6.ex
        rw [z, hhd] at ec
        cases ec
      have fhd : H5 hd = none := s6.free hhd
      generalize upd H6 hd (.dK (mergeK [] [((Sum.inr one : Key), V.int 0)])) = H7 at s7 eh7 cm7 ⊢
      walk_at "go"
      refine ⟨by walk_at "sz", fun lf hlf => ?_⟩
      have s8 : Same H7 (upd H7 lf (.lst [.str one])) := Same.new hlf
      have el8 : (upd H7 lf (.lst [.str one])) lf = some (.lst ((dStart one).L.map V.str)) := upd_same
      have eh8 := s8 _ _ eh7
      have cm8 := cm7.same s8
      have flf : H5 lf = none := (s6.trans s7).free hlf
      generalize upd H7 lf (.lst [.str one]) = H8 at s8 el8 eh8 cm8 ⊢
      have s58 := (s6.trans s7).trans s8
      have t8 := tabL_same t5 s58
      have g8 : Same (off (tb K) H5) H8 := fun b o z => s58 _ _ (off_in b o z)
      have sdG := stD_off t5 sd5
      have enG : off (tb K) H5 nd = some (.dK (numD w.ts)) := off_at t5 (fun _ => by simp) en
      have G0 : ∀ {b}, H5 b = none → off (tb K) H5 b = none := fun {b} h => by
        unfold off
        split
        · rfl
        · exact h
      have cG := G0 hc
      have hdG := G0 fhd
      have lfG := G0 flf
      have ntb : ∀ {b : Addr} {o : HO}, off (tb K) H5 b = some o → b ≠ tb K := fun z => (off_le z).2
      have oG : ∀ {H'}, Same (off (tb K) H5) H' → Same (off (tb K) H) H' := fun h => off_same o5 h
      clear s58 s8 s7 s6 cm7 cm6 eh7 e1 e0 hlf hhd hc fhd flf en sd5 t5 o5 s05
      generalize off (tb K) H5 = G at g8 sdG enG cG hdG lfG oG ntb
      have hl : ∀ n, 0 ≤ ldOf w.ts n := fun n => by
        unfold ldOf
        cases hg : tget w.ts n with
        | none => exact Int.le_refl _
        | some t => exact (ok.ok n t (tget_mem hg)).c0
      have fin : ∀ a ∈ w.ps, ∀ z ∈ freeS w.ts a, z.2 ∈ w.ps := fun a _ z hz => free_in' ok.ends a z hz
      walk_at "go"
      refine ⟨fun m σ H' => ∃ s, DOk (freeS w.ts) (ldOf w.ts) one s (fun _ _ => False) ∧ dRun (freeS w.ts) (ldOf w.ts) m s = dij (freeS w.ts) (ldOf w.ts) one ∧ 17 ≤ m + s.F.length ∧ Same G H' ∧ TabL H' (tb K) lamQ ∧ CmAt H' c (cameD s) ∧ H' hd = some (.dK (htD s)) ∧ H' lf = some (.lst (s.L.map V.str)) ∧
        ∃ v7 v8 v9 v10, σ = [some (.ref p), some (.str one), some (.ref e), some (.ref nd), some (.ref c), some (.ref hd), some (.ref lf), v7, v8, v9, v10, none],
        ⟨17, dStart one, dOk_start _ _ _, rfl, by omega, g8, t8, cm8, eh8, el8, none, none, none, none, rfl⟩, ?_⟩
      rintro m σ H9 ⟨s, dok, er, fl, g9, t9, cm9, eh9, el9, v7, v8, v9, v10, rfl⟩
      obtain ⟨b1, b2, kin⟩ := dok.flen h1 fin
      walk_at "go"
      refine ⟨!(s.L.map V.str).isEmpty, .inl ⟨_, SqL.of el9, rfl⟩, ?_⟩
      show (if (!(s.L.map V.str).isEmpty) = true then _ else _)
      by_cases hL : s.L = []
      · rw [hL]
        rw [if_neg (by simp)]
        have ef : dRun (freeS w.ts) (ldOf w.ts) m s = s := by
          cases m with
          | zero => rfl
          | succ k => unfold dRun; rw [if_pos hL]
        rw [ef] at er
        subst er
        walk_at "go"
        refine ⟨by walk_at "sz", fun t ht2 => ?_⟩
        have s10 : Same H9 (upd H9 t (.tup [.ref c, .ref hd])) := Same.new ht2
        walk_at "go"
        exact q t c hd _ (oG (g9.trans s10)) (tabL_same t9 s10) upd_same (cm9.same s10) (s10 _ _ eh9)
      · have lpos : 0 < s.L.length := List.length_pos_iff.mpr hL
        rw [if_pos (by simp [hL])]
        have hp := pick_mem hL
        have hpF : pick s ∉ s.F := fun c => dok.dis _ c hp
        have fk : s.F.length < 17 := by omega
        obtain ⟨m, rfl⟩ : ∃ k, m = k + 1 := ⟨m - 1, by omega⟩
        have er2 : dRun (freeS w.ts) (ldOf w.ts) m (dStep (freeS w.ts) (ldOf w.ts) s) = dij (freeS w.ts) (ldOf w.ts) one := by
          have := er
          unfold dRun at this
          rw [if_neg hL] at this
          exact this
        refine ⟨fun σ' H' => ∃ m', m' < m + 1 ∧ ∃ s, DOk (freeS w.ts) (ldOf w.ts) one s (fun _ _ => False) ∧ dRun (freeS w.ts) (ldOf w.ts) m' s = dij (freeS w.ts) (ldOf w.ts) one ∧ 17 ≤ m' + s.F.length ∧ Same G H' ∧ TabL H' (tb K) lamQ ∧ CmAt H' c (cameD s) ∧ H' hd = some (.dK (htD s)) ∧ H' lf = some (.lst (s.L.map V.str)) ∧
          ∃ v7 v8 v9 v10, σ' = [some (.ref p), some (.str one), some (.ref e), some (.ref nd), some (.ref c), some (.ref hd), some (.ref lf), v7, v8, v9, v10, none], fun _ _ h => h, ?_⟩
        walk_at "go"
        unfold tKeyLam
        walk_at "go"
        refine ⟨t9, fun H10 o10 t10 => ?_⟩
        have A : ∀ {b : Addr} {o : HO}, (∀ φ, o ≠ .ext φ) → H9 b = some o → H10 b = some o := fun n e => o10 _ _ (off_at t9 n e)
        have el10 := A (fun _ => by simp) el9
        have eh10 := A (fun _ => by simp) eh9
        have cm10 := (cmAt_off t9 cm9).same o10
        have g10 : Same G H10 := fun b o z => o10 _ _ (by rw [off_ne (ntb z)]; exact g9 _ _ z)
        clear A o10 t9 cm9 eh9 el9 g9
        refine ⟨lf, s.L.map V.str, kfS s.ht, rfl, SqL.of el10, fun y hy => ?_, by simp [hL], ?_⟩
        · obtain ⟨x, hx, rfl⟩ := List.mem_map.mp hy
          exact ⟨.ref hd, rfl, hd, _, Sum.inr x, .int (s.ht x), rfl, .inl eh10, rfl, mapD_get ((dok.part x).mpr (.inr hx)), s.ht x, rfl, rfl⟩
        rw [pick_at hL]
        have jx : s.L[s.L.idxOf (pick s)]? = some (pick s) := List.getElem?_eq_some_iff.mpr ⟨List.idxOf_lt_length_of_mem hp, List.getElem_idxOf _⟩
        walk_at "go"
        refine i_kTyL (SqL.of el10) ?_
        walk_at "go"
        refine ⟨lf, s.L, pick s, s.L.idxOf (pick s), rfl, rfl, el10, jx, fun k hk e2 => ?_, ?_⟩
        · obtain ⟨l1, f1⟩ := List.getElem?_eq_some_iff.mp e2
          obtain ⟨l2, f2⟩ := List.getElem?_eq_some_iff.mp jx
          have := (List.getElem_inj dok.lnd (h₀ := l1) (h₁ := l2)).mp (f1.trans f2.symm)
          omega
        rw [← List.erase_eq_eraseIdx_of_idxOf rfl]
        have g11 : Same G (upd H10 lf (.lst ((s.L.erase (pick s)).map V.str))) := Same.mut g10 lfG
        have t11 : TabL (upd H10 lf (.lst ((s.L.erase (pick s)).map V.str))) (tb K) lamQ := upd_tab t10 el10 (fun _ => by simp)
        have nlh : hd ≠ lf := fun z => by rw [z, el10] at eh10; cases eh10
        have nlc : c ≠ lf := fun z => by
          obtain ⟨kvs, ec, _⟩ := cm10.ex
          rw [z, el10] at ec; cases ec
        have eh11 : (upd H10 lf (.lst ((s.L.erase (pick s)).map V.str))) hd = some (.dK (htD (dOpen s))) := (upd_ne nlh).trans eh10
        have cm11 : CmAt (upd H10 lf (.lst ((s.L.erase (pick s)).map V.str))) c (cameD (dOpen s)) := cmAt_other cm10 nlc (fun xs => by rw [el10]; simp)
        have el11 : (upd H10 lf (.lst ((s.L.erase (pick s)).map V.str))) lf = some (.lst ((dOpen s).L.map V.str)) := upd_same
        generalize upd H10 lf (.lst ((s.L.erase (pick s)).map V.str)) = H11 at g11 t11 eh11 cm11 el11 ⊢
        obtain ⟨h0, mx⟩ := dok.opened hL
        have h0' := h0.weaken (ex' := fun b q => b = pick s ∧ q ∈ freeS w.ts (pick s)) fun b q hq c => ⟨c, by rw [← c]; exact hq⟩
        have aF : pick s ∈ (dOpen s).F := List.mem_append_right _ (List.mem_singleton.mpr rfl)
        have st : ∀ j, DOk (freeS w.ts) (ldOf w.ts) one (((freeS w.ts (pick s)).take j).foldl (relax (ldOf w.ts) (pick s)) (dOpen s)) (fun b q => b = pick s ∧ q ∈ (freeS w.ts (pick s)).drop j) ∧ (((freeS w.ts (pick s)).take j).foldl (relax (ldOf w.ts) (pick s)) (dOpen s)).F = (dOpen s).F ∧ ∀ f ∈ (dOpen s).F, (((freeS w.ts (pick s)).take j).foldl (relax (ldOf w.ts) (pick s)) (dOpen s)).ht f = (dOpen s).ht f := fun j =>
          DOk.fold2 hl ((freeS w.ts (pick s)).take j) ((freeS w.ts (pick s)).drop j) (dOpen s) (fun _ hp => List.mem_of_mem_take hp) (by rw [List.take_append_drop]; exact h0') aF mx
        have hap := kin (pick s) ((dok.part _).mpr (.inr hp))
        have sd11 := sdG.same g11
        have sdg := sd11.dict
        obtain ⟨es, ees, tws⟩ := (sdG.at' (pick s) hap).ex
        have hln := Two.len tws
        walk_at "go"
        refine i_kDGetS sdg (sd11.get hap) ?_
        walk_at "go"
        refine i_kListI (SqL.of (g11 _ _ ees)) ?_
        refine for_it walk_list (fun j σ H' => Same G H' ∧ TabL H' (tb K) lamQ ∧ CmAt H' c (cameD (((freeS w.ts (pick s)).take j).foldl (relax (ldOf w.ts) (pick s)) (dOpen s))) ∧ H' hd = some (.dK (htD (((freeS w.ts (pick s)).take j).foldl (relax (ldOf w.ts) (pick s)) (dOpen s)))) ∧
            H' lf = some (.lst ((((freeS w.ts (pick s)).take j).foldl (relax (ldOf w.ts) (pick s)) (dOpen s)).L.map V.str)) ∧ ∃ v8 v9 v10, σ = [some (.ref p), some (.str one), some (.ref e), some (.ref nd), some (.ref c), some (.ref hd), some (.ref lf), some (.str (pick s)), v8, v9, v10, none])
          ⟨g11, t11, cm11, eh11, el11, v8, v9, v10, rfl⟩ (fun j σ H' _ h => SqL.of (h.1 _ _ ees)) ?_ ?_
        · rintro j v σ H12 H13 hj ⟨g13, t13, cm13, eh13, el13, v8, v9, v10, rfl⟩ ⟨rfl, hv⟩
          rw [List.length_map] at hj
          rw [List.getElem?_map, List.getElem?_eq_getElem hj] at hv
          cases hv
          obtain ⟨⟨n, y⟩, et, ta⟩ := Two.get tws (List.getElem?_eq_getElem hj)
          have tk : ((freeS w.ts (pick s)).take (j + 1)).foldl (relax (ldOf w.ts) (pick s)) (dOpen s) = relax (ldOf w.ts) (pick s) (((freeS w.ts (pick s)).take j).foldl (relax (ldOf w.ts) (pick s)) (dOpen s)) (n, y) := by
            rw [List.take_add_one, et, List.foldl_append]
            rfl
          obtain ⟨dj, fj, _⟩ := st j
          obtain ⟨u, hu1, _⟩ := free_mem.mp (List.mem_of_getElem? et)
          have nu := numD_get ok.rise hu1
          rw [tk]
          generalize ((freeS w.ts (pick s)).take j).foldl (relax (ldOf w.ts) (pick s)) (dOpen s) = sj at cm13 eh13 el13 dj fj ⊢
          have ak : pick s ∈ sj.keys := (dj.part _).mpr (.inl (by rw [fj]; exact aF))
          obtain ⟨k16, _, _⟩ := dj.flen h1 fin
          have ta13 : H13 es[j] = some (.tup [.int n, .str y]) := g13 _ _ ta
          have en13 := g13 _ _ enG
          walk_at "go"
          refine i_gTup (SqT.of ta13) rfl ?_
          walk_at "go"
          refine i_kDGetS eh13 (mapD_get ak) ?_
          walk_at "go"
          refine i_kDGetI en13 nu ?_
          walk_at "go"
          have ckeys : ∀ x, decide (x ∈ keysC (cameD sj)) = decide (x ∈ sj.keys) := fun x => by rw [cameD_keys]
          refine ⟨fun σ' H' => Same G H' ∧ TabL H' (tb K) lamQ ∧ CmAt H' c (cameD sj) ∧ H' hd = some (.dK (htD sj)) ∧ H' lf = some (.lst ((if y ∈ sj.keys then sj.L else sj.L ++ [y]).map V.str)) ∧
            σ' = [some (.ref p), some (.str one), some (.ref e), some (.ref nd), some (.ref c), some (.ref hd), some (.ref lf), some (.str (pick s)), some (.int n), some (.str y), some (.int (sj.ht (pick s) + ldOf w.ts n)), none], ?_, ?_⟩
          · obtain ⟨kvs, ec, tw⟩ := cm13.ex
            walk_at "go"
            refine i_kDNotInS ec ?_
            rw [cm_isSome tw, ckeys]
            walk_at "go"
            refine i_dec (fun hy => ?_) (fun hy => ?_)
            · walk_at "go"
              exact ⟨g13, t13, cm13, eh13, by rw [if_pos hy]; exact el13, rfl⟩
            · walk_at "go"
              refine i_kTyL (SqL.of el13) ?_
              walk_at "go"
              have ll : sj.L.length ≤ 16 := by
                have := nodup_len dj.lnd (b := sj.keys) fun z hz => (dj.part z).mpr (.inr hz)
                omega
              refine i_append el13 ?_ (by rw [List.length_map, sizeLine_eq]; omega)
              walk_at "go"
              have n1 : hd ≠ lf := fun z => by rw [z, el13] at eh13; cases eh13
              have n2 : c ≠ lf := fun z => by rw [z, el13] at ec; cases ec
              refine ⟨Same.mut g13 lfG, upd_tab t13 el13 (fun _ => by simp), cmAt_other cm13 n2 (fun xs => by rw [el13]; simp), (upd_ne n1).trans eh13, ?_, rfl⟩
              rw [if_neg hy, upd_same, List.map_append]
              rfl
          · rintro σ H14 ⟨g14, t14, cm14, eh14, el14, rfl⟩
            obtain ⟨kvs, ec, tw⟩ := cm14.ex
            walk_at "go"
            refine i_kDNotInS ec ?_
            rw [cm_isSome tw, ckeys]
            walk_at "go"
            refine i_dec (fun hy => ?_) (fun hy => ?_)
            · rw [if_pos hy] at el14
              walk_at "go"
              refine i_kDGetS eh14 (mapD_get hy) ?_
              walk_at "go"
              refine i_dec (fun lt => ?_) (fun lt => ?_)
              · have rx : relax (ldOf w.ts) (pick s) sj (n, y) = { sj with par := fun x => if x = y then some (n, pick s) else sj.par x, ht := fun x => if x = y then sj.ht (pick s) + ldOf w.ts n else sj.ht x } := by
                  unfold relax
                  rw [if_pos hy, if_pos lt]
                rw [rx]
                walk_at "go"
                refine ⟨by walk_at "sz", fun t3 ht3 => ?_⟩
                have s15 : Same H14 (upd H14 t3 (.tup [.int n, .str (pick s)])) := Same.new ht3
                obtain ⟨kv2, ec2, kl2, cm16⟩ := came_put (y := y) (n := n) (a := pick s) (par := sj.par) (keys := sj.keys) (cm14.same s15) (upd_same (H := H14) (a := t3))
                rw [if_pos hy] at cm16
                have eh15 := s15 _ _ eh14
                have el15 := s15 _ _ el14
                have g15 := g14.trans s15
                have t15 := tabL_same t14 s15
                generalize upd H14 t3 (.tup [.int n, .str (pick s)]) = H15 at s15 ec2 cm16 eh15 el15 g15 t15 ⊢
                walk_at "go"
                refine i_kDPutS ec2 (by rw [kl2, sizeLine_eq]; omega) ?_
                have g16 : Same G (upd H15 c (.dK (putK kv2 (Sum.inr y) (.ref t3)))) := Same.mut g15 cG
                have t16 : TabL (upd H15 c (.dK (putK kv2 (Sum.inr y) (.ref t3)))) (tb K) lamQ := upd_tab t15 ec2 (fun _ => by simp)
                have nlc : lf ≠ c := fun z => by rw [z, ec2] at el15; cases el15
                have eh16 : (upd H15 c (.dK (putK kv2 (Sum.inr y) (.ref t3)))) hd = some (.dK (htD sj)) := (upd_ne nch.symm).trans eh15
                have el16 : (upd H15 c (.dK (putK kv2 (Sum.inr y) (.ref t3)))) lf = some (.lst (sj.L.map V.str)) := (upd_ne nlc).trans el15
                generalize upd H15 c (.dK (putK kv2 (Sum.inr y) (.ref t3))) = H16 at g16 t16 cm16 eh16 el16 ⊢
                walk_at "go"
                refine i_kDPutS eh16 (by unfold htD mapD; rw [List.length_map, sizeLine_eq]; omega) ?_
                have nlh : lf ≠ hd := fun z => by rw [z, eh16] at el16; cases el16
                refine ⟨Same.mut g16 hdG, upd_tab t16 eh16 (fun _ => by simp), cmAt_other cm16 nch (fun xs => by rw [eh16]; simp), ?_, (upd_ne nlh).trans el16, _, _, _, rfl⟩
                rw [upd_same]
                unfold htD
                rw [mapD_put hy]
                refine congrArg (fun z => some (HO.dK z)) (mapD_congr fun x _ => ?_)
                show (if x = y then V.int _ else V.int _) = V.int (if x = y then _ else _)
                split <;> rfl
              · have rx : relax (ldOf w.ts) (pick s) sj (n, y) = sj := by
                  unfold relax
                  rw [if_pos hy, if_neg lt]
                rw [rx]
                exact ⟨g14, t14, cm14, eh14, el14, _, _, _, rfl⟩
            · rw [if_neg hy] at el14
              have rx : relax (ldOf w.ts) (pick s) sj (n, y) = { sj with keys := sj.keys ++ [y], L := sj.L ++ [y], par := fun x => if x = y then some (n, pick s) else sj.par x, ht := fun x => if x = y then sj.ht (pick s) + ldOf w.ts n else sj.ht x } := by
                unfold relax
                rw [if_neg hy]
              rw [rx]
              walk_at "go"
              refine ⟨by walk_at "sz", fun t3 ht3 => ?_⟩
              have s15 : Same H14 (upd H14 t3 (.tup [.int n, .str (pick s)])) := Same.new ht3
              obtain ⟨kv2, ec2, kl2, cm16⟩ := came_put (y := y) (n := n) (a := pick s) (par := sj.par) (keys := sj.keys) (cm14.same s15) (upd_same (H := H14) (a := t3))
              rw [if_neg hy] at cm16
              have eh15 := s15 _ _ eh14
              have el15 := s15 _ _ el14
              have g15 := g14.trans s15
              have t15 := tabL_same t14 s15
              generalize upd H14 t3 (.tup [.int n, .str (pick s)]) = H15 at s15 ec2 cm16 eh15 el15 g15 t15 ⊢
              walk_at "go"
              refine i_kDPutS ec2 (by rw [kl2, sizeLine_eq]; omega) ?_
              have g16 : Same G (upd H15 c (.dK (putK kv2 (Sum.inr y) (.ref t3)))) := Same.mut g15 cG
              have t16 : TabL (upd H15 c (.dK (putK kv2 (Sum.inr y) (.ref t3)))) (tb K) lamQ := upd_tab t15 ec2 (fun _ => by simp)
              have nlc : lf ≠ c := fun z => by rw [z, ec2] at el15; cases el15
              have eh16 : (upd H15 c (.dK (putK kv2 (Sum.inr y) (.ref t3)))) hd = some (.dK (htD sj)) := (upd_ne nch.symm).trans eh15
              have el16 : (upd H15 c (.dK (putK kv2 (Sum.inr y) (.ref t3)))) lf = some (.lst ((sj.L ++ [y]).map V.str)) := (upd_ne nlc).trans el15
              generalize upd H15 c (.dK (putK kv2 (Sum.inr y) (.ref t3))) = H16 at g16 t16 cm16 eh16 el16 ⊢
              walk_at "go"
              refine i_kDPutS eh16 (by unfold htD mapD; rw [List.length_map, sizeLine_eq]; omega) ?_
              have nlh : lf ≠ hd := fun z => by rw [z, eh16] at el16; cases el16
              refine ⟨Same.mut g16 hdG, upd_tab t16 eh16 (fun _ => by simp), cmAt_other cm16 nch (fun xs => by rw [eh16]; simp), ?_, (upd_ne nlh).trans el16, _, _, _, rfl⟩
              rw [upd_same]
              unfold htD
              rw [mapD_new hy]
              refine congrArg (fun z => some (HO.dK z)) (mapD_congr fun x _ => ?_)
              show (if x = y then V.int _ else V.int _) = V.int (if x = y then _ else _)
              split <;> rfl
        · rintro σ H12 ⟨g12, t12, cm12, eh12, el12, v8, v9, v10, rfl⟩
          rw [List.length_map, hln, List.take_length] at cm12 eh12 el12
          walk_at "go"
          obtain ⟨d2, f2⟩ := dok.step hl hL
          exact ⟨m, Nat.lt_succ_self _, dStep (freeS w.ts) (ldOf w.ts) s, d2, er2, by rw [f2, List.length_append, List.length_singleton]; omega, g12, t12, cm12, eh12, el12, _, _, _, _, rfl⟩
end
end K20

set_option Elab.async false
set_option linter.all false
set_option maxRecDepth 100000
set_option maxHeartbeats 4000000
namespace K20
open PySem PySem.Spec PyProof.Rows L2 HX WB LamK
local macro_rules | `(tactic| walk_at "side") => `(tactic| first
  | assumption
  | rfl
  | (show (0 : Int) < _; omega)
  | (unfold CDiv; omega)
  | (unfold CMul; omega)
  | (unfold CPow; omega)
  | (rw [sizeLine_eq]; omega)
  | omega)
local macro_rules | `(tactic| walk_at "e") => `(tactic| first
  | ((with_reducible apply i_var); exact rfl)
  | (with_reducible apply i_c)
  | (with_reducible apply i_op)
  | (with_reducible apply i_un)
  | (with_reducible apply i_rI0)
  | ((with_reducible apply i_rI); (case c => walk_at "side"))
  | (with_reducible apply i_rGe)
  | (with_reducible apply i_rGt)
  | (with_reducible apply i_rU)
  | (with_reducible apply i_rEqI)
  | (with_reducible apply i_rNeI)
  | (with_reducible apply i_rEqS)
  | (with_reducible apply i_rNeS)
  | (with_reducible apply i_rEqB)
  | (with_reducible apply i_rNeB)
  | (with_reducible apply i_rIsN)
  | (with_reducible apply i_rNotN)
  | (with_reducible apply i_rInS)
  | (with_reducible apply i_rNotInS)
  | ((with_reducible apply i_catS); (case c => walk_at "side"))
  | (with_reducible apply i_tcb)
  | (with_reducible apply i_nil)
  | (with_reducible apply i_cons)
  | ((with_reducible apply i_lenS); (case c => walk_at "side"))
  | ((with_reducible apply i_lenL); assumption)
  | (with_reducible apply i_abs)
  | (with_reducible apply i_max2)
  | (with_reducible apply i_min2)
  | ((with_reducible apply i_strI); (case c => walk_at "side"))
  | (with_reducible apply i_intB)
  | (with_reducible apply i_test)
  | (with_reducible apply i_tB)
  | (with_reducible apply i_kB)
  | (with_reducible apply i_and)
  | (with_reducible apply i_or)
  | (with_reducible apply i_not)
  | (with_reducible apply i_if)
  | (with_reducible apply i_andV)
  | (with_reducible apply i_orV)
  | (with_reducible apply i_notV)
  | (with_reducible apply i_kAndV)
  | (with_reducible apply i_kOrV)
  | (with_reducible apply i_kNotV)
  | (with_reducible apply i_chain)
  | (with_reducible apply i_kChain)
  | (with_reducible apply i_drop)
  | (with_reducible apply i_ret)
  | (with_reducible apply i_retN)
  | (with_reducible apply i_ifS)
  | (with_reducible apply i_asg)
  | (with_reducible apply i_gName)
  | (with_reducible apply i_for)
  | (with_reducible apply i_lc)
  | (with_reducible apply i_iList)
  | (with_reducible apply i_iTup)
  | (with_reducible apply i_iStr)
  | (with_reducible apply i_kStrI)
  | (with_reducible apply i_lst)
  | (with_reducible apply i_tup)
  | (with_reducible apply i_call)
  | (with_reducible apply i_m1)
  | (with_reducible apply i_kStr)
  | (with_reducible apply i_bm)
  | (with_reducible apply i_bm0)
  | (with_reducible apply i_part)
  | (with_reducible apply i_kInt)
  | (with_reducible apply i_noPart)
  | (with_reducible apply i_sl)
  | (with_reducible apply i_range1)
  | (with_reducible apply i_range2)
  | ((with_reducible apply i_kRng1); (case c => walk_at "side"))
  | ((with_reducible apply i_kRng2); (case c => walk_at "side"))
  | (with_reducible apply i_gCons)
  | (with_reducible apply i_gNil)
  | (with_reducible apply i_gSub)
  | (with_reducible apply i_iZip)
  | (with_reducible apply i_yes)
  | (with_reducible apply i_ift)
  | (with_reducible apply i_iff)
  | (with_reducible apply i_nb))
local macro_rules | `(tactic| walk_at "go") => `(tactic| repeat (first | (with_reducible apply i_seq) | (with_reducible apply i_next) | walk_at "e"))
local macro_rules | `(tactic| walk_at "ge") => `(tactic| repeat walk_at "e")
local macro_rules | `(tactic| walk_at "sz") => `(tactic| first | decide | (rw [sizeLine_eq]; simp; done) | (rw [sizeLine_eq]; omega))
local macro_rules | `(tactic| walk_at "side") => `(tactic| (with_reducible exact WB.most_pos))
local macro_rules | `(tactic| walk_at "e") => `(tactic| first
  | ((with_reducible apply i_isT (b := true)); exact rfl)
  | ((with_reducible apply i_isT (b := false)); exact rfl)
  | (with_reducible apply i_fld)
  | ((with_reducible apply i_kFld); (case h => assumption); (case c1 => assumption); (case c2 => assumption); (case e => first | exact lk_number | exact lk_tail | exact lk_head | exact lk_load | exact lk_oneway | exact lk_points | exact lk_ties | exact lk_given))
  | (with_reducible apply i_sfld)
  | ((with_reducible apply i_kSFld); (case h => first | assumption | exact upd_same); (case c1 => assumption); (case c2 => assumption); (case e => exact Nat.le_of_ble_eq_true rfl))
  | (with_reducible apply i_methC)
  | (with_reducible apply i_make)
  | (with_reducible apply i_fldaug)
  | (with_reducible apply i_vals)
  | (with_reducible apply i_items)
  | (with_reducible apply i_dget)
  | (with_reducible apply i_dput)
  | (with_reducible apply i_din)
  | (with_reducible apply i_dnotin)
  | (with_reducible apply i_ddel)
  | (with_reducible apply i_dc)
  | (with_reducible apply i_enum)
  | (with_reducible apply i_ckw))
structure LeastAt (K : PySem.W.Frag) (H : Hp) (r nl : Addr) (ns : List Int) (c : Int) (hd : Addr) (kvs : List (Key × V)) : Prop where
  self : ∃ dx, H r = some (.ins (He.ga K "Least") dx [("numbers", .ref nl), ("load", .int c), ("heights", .ref hd)])
  nums : H nl = some (.lst (ns.map V.int))
  hts : H hd = some (.dK kvs)
theorem LeastAt.same {K : PySem.W.Frag} {H H' : Hp} {r nl hd : Addr} {ns : List Int} {c : Int} {kvs : List (Key × V)} (h : LeastAt K H r nl ns c hd kvs) (s : Same H H') : LeastAt K H' r nl ns c hd kvs := by
  obtain ⟨⟨dx, e⟩, e2, e3⟩ := h
  exact ⟨⟨dx, s _ _ e⟩, s _ _ e2, s _ _ e3⟩
/-- the least way, as the program finds it -/
abbrev dOf (w : Wb) (one : Str) : DS := dij (freeS w.ts) (ldOf w.ts) one
def seenP (w : Wb) (one : Str) : List Str := w.ps.filter fun x => decide (x ∈ (dOf w one).keys)
def wayN (w : Wb) (one two : Str) : List Int := (back (cameD (dOf w one)) 17 two).reverse
def ordD (w : Wb) (one : Str) : List (Key × V) := mapD (fun x => V.int ((dOf w one).ht x)) (seenP w one)
theorem ld_nn {w : Wb} (ok : Wok w) : ∀ n, 0 ≤ ldOf w.ts n := fun n => by
  unfold ldOf
  cases hg : tget w.ts n with
  | none => exact Int.le_refl _
  | some t => exact (ok.ok n t (tget_mem hg)).c0
theorem dOf_ok {w : Wb} (ok : Wok w) {one : Str} (h1 : one ∈ w.ps) : DOk (freeS w.ts) (ldOf w.ts) one (dOf w one) (fun _ _ => False) ∧ (dOf w one).L = [] :=
  dij_ok (ld_nn ok) h1 (fun a _ z hz => free_in' ok.ends a z hz) ok.le
theorem dOf_in {w : Wb} (ok : Wok w) {one : Str} (h1 : one ∈ w.ps) : (dOf w one).keys.length ≤ 16 ∧ (dOf w one).F.length ≤ 16 ∧ ∀ y ∈ (dOf w one).keys, y ∈ w.ps := by
  obtain ⟨a, b, c⟩ := (dOf_ok ok h1).1.flen h1 (fun a _ z hz => free_in' ok.ends a z hz)
  have := ok.le
  exact ⟨by omega, by omega, c⟩
section
variable {P : Program} {w : World} {K : PySem.W.Frag} {mg : Str → Option Value} {base : Heap}
def sp_Least (K : PySem.W.Frag) : Sp := fun vs H Q _ => ∃ (x dx a b : Addr) (xs : List V) (c : Int) (kvs : List (Key × V)), vs = [.ref x, .ref a, .int c, .ref b] ∧ H x = some (.ins (He.ga K "Least") dx []) ∧ H a = some (.lst xs) ∧ H b = some (.dK kvs) ∧
  ∀ nl hd H', H nl = none → H hd = none → hd ≠ nl → H' x = some (.ins (He.ga K "Least") dx [("numbers", .ref nl), ("load", .int c), ("heights", .ref hd)]) → H' nl = some (.lst xs) → H' hd = some (.dK kvs) → (∀ b o, b ≠ x → H b = some o → H' b = some o) → Q .non H'
theorem ok_Least_init (T : Tx K mg) : FnOk P w K mg base CX0 1 (He.ma K (He.ga K "Least") "__init__") T.fd_Least_init ["self", "numbers", "load", "heights"] (sp_Least K) := by
  refine T.F_Least_init.ok sc_Least_init (fun vs H Q E h => ?_) (fun cdv A outer s H vs Q E hr h => ?_)
  · obtain ⟨_, _, _, _, _, _, _, rfl, _⟩ := h
    rfl
  · obtain ⟨x, dx, a, b, xs, c, kvs, rfl, hx, ha, hb, q⟩ := h
    refine ⟨_, PSs.nox (pss_cons (ps_fld (pv 0) (pe_callTy x_list (by rfl) T.b_list (by decide +kernel) (pa_cons (pv 1) pa_nil)) rfl)
      (pss_cons (ps_fld (pv 0) (pv 2) rfl)
      (pss_one (ps_fld (pv 0) (pe_callTy x_dict (by rfl) T.b_dict (by decide +kernel) (pa_cons (pv 3) pa_nil)) rfl)))), ?_⟩
    have c1 := T.cl_Least
    have c2 := T.na_Least_numbers
    have c3 := T.na_Least_load
    have c4 := T.na_Least_heights
    walk_at "go"
    refine ⟨a, _, rfl, .inl (SqL.of ha), fun nl hnl => ?_⟩
    have hx1 := (upd_ne (ne_of_none hx hnl) (o := .lst xs)).trans hx
    walk_at "go"
    have e2 : upd (upd H nl (.lst xs)) x (.ins (He.ga K "Least") dx [("numbers", .ref nl)]) x = some (.ins (He.ga K "Least") dx [("numbers", .ref nl)]) := upd_same
    walk_at "go"
    have k2 : ∀ y o, y ≠ x → H y = some o → upd (upd (upd H nl (.lst xs)) x (.ins (He.ga K "Least") dx [("numbers", .ref nl)])) x (.ins (He.ga K "Least") dx [("numbers", .ref nl), ("load", .int c)]) y = some o := fun y o n e => by
      rw [upd_ne n, upd_ne n, upd_ne (ne_of_none e hnl)]
      exact e
    have nb : b ≠ x := fun z => by rw [z, hx] at hb; cases hb
    have e3 : upd (upd (upd H nl (.lst xs)) x (.ins (He.ga K "Least") dx [("numbers", .ref nl)])) x (.ins (He.ga K "Least") dx [("numbers", .ref nl), ("load", .int c)]) x = some (.ins (He.ga K "Least") dx [("numbers", .ref nl), ("load", .int c)]) := upd_same
    have en : upd (upd (upd H nl (.lst xs)) x (.ins (He.ga K "Least") dx [("numbers", .ref nl)])) x (.ins (He.ga K "Least") dx [("numbers", .ref nl), ("load", .int c)]) nl = some (.lst xs) := by
      rw [upd_ne (ne_of_none hx hnl).symm, upd_ne (ne_of_none hx hnl).symm, upd_same]
    have eb := k2 _ _ nb hb
    have q2 : ∀ hd H', H hd = none → hd ≠ nl → H' x = some (.ins (He.ga K "Least") dx [("numbers", .ref nl), ("load", .int c), ("heights", .ref hd)]) → H' nl = some (.lst xs) → H' hd = some (.dK kvs) → (∀ b o, b ≠ x → H b = some o → H' b = some o) → Q .non H' := fun hd H' => q nl hd H' hnl
    have fr : ∀ z, upd (upd (upd H nl (.lst xs)) x (.ins (He.ga K "Least") dx [("numbers", .ref nl)])) x (.ins (He.ga K "Least") dx [("numbers", .ref nl), ("load", .int c)]) z = none → H z = none := fun z hz => by
      cases e : H z with
      | none => rfl
      | some o =>
        by_cases c : z = x
        · subst c
          rw [e3] at hz; cases hz
        · rw [k2 z o c e] at hz; cases hz
    walk_at "go"
    refine ⟨b, kvs, rfl, .inl eb, fun hd hhd => ?_⟩
    have e5 := (upd_ne (ne_of_none e3 hhd) (o := .dK kvs)).trans e3
    walk_at "go"
    have nn : hd ≠ nl := (ne_of_none en hhd).symm
    have nx : hd ≠ x := (ne_of_none e3 hhd).symm
    have nlx : nl ≠ x := (ne_of_none hx hnl).symm
    refine q2 hd _ (fr hd hhd) nn upd_same ((upd_ne nlx).trans ((upd_ne nn.symm).trans en)) ((upd_ne nx).trans upd_same) fun y o n e => (upd_ne n).trans ((upd_ne (ne_of_none (k2 y o n e) hhd)).trans (k2 y o n e))
def sp_least_way (K : PySem.W.Frag) : Sp := fun vs H Q _ => ∃ p l d w one two, vs = [.ref p, .str one, .str two] ∧ WebAt K (off (tb K) H) p l d w ∧ Wok w ∧ one ∈ w.ps ∧ two ∈ w.ps ∧ TabL H (tb K) lamQ ∧
  (two ∉ (dOf w one).keys → ∀ r nl H', Same (off (tb K) H) H' → TabL H' (tb K) lamQ → H r = none → H nl = none → HasL K H' "Border" "names" r nl ((seenP w one).map V.str) → Q (.ref r) H') ∧
  (two ∈ (dOf w one).keys → ∀ r nl hd H', Same (off (tb K) H) H' → TabL H' (tb K) lamQ → H r = none → H nl = none → H hd = none → LeastAt K H' r nl (wayN w one two) ((dOf w one).ht two) hd (ordD w one) → Q (.ref r) H')
theorem ok_least_way (T : Tx K mg) (J : Js P w K mg base) : FnOk P w K mg base CX0 6 (He.ga K "least_way") T.fd_least_way ["web", "one", "other"] (sp_least_way K) := by
  refine T.F_least_way.ok sc_least_way (fun vs H Q E h => ?_) (fun cdv A outer s H vs Q E hr h => ?_)
  · obtain ⟨_, _, _, _, _, _, rfl, _⟩ := h
    rfl
  · obtain ⟨p, l, d, w, one, two, rfl, hw0, ok, h1, h2, ht, q1, q2⟩ := h
    have hu := hu_of hr
    refine ⟨_, PSs.nox (pss_cons (ps_expr (pe_call (ok_need_all T) (hr.mono (by decide)) (by rfl) T.g_need_all T.F_need_all.kp T.k_need_all .nil pass0 (pa_cons (pv 0) (pa_cons (pe_lst (pa_cons (pv 1) (pa_cons (pv 2) pa_nil))) pa_nil))))
      (pss_cons (ps_asg (pe_call (ok_least_came T J) (hr.mono (by decide)) (by rfl) T.g_least_came T.F_least_came.kp T.k_least_came .nil pass0 (pa_cons (pv 0) (pa_cons (pv 1) pa_nil))) (pg_tup rfl (pgs_cons (pg_name (i := 3) sc_least_way.nd rfl (Or.inl rfl)) (pgs_cons (pg_name (i := 4) sc_least_way.nd rfl (Or.inr rfl)) pgs_nil))))
      (pss_cons (ps_if (pt_cmp (pc_dnotin hu (pv 2) (pv 3))) (pss_one (ps_ret (pe_call (ok_border_by T) (hr.mono (by decide)) (by rfl) T.g_border_by T.F_border_by.kp T.k_border_by .nil pass0 (pa_cons (pv 0) (pa_cons (pv 3) pa_nil))))) pss_nil)
      (pss_cons (ps_setDc (i := 5) (own := [("name", 6)]) (by rfl) sc_least_way.nd rfl rfl (swD_true rfl rfl rfl (by decide +kernel)) (pi_list (pe_call (ok_names_in T) (hr.mono (by decide)) (by rfl) T.g_names_in T.F_names_in.kp T.k_names_in .nil pass0 (pa_cons (pv 0) (pa_cons (pv 3) pa_nil)))) (blkOk_by (own := [("name", 6)]) (N := N_least_way) (sc := defScope s_least_way) (by decide +kernel)) (fun _ _ _ _ _ => (pg_name (i := 6) sc_least_way.nd rfl (Or.inl rfl))) (fun _ _ _ _ _ => pts_nil) (fun _ _ _ _ _ => (pv 6)) (fun _ _ _ _ _ => (pe_dget hu (pv 4) (pv 6) (fun _ _ => rfl))))
      (pss_one (ps_ret (pe_make T.mk_Least (ok_Least_init T) (hr.mono (by decide)) (by rfl) T.g_Least T.k_Least_init .nil pass0 (pa_cons (pe_call (ok_way_by T) (hr.mono (by decide)) (by rfl) T.g_way_by T.F_way_by.kp T.k_way_by .nil pass0 (pa_cons (pv 3) (pa_cons (pv 2) pa_nil))) (pa_cons (pe_dget hu (pv 4) (pv 2) (fun _ _ => rfl)) (pa_cons (pv 5) pa_nil)))))))))), ?_⟩
    have hw := hw0.same off_in
    obtain ⟨dok, dL⟩ := dOf_ok ok h1
    obtain ⟨k16, f16, kin⟩ := dOf_in ok h1
    walk_at "go"
    refine ⟨by walk_at "sz", fun a ha => ?_⟩
    have s1 : Same H (upd H a (.lst [.str one, .str two])) := Same.new ha
    walk_at "go"
    refine ⟨p, l, d, w, a, [one, two], rfl, hw.same s1, ok, upd_same, fun y hy => ?_, fun H2 s2 => ?_⟩
    · rcases List.mem_cons.mp hy with rfl | hy
      · exact h1
      · rw [List.mem_singleton.mp hy]; exact h2
    have s02 := s1.trans s2
    have t2 := tabL_same ht s02
    have o2 : Same (off (tb K) H) H2 := fun b o e => s02 _ _ (off_in b o e)
    clear s1 s2
    walk_at "go"
    refine ⟨p, l, d, w, one, rfl, webAt_off t2 (hw.same s02), ok, h1, t2, fun t c hd H3 o3 t3 et cm eh => ?_⟩
    have o03 := off_same o2 o3
    have w3 := (webAt_off t2 (hw.same s02)).same o3
    walk_at "go"
    refine i_gTup (SqT.of et) rfl ?_
    obtain ⟨kvs, ec, tw⟩ := cm.ex
    walk_at "go"
    refine i_kDNotInS ec ?_
    rw [cm_isSome tw, cameD_keys]
    walk_at "go"
    refine i_dec (fun hy => ?_) (fun hy => ?_)
    · walk_at "go"
      refine ⟨p, l, d, w, c, cameD (dOf w one), rfl, w3, ok.le, cm, fun a5 H5 s5 ha5 ea5 => ?_⟩
      have en : namesIn w.ps (cameD (dOf w one)) = seenP w one := by unfold namesIn seenP; rw [cameD_keys]
      rw [en] at ea5
      walk_at "go"
      refine i_kListI (SqL.of ea5) ?_
      intro D hD
      refine dc_it walk_list (fun m H' => Same H5 H' ∧ H' D = some (.dK (mapD (fun x => V.int ((dOf w one).ht x)) ((seenP w one).take m))))
        ⟨Same.new hD, by rw [upd_same]; rfl⟩ (fun i H' _ h => SqL.of (h.1 _ _ ea5)) ?_ ?_
      · rintro i v H6 H7 hi ⟨s6, eD⟩ ⟨rfl, hv⟩
        rw [List.length_map] at hi
        rw [List.getElem?_map, List.getElem?_eq_getElem hi] at hv
        cases hv
        have tk : (seenP w one).take (i + 1) = (seenP w one).take i ++ [(seenP w one)[i]] := by rw [List.take_add_one, List.getElem?_eq_getElem hi]; rfl
        have snd : (seenP w one).Nodup := ok.nd.filter _
        have hni : ¬ (seenP w one)[i] ∈ (seenP w one).take i := by
          intro m
          obtain ⟨k, hk, ek⟩ := List.mem_take_iff_getElem.mp m
          have := (List.getElem_inj snd (h₀ := by omega) (h₁ := hi)).mp ek
          omega
        have yk : (seenP w one)[i] ∈ (dOf w one).keys := of_decide_eq_true (List.mem_filter.mp (List.getElem_mem hi)).2
        have sl : (seenP w one).length ≤ 16 := Nat.le_trans (List.length_filter_le _ _) ok.le
        rw [tk]
        generalize (seenP w one)[i] = y at hni yk ⊢
        have eh7 := (s5.trans s6) _ _ eh
        walk_at "go"
        refine ⟨rfl, ?_⟩
        walk_at "go"
        refine i_kDGetS eh7 (mapD_get yk) ?_
        walk_at "go"
        refine ⟨_, Sum.inr y, rfl, eD, by unfold mapD; rw [List.length_map, List.length_take, sizeLine_eq]; omega, Same.mut s6 hD, ?_⟩
        rw [upd_same, mapD_new hni]
        refine congrArg (fun z => some (HO.dK z)) (mapD_congr fun x _ => ?_)
        by_cases c : x = y
        · rw [if_pos c, c]
        · rw [if_neg c]
      · rintro H6 ⟨s6, eD⟩
        rw [List.length_map, List.take_length] at eD
        have eD : H6 D = some (.dK (ordD w one)) := eD
        have s36 := s5.trans s6
        walk_at "go"
        have f_of : ∀ y n a, look (cameD (dOf w one)) y = some (some (n, a)) → (∃ p, look (cameD (dOf w one)) a = some p) ∧ (dOf w one).F.idxOf a < (dOf w one).F.idxOf y := fun y n a e => by
          have yk : y ∈ (dOf w one).keys := by
            unfold look at e
            cases hf : (cameD (dOf w one)).find? fun p => decide (p.1 = y) with
            | none => rw [hf] at e; cases e
            | some z =>
              have hz := List.mem_of_find?_eq_some hf
              have hz2 := List.find?_some hf
              obtain ⟨x, hx, rfl⟩ := List.mem_map.mp hz
              have : x = y := by simpa using hz2
              rw [← this]; exact hx
          rw [cameD_look yk dok.nd] at e
          have e : (dOf w one).par y = some (n, a) := Option.some.inj e
          have ne : y ≠ one := fun c => by rw [c, dok.p1] at e; cases e
          obtain ⟨n2, a2, b1, b2, _, _, b5⟩ := dok.par y yk ne
          rw [e] at b1
          cases b1
          have yF : y ∈ (dOf w one).F := by
            rcases (dok.part y).mp yk with z | z
            · exact z
            · rw [dL] at z; cases z
          exact ⟨⟨_, cameD_look ((dok.part a).mpr (.inl b2)) dok.nd⟩, b5 yF⟩
        have twoF : two ∈ (dOf w one).F := by
          rcases (dok.part two).mp hy with z | z
          · exact z
          · rw [dL] at z; cases z
        refine ⟨c, cameD (dOf w one), two, fun x => (dOf w one).F.idxOf x, rfl, cm.same s36, f_of, ⟨_, cameD_look hy dok.nd⟩, by have := List.idxOf_lt_length_of_mem twoF; show (dOf w one).F.idxOf two < 17; omega, fun a8 H8 s8 ha8 ea8 => ?_⟩
        have eh8 := (s36.trans s8) _ _ eh
        walk_at "go"
        refine i_kDGetS eh8 (mapD_get hy) ?_
        walk_at "go"
        have eD8 := s8 _ _ eD
        intro x dxx hx hdxx hne
        have s9 : Same H8 (upd (upd H8 dxx (.own x)) x (.ins (He.ga K "Least") dxx [])) := Same.mut (Same.new hdxx) hx
        have fx : H8 x = none := hx
        refine ⟨x, dxx, a8, D, _, (dOf w one).ht two, ordD w one, rfl, upd_same, s9 _ _ ea8, s9 _ _ eD8, fun nl hd2 H10 hnl hhd2 nn e10 en10 eh10 k10 => ?_⟩
        have s10 : Same H8 H10 := fun b o e => k10 b o (ne_of_none e fx) (s9 _ _ e)
        have o8 := o03.trans (s36.trans s8)
        have t8 := tabL_same t3 (s36.trans s8)
        refine ⟨rfl, ?_⟩
        walk_at "go"
        exact q2 hy x nl hd2 H10 (o8.trans s10) (tabL_same t8 s10) (off_free o8 t8 fx) (off_free o8 t8 (s9.free hnl)) (off_free o8 t8 (s9.free hhd2)) ⟨⟨dxx, e10⟩, en10, eh10⟩
    · walk_at "go"
      refine ⟨p, l, d, w, c, cameD (dOf w one), rfl, w3, ok.le, cm, fun r nl H4 s4 hr4 hn4 ha4 => ?_⟩
      have en : namesIn w.ps (cameD (dOf w one)) = seenP w one := by unfold namesIn seenP; rw [cameD_keys]
      rw [en] at ha4
      walk_at "go"
      exact q1 hy r nl H4 (o03.trans s4) (tabL_same t3 s4) (off_free o03 t3 hr4) (off_free o03 t3 hn4) ha4
end
end K20

set_option Elab.async false
set_option linter.all false
set_option maxRecDepth 100000
set_option maxHeartbeats 4000000
namespace K20
open PySem PySem.Spec PyProof.Rows L2 HX WB
open TL (tl)
local macro_rules | `(tactic| walk_at "side") => `(tactic| first
  | assumption
  | rfl
  | (show (0 : Int) < _; omega)
  | (unfold CDiv; omega)
  | (unfold CMul; omega)
  | (unfold CPow; omega)
  | (rw [sizeLine_eq]; omega)
  | omega)
local macro_rules | `(tactic| walk_at "e") => `(tactic| first
  | ((with_reducible apply i_var); exact rfl)
  | (with_reducible apply i_c)
  | (with_reducible apply i_op)
  | (with_reducible apply i_un)
  | (with_reducible apply i_rI0)
  | ((with_reducible apply i_rI); (case c => walk_at "side"))
  | (with_reducible apply i_rGe)
  | (with_reducible apply i_rGt)
  | (with_reducible apply i_rU)
  | (with_reducible apply i_rEqI)
  | (with_reducible apply i_rNeI)
  | (with_reducible apply i_rEqS)
  | (with_reducible apply i_rNeS)
  | (with_reducible apply i_rEqB)
  | (with_reducible apply i_rNeB)
  | (with_reducible apply i_rIsN)
  | (with_reducible apply i_rNotN)
  | (with_reducible apply i_rInS)
  | (with_reducible apply i_rNotInS)
  | ((with_reducible apply i_catS); (case c => walk_at "side"))
  | (with_reducible apply i_tcb)
  | (with_reducible apply i_nil)
  | (with_reducible apply i_cons)
  | ((with_reducible apply i_lenS); (case c => walk_at "side"))
  | ((with_reducible apply i_lenL); assumption)
  | (with_reducible apply i_abs)
  | (with_reducible apply i_max2)
  | (with_reducible apply i_min2)
  | ((with_reducible apply i_strI); (case c => walk_at "side"))
  | (with_reducible apply i_intB)
  | (with_reducible apply i_test)
  | (with_reducible apply i_tB)
  | (with_reducible apply i_kB)
  | (with_reducible apply i_and)
  | (with_reducible apply i_or)
  | (with_reducible apply i_not)
  | (with_reducible apply i_if)
  | (with_reducible apply i_andV)
  | (with_reducible apply i_orV)
  | (with_reducible apply i_notV)
  | (with_reducible apply i_kAndV)
  | (with_reducible apply i_kOrV)
  | (with_reducible apply i_kNotV)
  | (with_reducible apply i_chain)
  | (with_reducible apply i_kChain)
  | (with_reducible apply i_drop)
  | (with_reducible apply i_ret)
  | (with_reducible apply i_retN)
  | (with_reducible apply i_ifS)
  | (with_reducible apply i_asg)
  | (with_reducible apply i_gName)
  | (with_reducible apply i_for)
  | (with_reducible apply i_lc)
  | (with_reducible apply i_iList)
  | (with_reducible apply i_iTup)
  | (with_reducible apply i_iStr)
  | (with_reducible apply i_kStrI)
  | (with_reducible apply i_lst)
  | (with_reducible apply i_tup)
  | (with_reducible apply i_call)
  | (with_reducible apply i_m1)
  | (with_reducible apply i_kStr)
  | (with_reducible apply i_bm)
  | (with_reducible apply i_bm0)
  | (with_reducible apply i_part)
  | (with_reducible apply i_kInt)
  | (with_reducible apply i_noPart)
  | (with_reducible apply i_sl)
  | (with_reducible apply i_range1)
  | (with_reducible apply i_range2)
  | ((with_reducible apply i_kRng1); (case c => walk_at "side"))
  | ((with_reducible apply i_kRng2); (case c => walk_at "side"))
  | (with_reducible apply i_gCons)
  | (with_reducible apply i_gNil)
  | (with_reducible apply i_gSub)
  | (with_reducible apply i_iZip)
  | (with_reducible apply i_yes)
  | (with_reducible apply i_ift)
  | (with_reducible apply i_iff)
  | (with_reducible apply i_nb))
local macro_rules | `(tactic| walk_at "go") => `(tactic| repeat (first | (with_reducible apply i_seq) | (with_reducible apply i_next) | walk_at "e"))
local macro_rules | `(tactic| walk_at "ge") => `(tactic| repeat walk_at "e")
local macro_rules | `(tactic| walk_at "sz") => `(tactic| first | decide | (rw [sizeLine_eq]; simp; done) | (rw [sizeLine_eq]; omega))
local macro_rules | `(tactic| walk_at "side") => `(tactic| (with_reducible exact WB.most_pos))
local macro_rules | `(tactic| walk_at "e") => `(tactic| first
  | ((with_reducible apply i_isT (b := true)); exact rfl)
  | ((with_reducible apply i_isT (b := false)); exact rfl)
  | (with_reducible apply i_fld)
  | ((with_reducible apply i_kFld); (case h => assumption); (case c1 => assumption); (case c2 => assumption); (case e => first | exact lk_number | exact lk_tail | exact lk_head | exact lk_load | exact lk_oneway | exact lk_points | exact lk_ties | exact lk_given))
  | (with_reducible apply i_sfld)
  | ((with_reducible apply i_kSFld); (case h => first | assumption | exact upd_same); (case c1 => assumption); (case c2 => assumption); (case e => exact Nat.le_of_ble_eq_true rfl))
  | (with_reducible apply i_methC)
  | (with_reducible apply i_make)
  | (with_reducible apply i_fldaug)
  | (with_reducible apply i_vals)
  | (with_reducible apply i_items)
  | (with_reducible apply i_dget)
  | (with_reducible apply i_dput)
  | (with_reducible apply i_din)
  | (with_reducible apply i_dnotin)
  | (with_reducible apply i_ddel)
  | (with_reducible apply i_dc)
  | (with_reducible apply i_enum)
  | (with_reducible apply i_ckw))
section
variable {P : Program} {w : World} {K : PySem.W.Frag} {mg : Str → Option Value} {base : Heap}
theorem SqL.move {K : PySem.W.Frag} {H H' : Hp} {a : Addr} {xs : List V} (h : SqL K H a xs) (c : ∀ o, H a = some o → H' a = some o) : SqL K H' a xs := by
  rcases h with (h | ⟨ob, h⟩) | h
  · exact .inl (.inl (c _ h))
  · exact .inl (.inr ⟨ob, c _ h⟩)
  · exact .inr h
theorem SqL.same {K : PySem.W.Frag} {H H' : Hp} {a : Addr} {xs : List V} (h : SqL K H a xs) (m : Same H H') : SqL K H' a xs := SqL.move h fun o e => m _ _ e
theorem SqL.keep {K : PySem.W.Frag} {H H' : Hp} {a p l d : Addr} {w : Wb} {xs : List V} (h : SqL K H a xs) (hw : WebAt K H p l d w) (k : Keep H H' p l d) (n : a ≠ l) : SqL K H' a xs := by
  obtain ⟨dx, ep⟩ := hw.self
  obtain ⟨kvs, ed, _⟩ := hw.ties
  have off : ∀ {o : HO}, H a = some o → (o = .lst xs ∨ ∃ ob, o = .frz ob (.lst xs)) → H' a = some o := fun {o} e c => by
    refine k a o ?_ n ?_ e
    · rintro rfl
      rw [ep] at e
      cases e
      rcases c with c | ⟨_, c⟩ <;> cases c
    · rintro rfl
      rw [ed] at e
      cases e
      rcases c with c | ⟨_, c⟩ <;> cases c
  rcases h with (h | ⟨ob, h⟩) | h
  · exact .inl (.inl (off h (.inl rfl)))
  · exact .inl (.inr ⟨ob, off h (.inr ⟨ob, rfl⟩)⟩)
  · exact .inr h
theorem cell_at {ns : List Int} {k : Int} (h0 : 0 ≤ k) (h : 0 < (ns.length : Int)) : ∃ v : Int, atI (ns.map V.int) (k % (ns.length : Int)) = some (.int v) := by
  have h1 : 0 ≤ k % (ns.length : Int) := Int.emod_nonneg _ (by omega)
  have h2 : k % (ns.length : Int) < (ns.length : Int) := Int.emod_lt_of_pos _ h
  obtain ⟨j, e⟩ := Int.eq_ofNat_of_zero_le h1
  rw [e]
  have hj : j < ns.length := by omega
  exact ⟨ns[j], atI_nat (by rw [List.getElem?_map, List.getElem?_eq_getElem hj]; rfl)⟩
def sp_number (K : PySem.W.Frag) : Sp := fun vs H Q _ => ∃ (a : Addr) (ns : List Int) (k : Int), vs = [.ref a, .int k] ∧ 0 ≤ k ∧ k ≤ 1000 ∧ SqL K H a (ns.map V.int) ∧ ns.length ≤ 64 ∧ ∀ n : Int, 0 ≤ n → n < 2147483629 → Q (.int n) H
theorem ok_law_number (T : Tx K mg) : FnOk P w K mg base CX0 1 (He.ga K "_law_number") T.fd_law_number ["_law_script", "_law_k"] (sp_number K) := by
  refine T.F_law_number.ok sc_law_number (fun vs H Q E h => ?_) (fun cdv A outer s H vs Q E hr h => ?_)
  · obtain ⟨a, ns, k, rfl, _⟩ := h
    rfl
  · obtain ⟨a, ns, k, rfl, k0, k1, hS, hl, q⟩ := h
    refine ⟨_, PSs.nox (pss_cons (ps_set (i := 2) sc_law_number.nd rfl (Or.inl rfl) pe_int)
      (C8.pss_cut (ps_if (pt_cmpR op_gt (pe_callB x_lenL (by rfl) T.b_len (by decide +kernel) (pa_cons (pv 0) pa_nil)) pe_int (nomark _)) (pss_one (ps_set (i := 2) sc_law_number.nd rfl (Or.inl rfl) (pe_ix ix_list (pv 0) (pe_op op_mod (pv 1) (pe_callB x_lenL (by rfl) T.b_len (by decide +kernel) (pa_cons (pv 0) pa_nil))) (fun _ _ => rfl)))) pss_nil)
      (pss_cons (ps_set (i := 3) sc_law_number.nd rfl (Or.inl rfl) (pe_op op_add (pv 1) pe_int))
      (pss_one (ps_ret (pe_op op_mod (pe_op op_mul (pe_op op_mod (pe_op op_add (pe_op op_mul (pe_op op_mod (pv 2) pe_int) pe_int) (pe_op op_mul (pe_op op_mul (pv 3) (pv 3)) pe_int)) pe_int) pe_int) pe_int)))))), ?_⟩
    walk_at "go"
    refine ⟨fun σ' H' => H' = H ∧ ∃ c : Int, σ' = [some (.ref a), some (.int k), some (.int c), none], ?_, ?_⟩
    · walk_at "go"
      rw [List.length_map]
      refine i_dec (fun h1 => ?_) (fun h1 => ?_)
      · have hl2 : (ns.map V.int).length = ns.length := List.length_map _
        walk_at "go"
        rw [List.length_map]
        obtain ⟨v, e⟩ := cell_at (ns := ns) k0 h1
        refine i_ixL hS e ?_
        walk_at "go"
        exact ⟨rfl, _, rfl⟩
      · walk_at "go"
        exact ⟨rfl, _, rfl⟩
    · rintro σ' H' ⟨rfl, c, rfl⟩
      walk_at "go"
      refine q _ ?_ ?_ <;> omega
def sp_great (K : PySem.W.Frag) : Sp := fun vs H Q _ => ∃ (a : Addr) (ns : List Int) (k : Int), vs = [.ref a, .int k] ∧ 0 ≤ k ∧ k ≤ 1000 ∧ SqL K H a (ns.map V.int) ∧ ns.length ≤ 64 ∧
  ∀ (n : Int) H', 0 ≤ n → n ≤ most → Same H H' → Q (.int n) H'
theorem pow60 : (10 : Int) ^ (60 : Int).toNat = most := by decide +kernel
theorem most200 : most + 2000000 < 2 ^ 200 := by decide +kernel
theorem pow7 : ((7 : Int) ^ (61 : Int).toNat).natAbs < 2 ^ 172 := by decide +kernel
theorem ok_law_great (T : Tx K mg) : FnOk P w K mg base CX0 1 (He.ga K "_law_great") T.fd_law_great ["_law_script", "_law_k"] (sp_great K) := by
  refine T.F_law_great.ok sc_law_great (fun vs H Q E h => ?_) (fun cdv A outer s H vs Q E hr h => ?_)
  · obtain ⟨a, ns, k, rfl, _⟩ := h
    rfl
  · obtain ⟨a, ns, k, rfl, k0, k1, hS, hl, q⟩ := h
    refine ⟨_, PSs.nox (pss_cons (ps_set (i := 2) sc_law_great.nd rfl (Or.inl rfl) pe_int)
      (C8.pss_cut (ps_if (pt_cmpR op_gt (pe_callB x_lenL (by rfl) T.b_len (by decide +kernel) (pa_cons (pv 0) pa_nil)) pe_int (nomark _)) (pss_one (ps_set (i := 2) sc_law_great.nd rfl (Or.inl rfl) (pe_ix ix_list (pv 0) (pe_op op_mod (pv 1) (pe_callB x_lenL (by rfl) T.b_len (by decide +kernel) (pa_cons (pv 0) pa_nil))) (fun _ _ => rfl)))) pss_nil)
      (pss_one (ps_ret (pe_op op_mod (pe_op op_mulW (pe_op op_add (pe_op op_add (pe_op op_mod (pv 2) (pe_op op_pow pe_int pe_int)) pe_int) (pe_op op_mul (pv 1) (pv 1))) (pe_op op_pow pe_int pe_int)) (pe_op op_add (pe_op op_pow pe_int pe_int) pe_int)))))), ?_⟩
    walk_at "go"
    refine ⟨fun σ' H' => H' = H ∧ ∃ c : Int, σ' = [some (.ref a), some (.int k), some (.int c)], ?_, ?_⟩
    · walk_at "go"
      rw [List.length_map]
      refine i_dec (fun h1 => ?_) (fun h1 => ?_)
      · have hl2 : (ns.map V.int).length = ns.length := List.length_map _
        walk_at "go"
        rw [List.length_map]
        obtain ⟨v, e⟩ := cell_at (ns := ns) k0 h1
        refine i_ixL hS e ?_
        walk_at "go"
        exact ⟨rfl, _, rfl⟩
      · walk_at "go"
        exact ⟨rfl, _, rfl⟩
    · rintro σ' H' ⟨rfl, c, rfl⟩
      have kk : 0 ≤ k * k ∧ k * k ≤ 1000000 := ⟨Int.mul_nonneg k0 k0, by
        have := Int.mul_le_mul k1 k1 k0 (by omega)
        simpa using this⟩
      have m1 := most200
      have m2 : (1 : Int) ≤ most := by decide +kernel
      walk_at "go"
      rw [pow60]
      have z0 : 0 ≤ c % most := Int.emod_nonneg _ (by omega)
      have z1 : c % most < most := Int.emod_lt_of_pos _ (by omega)
      refine i_rI ?_ (wide_mul (a := 200) (b := 172) (by
        have e : (2 : Int) ^ 200 = ((2 ^ 200 : Nat) : Int) := by decide +kernel
        rw [e] at m1
        generalize (2 ^ 200 : Nat) = B at m1 ⊢
        omega) pow7 (by decide) (by decide) (by decide))
      generalize (c % most + 1 + k * k) * 7 ^ (61 : Int).toNat = z
      clear m1
      walk_at "go"
      rw [pow60]
      have g0 : 0 ≤ z % (most + 1) := Int.emod_nonneg _ (by omega)
      have g1 : z % (most + 1) < most + 1 := Int.emod_lt_of_pos _ (by omega)
      exact q _ H' g0 (by omega) (Same.refl _)
end
end K20

set_option Elab.async false
set_option linter.all false
set_option maxRecDepth 100000
set_option maxHeartbeats 4000000
namespace K20
open PySem PySem.Spec PyProof.Rows L2 HX WB
open TL (tl)
local macro_rules | `(tactic| walk_at "side") => `(tactic| first
  | assumption
  | rfl
  | (show (0 : Int) < _; omega)
  | (unfold CDiv; omega)
  | (unfold CMul; omega)
  | (unfold CPow; omega)
  | (rw [sizeLine_eq]; omega)
  | omega)
local macro_rules | `(tactic| walk_at "e") => `(tactic| first
  | ((with_reducible apply i_var); exact rfl)
  | (with_reducible apply i_c)
  | (with_reducible apply i_op)
  | (with_reducible apply i_un)
  | (with_reducible apply i_rI0)
  | ((with_reducible apply i_rI); (case c => walk_at "side"))
  | (with_reducible apply i_rGe)
  | (with_reducible apply i_rGt)
  | (with_reducible apply i_rU)
  | (with_reducible apply i_rEqI)
  | (with_reducible apply i_rNeI)
  | (with_reducible apply i_rEqS)
  | (with_reducible apply i_rNeS)
  | (with_reducible apply i_rEqB)
  | (with_reducible apply i_rNeB)
  | (with_reducible apply i_rIsN)
  | (with_reducible apply i_rNotN)
  | (with_reducible apply i_rInS)
  | (with_reducible apply i_rNotInS)
  | ((with_reducible apply i_catS); (case c => walk_at "side"))
  | (with_reducible apply i_tcb)
  | (with_reducible apply i_nil)
  | (with_reducible apply i_cons)
  | ((with_reducible apply i_lenS); (case c => walk_at "side"))
  | ((with_reducible apply i_lenL); assumption)
  | (with_reducible apply i_abs)
  | (with_reducible apply i_max2)
  | (with_reducible apply i_min2)
  | ((with_reducible apply i_strI); (case c => walk_at "side"))
  | (with_reducible apply i_intB)
  | (with_reducible apply i_test)
  | (with_reducible apply i_tB)
  | (with_reducible apply i_kB)
  | (with_reducible apply i_and)
  | (with_reducible apply i_or)
  | (with_reducible apply i_not)
  | (with_reducible apply i_if)
  | (with_reducible apply i_andV)
  | (with_reducible apply i_orV)
  | (with_reducible apply i_notV)
  | (with_reducible apply i_kAndV)
  | (with_reducible apply i_kOrV)
  | (with_reducible apply i_kNotV)
  | (with_reducible apply i_chain)
  | (with_reducible apply i_kChain)
  | (with_reducible apply i_drop)
  | (with_reducible apply i_ret)
  | (with_reducible apply i_retN)
  | (with_reducible apply i_ifS)
  | (with_reducible apply i_asg)
  | (with_reducible apply i_gName)
  | (with_reducible apply i_for)
  | (with_reducible apply i_lc)
  | (with_reducible apply i_iList)
  | (with_reducible apply i_iTup)
  | (with_reducible apply i_iStr)
  | (with_reducible apply i_kStrI)
  | (with_reducible apply i_lst)
  | (with_reducible apply i_tup)
  | (with_reducible apply i_call)
  | (with_reducible apply i_m1)
  | (with_reducible apply i_kStr)
  | (with_reducible apply i_bm)
  | (with_reducible apply i_bm0)
  | (with_reducible apply i_part)
  | (with_reducible apply i_kInt)
  | (with_reducible apply i_noPart)
  | (with_reducible apply i_sl)
  | (with_reducible apply i_range1)
  | (with_reducible apply i_range2)
  | ((with_reducible apply i_kRng1); (case c => walk_at "side"))
  | ((with_reducible apply i_kRng2); (case c => walk_at "side"))
  | (with_reducible apply i_gCons)
  | (with_reducible apply i_gNil)
  | (with_reducible apply i_gSub)
  | (with_reducible apply i_iZip)
  | (with_reducible apply i_yes)
  | (with_reducible apply i_ift)
  | (with_reducible apply i_iff)
  | (with_reducible apply i_nb))
local macro_rules | `(tactic| walk_at "go") => `(tactic| repeat (first | (with_reducible apply i_seq) | (with_reducible apply i_next) | walk_at "e"))
local macro_rules | `(tactic| walk_at "ge") => `(tactic| repeat walk_at "e")
local macro_rules | `(tactic| walk_at "sz") => `(tactic| first | decide | (rw [sizeLine_eq]; simp; done) | (rw [sizeLine_eq]; omega))
local macro_rules | `(tactic| walk_at "side") => `(tactic| (with_reducible exact WB.most_pos))
local macro_rules | `(tactic| walk_at "e") => `(tactic| first
  | ((with_reducible apply i_isT (b := true)); exact rfl)
  | ((with_reducible apply i_isT (b := false)); exact rfl)
  | (with_reducible apply i_fld)
  | ((with_reducible apply i_kFld); (case h => assumption); (case c1 => assumption); (case c2 => assumption); (case e => first | exact lk_number | exact lk_tail | exact lk_head | exact lk_load | exact lk_oneway | exact lk_points | exact lk_ties | exact lk_given))
  | (with_reducible apply i_sfld)
  | ((with_reducible apply i_kSFld); (case h => first | assumption | exact upd_same); (case c1 => assumption); (case c2 => assumption); (case e => exact Nat.le_of_ble_eq_true rfl))
  | (with_reducible apply i_methC)
  | (with_reducible apply i_make)
  | (with_reducible apply i_fldaug)
  | (with_reducible apply i_vals)
  | (with_reducible apply i_items)
  | (with_reducible apply i_dget)
  | (with_reducible apply i_dput)
  | (with_reducible apply i_din)
  | (with_reducible apply i_dnotin)
  | (with_reducible apply i_ddel)
  | (with_reducible apply i_dc)
  | (with_reducible apply i_enum)
  | (with_reducible apply i_ckw))
local macro_rules | `(tactic| walk_at "e") => `(tactic| first | (with_reducible apply i_m1) | (with_reducible apply i_kStr))
abbrev sg (c : Nat) : Str := ⟨#[c]⟩
/-- all signs are letters up to w -/
def Low (z : Str) : Prop := ∀ c ∈ tl z, 97 ≤ c ∧ c ≤ 122
theorem nm_of {z : Str} (h : Low z) (l1 : 1 ≤ z.length) (l2 : z.length ≤ 12) : isNm z = true := by
  unfold isNm
  simp only [Bool.and_eq_true, decide_eq_true_eq, List.all_eq_true]
  exact ⟨⟨l1, l2⟩, fun c hc => by have := h c hc; omega⟩
theorem low_app {x y : Str} (h : Low x) (g : Low y) : Low (x ++ y) := fun c hc => by
  rw [TL.tl_append] at hc
  exact (List.mem_append.mp hc).elim (h c) (g c)
theorem low_sg {c : Nat} (h : 97 ≤ c ∧ c ≤ 122) : Low (sg c) := fun d hd => by
  have : d = c := by simpa [tl] using hd
  rw [this]; exact h
theorem tl_cut (z : Str) (lo hi : Option Int) : tl (cutS z lo hi) = (((tl z).drop (HT.sIx z.length 0 lo)).take (HT.sIx z.length z.length hi - HT.sIx z.length 0 lo)) := rfl
theorem low_cut {z : Str} (h : Low z) (lo hi : Option Int) : Low (cutS z lo hi) := fun c hc => by
  rw [tl_cut] at hc
  exact h c (List.mem_of_mem_drop (List.mem_of_mem_take hc))
theorem len_tl' (z : Str) : z.length = (tl z).length := rfl
theorem tl_join0 (cs : List Nat) : tl (Txt.join "" (cs.map sg)) = cs := by
  rw [TL.join_eq, TL.tl_join]
  have e : tl ("" : Str) = [] := by decide +kernel
  rw [e, TX.joinL_nil, List.map_map]
  induction cs with
  | nil => rfl
  | cons c r ih => simp only [List.map_cons, List.flatten_cons, ih]; rfl
theorem sIx_pos {n d : Nat} {k : Int} (h : 0 ≤ k) : HT.sIx n d (some k) = min k.toNat n := by
  show (if k < 0 then (k + (n : Int)).toNat else min k.toNat n) = _
  rw [if_neg (by omega)]
theorem lettersW : ("abcdefghijklmnopqrstuvwxyz" : Str).cps.toList = List.range' 97 26 := by decide +kernel
theorem letter_at {j : Int} (h0 : 0 ≤ j) (h1 : j < 26) : atI ("abcdefghijklmnopqrstuvwxyz" : Str).cps.toList j = some (97 + j.toNat) := by
  rw [lettersW]
  obtain ⟨k, rfl⟩ := Int.eq_ofNat_of_zero_le h0
  refine atI_nat ?_
  rw [List.getElem?_range' (by omega)]
  simp
theorem letters_len : ("abcdefghijklmnopqrstuvwxyz" : Str).length ≤ sizeLine := by
  rw [sizeLine_eq]; decide +kernel
/-- the sign put in -/
def sc (n : Int) (j : Nat) : Nat := 97 + ((n / 2000 + 5 * (0 + (j : Int))) % 26).toNat
def nmj (n : Int) (A C : Str) (j : Nat) : Str := A ++ sg (sc n j) ++ C
theorem nmj_inj {n : Int} {A C : Str} {i j : Nat} (hi : i < 16) (hj : j < 16) (e : nmj n A C i = nmj n A C j) : i = j := by
  have e1 := congrArg tl e
  unfold nmj at e1
  rw [TL.tl_append, TL.tl_append, TL.tl_append, TL.tl_append] at e1
  have e2 := List.append_cancel_left (List.append_cancel_right e1)
  have e3 : sc n i = sc n j := by
    have : [sc n i] = [sc n j] := e2
    exact (List.cons.inj this).1
  unfold sc at e3
  omega
theorem names_nd {n : Int} {A C : Str} {m : Nat} (hm : m ≤ 16) : ((List.range m).map (nmj n A C)).Nodup := by
  refine List.pairwise_map.mpr ?_
  refine (List.pairwise_lt_range (n := m)).imp_of_mem fun {a b} ha hb hab e => ?_
  have h1 := List.mem_range.mp ha
  have h2 := List.mem_range.mp hb
  have := nmj_inj (by omega) (by omega) e
  omega
/-- the first signs of a text -/
def pre (B : Str) (j : Nat) : Str := cutS B none (some (0 + (j : Int) + 1))
theorem pre_len {B : Str} (hB : B.length = 12) {j : Nat} (h : j < 12) : (pre B j).length = j + 1 := by
  unfold pre
  rw [len_tl', tl_cut, sIx_pos (by omega)]
  show (((tl B).drop 0).take (min (0 + (j : Int) + 1).toNat B.length - 0)).length = _
  rw [List.length_take, List.drop_zero, hB]
  have : (tl B).length = 12 := hB
  omega
theorem pres_nd {B : Str} (hB : B.length = 12) {m : Nat} (hm : m ≤ 12) : ((List.range m).map (pre B)).Nodup := by
  refine List.pairwise_map.mpr ?_
  refine (List.pairwise_lt_range (n := m)).imp_of_mem fun {a b} ha hb hab e => ?_
  have h1 := List.mem_range.mp ha
  have h2 := List.mem_range.mp hb
  have := congrArg Str.length e
  rw [pre_len hB (by omega), pre_len hB (by omega)] at this
  omega
/-- the base's signs -/
def cb (n : Int) (j : Nat) : Nat := 97 + ((n / 7 + (3 + n % 5) * (0 + (j : Int))) % 26).toNat
theorem cb01 {n : Int} : cb n 0 ≠ cb n 1 := by
  unfold cb
  simp only [Int.natCast_zero, Int.natCast_one, Int.add_zero, Int.zero_add, Int.mul_zero, Int.mul_one]
  omega
theorem cb_low {n : Int} {j : Nat} : 97 ≤ cb n j ∧ cb n j ≤ 122 := by
  unfold cb
  generalize n / 7 + (3 + n % 5) * (0 + (j : Int)) = z
  omega
/-- not three z at the begin -/
def NoZ (z : Str) : Prop := ∀ r, tl z ≠ 122 :: 122 :: 122 :: r
theorem take_cut {z : Str} {k : Int} (h : 0 ≤ k) : tl (cutS z none (some k)) = (tl z).take k.toNat := by
  rw [tl_cut, sIx_pos h]
  show ((tl z).drop 0).take (min k.toNat z.length - 0) = _
  rw [List.drop_zero, Nat.sub_zero]
  rcases Nat.le_total k.toNat z.length with c | c
  · rw [Nat.min_eq_left c]
  · have e : z.length = (tl z).length := rfl
    rw [Nat.min_eq_right c, List.take_of_length_le (by rw [e]; exact Nat.le_refl _), List.take_of_length_le (by rw [← e]; exact c)]
theorem drop_cut {z : Str} {k : Int} (h : 0 ≤ k) : tl (cutS z (some k) none) = (tl z).drop k.toNat := by
  rw [tl_cut, sIx_pos h]
  show ((tl z).drop (min k.toNat z.length)).take (z.length - min k.toNat z.length) = _
  have e : z.length = (tl z).length := rfl
  rcases Nat.le_total k.toNat z.length with c | c
  · rw [Nat.min_eq_left c, List.take_of_length_le (by rw [List.length_drop, e]; exact Nat.le_refl _)]
  · have h1 : (tl z).drop k.toNat = [] := List.drop_eq_nil_of_le (by rw [← e]; exact c)
    have h2 : (tl z).drop z.length = [] := List.drop_eq_nil_of_le (by rw [← e]; exact Nat.le_refl _)
    rw [Nat.min_eq_right c, h1, h2, List.take_nil]
theorem noz_pre {B : Str} {a b : Nat} {r : List Nat} (hB : tl B = a :: b :: r) (h : a ≠ b) {j : Nat} : NoZ (pre B j) := fun q e => by
  unfold pre at e
  rw [take_cut (by omega), hB] at e
  have e1 : (0 + (j : Int) + 1).toNat = j + 1 := by omega
  rw [e1] at e
  cases j with
  | zero => simp at e
  | succ j =>
    rw [List.take_succ_cons, List.take_succ_cons] at e
    simp only [List.cons.injEq] at e
    exact h (e.1.trans e.2.1.symm)
theorem noz_put {F : Str} {k : Int} {c : Nat} (hF : ∀ a b r, tl F = a :: b :: r → a ≠ b) (hk : 0 ≤ k) : NoZ (cutS F none (some k) ++ sg c ++ cutS F (some k) none) := fun q e => by
  rw [TL.tl_append, TL.tl_append, take_cut hk, drop_cut hk] at e
  have es : tl (sg c) = [c] := rfl
  rw [es] at e
  generalize k.toNat = m at e
  cases hf : tl F with
  | nil => rw [hf] at e; simp at e
  | cons a r =>
    cases r with
    | nil =>
      rw [hf] at e
      cases m with
      | zero => simp at e
      | succ m => simp at e
    | cons b r =>
      have hab := hF a b r hf
      rw [hf] at e
      match m with
      | 0 =>
        simp only [List.take_zero, List.nil_append, List.drop_zero, List.cons_append, List.cons.injEq] at e
        exact hab (e.2.1.trans e.2.2.1.symm)
      | 1 =>
        simp only [List.take_succ_cons, List.take_zero, List.drop_succ_cons, List.drop_zero, List.cons_append, List.nil_append, List.cons.injEq] at e
        exact hab (e.1.trans e.2.2.1.symm)
      | m + 2 =>
        simp only [List.take_succ_cons, List.cons_append, List.cons.injEq] at e
        exact hab (e.1.trans e.2.1.symm)
section
variable {P : Program} {w : World} {K : PySem.W.Frag} {mg : Str → Option Value} {base : Heap}
def sp_names : Sp := fun vs H Q _ => ∃ (n m : Int), vs = [.int n, .int m] ∧ 0 ≤ n ∧ 2 ≤ m ∧ m ≤ 12 ∧ ∀ a ps H', Same H H' → H a = none → H' a = some (.lst ((ps : List Str).map V.str)) → ps.Nodup → ps.length = m.toNat → (∀ x ∈ ps, isNm x = true ∧ NoZ x) → Q (.ref a) H'
theorem ok_law_names (T : Tx K mg) : FnOk P w K mg base CX0 1 (He.ga K "_law_names") T.fd_law_names ["_law_number_here", "_law_many"] sp_names := by
  refine T.F_law_names.ok sc_law_names (fun vs H Q E h => ?_) (fun cdv A outer s H vs Q E hr h => ?_)
  · obtain ⟨_, _, rfl, _⟩ := h
    rfl
  · obtain ⟨n, m, rfl, n0, m0, m1, q⟩ := h
    refine ⟨_, PSs.nox (pss_cons (ps_set (i := 2) sc_law_names.nd rfl (Or.inr rfl) pe_str)
      (pss_cons (ps_set (i := 3) sc_law_names.nd rfl (Or.inr rfl) (pe_op op_add pe_int (pe_op op_mod (pv 0) pe_int)))
      (pss_cons (ps_set (i := 4) sc_law_names.nd rfl (Or.inr rfl) (x_join pe_str (pe_lc (own := [("_law_j", 8)]) (by rfl) sc_law_names.nd (pi_range1 rfl T.b_range (pa_cons pe_int pa_nil)) (blkOk_by (own := [("_law_j", 8)]) (N := N_law_names) (sc := defScope s_law_names) (by decide +kernel)) (fun _ _ _ _ _ => (pg_name (i := 8) sc_law_names.nd rfl (Or.inl rfl))) (fun _ _ _ _ _ => pts_nil) (fun _ _ _ _ _ => (pe_ix ix_str (pv 2) (pe_op op_mod (pe_op op_add (pe_op op_fdiv (pv 0) pe_int) (pe_op op_mul (pv 3) (pv 8))) pe_int) (fun _ _ => rfl))))))
      (pss_cons (ps_if (pt_cmpR op_eq (pe_op op_mod (pe_op op_fdiv (pv 0) pe_int) pe_int) pe_int (nomark _)) (pss_one (ps_ret (pe_lc (own := [("_law_k", 9)]) (by rfl) sc_law_names.nd (pi_range1 rfl T.b_range (pa_cons (pv 1) pa_nil)) (blkOk_by (own := [("_law_k", 9)]) (N := N_law_names) (sc := defScope s_law_names) (by decide +kernel)) (fun _ _ _ _ _ => (pg_name (i := 9) sc_law_names.nd rfl (Or.inl rfl))) (fun _ _ _ _ _ => pts_nil) (fun _ _ _ _ _ => (pe_slice sl_str (pv 4) po_none (po_some (pe_op op_add (pv 9) pe_int))))))) pss_nil)
      (pss_cons (ps_set (i := 5) sc_law_names.nd rfl (Or.inr rfl) (pe_slice sl_str (pv 4) po_none (po_some (pe_op op_mod (pv 0) pe_int))))
      (pss_cons (ps_set (i := 6) sc_law_names.nd rfl (Or.inr rfl) (pe_op op_mod (pe_op op_fdiv (pv 0) pe_int) (pe_op op_add (pe_callB x_lenS (by rfl) T.b_len (by decide +kernel) (pa_cons (pv 5) pa_nil)) pe_int)))
      (pss_cons (ps_setLc (i := 7) (own := [("_law_k", 9)]) (by rfl) sc_law_names.nd rfl rfl (sw_true rfl rfl rfl (by decide +kernel)) (pi_range1 rfl T.b_range (pa_cons (pv 1) pa_nil)) (blkOk_by (own := [("_law_k", 9)]) (N := N_law_names) (sc := defScope s_law_names) (by decide +kernel)) (fun _ _ _ _ _ => (pg_name (i := 9) sc_law_names.nd rfl (Or.inl rfl))) (fun _ _ _ _ _ => pts_nil) (fun _ _ _ _ _ => (pe_ix ix_str (pv 2) (pe_op op_mod (pe_op op_add (pe_op op_fdiv (pv 0) pe_int) (pe_op op_mul pe_int (pv 9))) pe_int) (fun _ _ => rfl))))
      (pss_one (ps_ret (pe_lc (own := [("_law_sign", 10)]) (by rfl) sc_law_names.nd (pi_list (pv 7)) (blkOk_by (own := [("_law_sign", 10)]) (N := N_law_names) (sc := defScope s_law_names) (by decide +kernel)) (fun _ _ _ _ _ => (pg_name (i := 10) sc_law_names.nd rfl (Or.inl rfl))) (fun _ _ _ _ _ => pts_nil) (fun _ _ _ _ _ => (pe_op x_catS (pe_op x_catS (pe_slice sl_str (pv 5) po_none (po_some (pv 6))) (pv 10)) (pe_slice sl_str (pv 5) (po_some (pv 6)) po_none))))))))))))), ?_⟩
    walk_at "go"
    intro D hD
    refine lc_it walk_range (fun i H' => Same H H' ∧ H' D = some (.lst ((((List.range i).map (cb n)).map sg).map V.str)))
      ⟨Same.new hD, by rw [upd_same]; rfl⟩ (fun _ _ _ _ => trivial) ?_ ?_
    · rintro i v H2 H3 hi ⟨s2, eD⟩ ⟨rfl, rfl⟩
      have hi12 : i < 12 := hi
      walk_at "go"
      refine ⟨rfl, ?_⟩
      walk_at "go"
      have eT : (List.range (i + 1)).map (cb n) = (List.range i).map (cb n) ++ [cb n i] := by rw [List.range_succ, List.map_append]; rfl
      rw [eT]
      unfold cb
      generalize (n / 7 + (3 + n % 5) * (0 + (i : Int))) = z
      have hz0 : 0 ≤ z % 26 := by omega
      have hz1 : z % 26 < 26 := by omega
      refine i_ixS ?_ letters_len (letter_at hz0 hz1)
      refine ⟨_, eD, ?_, Same.mut s2 hD, ?_⟩
      · rw [List.length_map, List.length_map, List.length_map, List.length_range, sizeLine_eq]; omega
      · rw [upd_same, List.map_append, List.map_append]; rfl
    · rintro H1 ⟨s1, eD⟩
      have eD : H1 D = some (.lst ((((List.range 12).map (cb n)).map sg).map V.str)) := eD
      have hc : ∀ c ∈ (List.range 12).map (cb n), 97 ≤ c ∧ c ≤ 122 := fun c h => by
        obtain ⟨j, _, rfl⟩ := List.mem_map.mp h
        exact cb_low
      have h2 : (List.range 12).map (cb n) = cb n 0 :: cb n 1 :: (List.range 10).map (fun j => cb n (j + 2)) := rfl
      have hl12 : ((List.range 12).map (cb n)).length = 12 := by simp
      generalize (List.range 12).map (cb n) = cs at eD hc h2 hl12
      refine i_join (SqL.of eD) ?_ ?_
      · rw [List.length_map, hl12]
        have : ((cs.map sg).map fun x => x.length).sum = cs.length := by
          rw [List.map_map]
          have e : ((fun x : Str => x.length) ∘ sg) = fun _ => 1 := rfl
          rw [e, List.map_const', List.sum_replicate_nat]; omega
        rw [this, hl12]
        decide +kernel
      have hBt := tl_join0 cs
      have hBl : (Txt.join "" (cs.map sg)).length = 12 := by rw [len_tl', hBt]; exact hl12
      have hB : Low (Txt.join "" (cs.map sg)) := fun d hd => hc d (by rwa [hBt] at hd)
      have hBc : tl (Txt.join "" (cs.map sg)) = cb n 0 :: cb n 1 :: (List.range 10).map (fun j => cb n (j + 2)) := hBt.trans h2
      generalize Txt.join "" (cs.map sg) = B at hBl hB hBc
      walk_at "go"
      refine i_dec (fun _ => ?_) (fun _ => ?_)
      · walk_at "go"
        intro D4 hD4
        refine lc_it walk_range (fun i H' => Same H1 H' ∧ H' D4 = some (.lst (((List.range i).map (pre B)).map V.str)))
          ⟨Same.new hD4, by rw [upd_same]; rfl⟩ (fun _ _ _ _ => trivial) ?_ ?_
        · rintro i v H4 H5 hi ⟨s4, eD4⟩ ⟨rfl, rfl⟩
          have hi12 : i < m.toNat := by simpa using hi
          walk_at "go"
          refine ⟨rfl, ?_⟩
          walk_at "go"
          refine i_slS (by rw [hBl, sizeLine_eq]; decide) ?_
          refine ⟨_, eD4, ?_, Same.mut s4 hD4, ?_⟩
          · rw [List.length_map, List.length_map, List.length_range, sizeLine_eq]; omega
          · rw [upd_same, List.range_succ, List.map_append, List.map_append]; rfl
        · rintro H4 ⟨s4, eD4⟩
          have e : (m - 0).toNat = m.toNat := by rw [Int.sub_zero]
          walk_at "go"
          refine q D4 ((List.range m.toNat).map (pre B)) H4 (s1.trans s4) (s1.free hD4) ?_ (pres_nd hBl (by omega)) (by simp) (fun x hx => ?_)
          · first | exact eD4 | (rw [← e]; exact eD4)
          · obtain ⟨j, hj, rfl⟩ := List.mem_map.mp hx
            have hj2 := List.mem_range.mp hj
            have := pre_len hBl (j := j) (by omega)
            exact ⟨nm_of (low_cut hB _ _) (by omega) (by omega), noz_pre hBc cb01⟩
      walk_at "go"
      refine i_slS (by rw [hBl, sizeLine_eq]; decide) ?_
      have hFl : (cutS B none (some (n % 8))).length ≤ 7 := by
        rw [len_tl', tl_cut, sIx_pos (by omega), List.length_take]
        show min (min (n % 8).toNat B.length - 0) _ ≤ 7
        omega
      have hF := low_cut hB none (some (n % 8))
      have hFc : ∀ a b r, tl (cutS B none (some (n % 8))) = a :: b :: r → a ≠ b := fun a b r e => by
        rw [take_cut (by omega), hBc] at e
        match hm : (n % 8).toNat with
        | 0 => rw [hm] at e; simp at e
        | 1 => rw [hm] at e; simp at e
        | m + 2 =>
          rw [hm] at e
          simp only [List.take_succ_cons, List.cons.injEq] at e
          rw [← e.1, ← e.2.1]
          exact cb01
      generalize cutS B none (some (n % 8)) = F at hFl hF hFc
      walk_at "go"
      have ha0 : 0 ≤ n / 200 % ((F.length : Int) + 1) := Int.emod_nonneg _ (by omega)
      generalize n / 200 % ((F.length : Int) + 1) = at0 at ha0 ⊢
      intro D2 hD2
      refine lc_it walk_range (fun i H' => Same H1 H' ∧ H' D2 = some (.lst (((List.range i).map fun j => sg (sc n j)).map V.str)))
        ⟨Same.new hD2, by rw [upd_same]; rfl⟩ (fun _ _ _ _ => trivial) ?_ ?_
      · rintro i v H2 H3 hi ⟨s2, eD2⟩ ⟨rfl, rfl⟩
        have hi22 : i < m.toNat := by simpa using hi
        walk_at "go"
        refine ⟨rfl, ?_⟩
        walk_at "go"
        refine i_ixS ?_ letters_len (letter_at (by omega) (by omega))
        refine ⟨_, eD2, ?_, Same.mut s2 hD2, ?_⟩
        · rw [List.length_map, List.length_map, List.length_range, sizeLine_eq]; omega
        · rw [upd_same, List.range_succ, List.map_append, List.map_append]; rfl
      · rintro H2 ⟨s2, eD2⟩
        have e : (m - 0).toNat = m.toNat := by rw [Int.sub_zero]
        have eD2 : H2 D2 = some (.lst (((List.range m.toNat).map fun j => sg (sc n j)).map V.str)) := by first | exact eD2 | (rw [← e]; exact eD2)
        walk_at "go"
        refine i_kListI (SqL.of eD2) ?_
        intro D3 hD3
        have hAl : (cutS F none (some at0)).length ≤ F.length := by
          rw [len_tl', tl_cut, List.length_take, List.length_drop]
          have : (tl F).length = F.length := rfl
          omega
        have hCl : (cutS F (some at0) none).length ≤ F.length := by
          rw [len_tl', tl_cut, List.length_take, List.length_drop]
          have : (tl F).length = F.length := rfl
          omega
        have hA := low_cut hF none (some at0)
        have hC := low_cut hF (some at0) none
        have hFs : F.length ≤ sizeLine := by rw [sizeLine_eq]; omega
        refine lc_it walk_list (fun i H' => Same H2 H' ∧ H' D3 = some (.lst (((List.range i).map (nmj n (cutS F none (some at0)) (cutS F (some at0) none))).map V.str)))
          ⟨Same.new hD3, by rw [upd_same]; rfl⟩ (fun i H' _ h => SqL.of (h.1 _ _ eD2)) ?_ ?_
        · rintro i v H4 H5 hi ⟨s4, eD3⟩ ⟨rfl, hv⟩
          rw [List.length_map, List.length_map, List.length_range] at hi
          have hv2 : v = .str (sg (sc n i)) := by
            rw [List.getElem?_map, List.getElem?_map, List.getElem?_range hi] at hv
            cases hv; rfl
          subst hv2
          walk_at "go"
          refine ⟨rfl, ?_⟩
          walk_at "go"
          refine i_slS hFs ?_
          walk_at "go"
          refine i_catS ?_ (by rw [sizeLine_eq]; show (cutS F none (some at0)).length + 1 ≤ _; omega)
          walk_at "go"
          refine i_slS hFs ?_
          refine i_catS ?_ (by rw [sizeLine_eq, TX.len_app]; show (cutS F none (some at0)).length + 1 + (cutS F (some at0) none).length ≤ _; omega)
          refine ⟨_, eD3, ?_, Same.mut s4 hD3, ?_⟩
          · rw [List.length_map, List.length_map, List.length_range, sizeLine_eq]; omega
          · rw [upd_same, List.range_succ, List.map_append, List.map_append]; rfl
        · rintro H3 ⟨s3, eD3⟩
          rw [List.length_map, List.length_map, List.length_range] at eD3
          walk_at "go"
          refine q D3 _ H3 ((s1.trans s2).trans s3) (s1.free (s2.free hD3)) eD3 (names_nd (by omega)) (by simp) (fun x hx => ?_)
          obtain ⟨j, hj, rfl⟩ := List.mem_map.mp hx
          have hj22 := List.mem_range.mp hj
          have hl : (nmj n (cutS F none (some at0)) (cutS F (some at0) none) j).length = (cutS F none (some at0)).length + 1 + (cutS F (some at0) none).length := by
            unfold nmj
            rw [TX.len_app, TX.len_app]; rfl
          have hsum : (cutS F none (some at0)).length + (cutS F (some at0) none).length ≤ F.length := by
            rw [len_tl', len_tl' (cutS F (some at0) none), tl_cut, tl_cut, sIx_pos ha0, sIx_pos ha0]
            show (((tl F).drop 0).take (min at0.toNat F.length - 0)).length + (((tl F).drop (min at0.toNat F.length)).take (F.length - min at0.toNat F.length)).length ≤ F.length
            rw [List.length_take, List.length_take, List.length_drop, List.length_drop]
            have : (tl F).length = F.length := rfl
            omega
          refine ⟨nm_of (low_app (low_app hA (low_sg ?_)) hC) (by omega) (by omega), noz_put hFc ha0⟩
          unfold sc; omega
end
end K20

set_option Elab.async false
set_option linter.all false
set_option maxRecDepth 100000
set_option maxHeartbeats 4000000
namespace K20
open PySem PySem.Spec PyProof.Rows L2 HX WB
open TL (tl)
local macro_rules | `(tactic| walk_at "side") => `(tactic| first
  | assumption
  | rfl
  | (show (0 : Int) < _; omega)
  | (unfold CDiv; omega)
  | (unfold CMul; omega)
  | (unfold CPow; omega)
  | (rw [sizeLine_eq]; omega)
  | omega)
local macro_rules | `(tactic| walk_at "e") => `(tactic| first
  | ((with_reducible apply i_var); exact rfl)
  | (with_reducible apply i_c)
  | (with_reducible apply i_op)
  | (with_reducible apply i_un)
  | (with_reducible apply i_rI0)
  | ((with_reducible apply i_rI); (case c => walk_at "side"))
  | (with_reducible apply i_rGe)
  | (with_reducible apply i_rGt)
  | (with_reducible apply i_rU)
  | (with_reducible apply i_rEqI)
  | (with_reducible apply i_rNeI)
  | (with_reducible apply i_rEqS)
  | (with_reducible apply i_rNeS)
  | (with_reducible apply i_rEqB)
  | (with_reducible apply i_rNeB)
  | (with_reducible apply i_rIsN)
  | (with_reducible apply i_rNotN)
  | (with_reducible apply i_rInS)
  | (with_reducible apply i_rNotInS)
  | ((with_reducible apply i_catS); (case c => walk_at "side"))
  | (with_reducible apply i_tcb)
  | (with_reducible apply i_nil)
  | (with_reducible apply i_cons)
  | ((with_reducible apply i_lenS); (case c => walk_at "side"))
  | ((with_reducible apply i_lenL); assumption)
  | (with_reducible apply i_abs)
  | (with_reducible apply i_max2)
  | (with_reducible apply i_min2)
  | ((with_reducible apply i_strI); (case c => walk_at "side"))
  | (with_reducible apply i_intB)
  | (with_reducible apply i_test)
  | (with_reducible apply i_tB)
  | (with_reducible apply i_kB)
  | (with_reducible apply i_and)
  | (with_reducible apply i_or)
  | (with_reducible apply i_not)
  | (with_reducible apply i_if)
  | (with_reducible apply i_andV)
  | (with_reducible apply i_orV)
  | (with_reducible apply i_notV)
  | (with_reducible apply i_kAndV)
  | (with_reducible apply i_kOrV)
  | (with_reducible apply i_kNotV)
  | (with_reducible apply i_chain)
  | (with_reducible apply i_kChain)
  | (with_reducible apply i_drop)
  | (with_reducible apply i_ret)
  | (with_reducible apply i_retN)
  | (with_reducible apply i_ifS)
  | (with_reducible apply i_asg)
  | (with_reducible apply i_gName)
  | (with_reducible apply i_for)
  | (with_reducible apply i_lc)
  | (with_reducible apply i_iList)
  | (with_reducible apply i_iTup)
  | (with_reducible apply i_iStr)
  | (with_reducible apply i_kStrI)
  | (with_reducible apply i_lst)
  | (with_reducible apply i_tup)
  | (with_reducible apply i_call)
  | (with_reducible apply i_m1)
  | (with_reducible apply i_kStr)
  | (with_reducible apply i_bm)
  | (with_reducible apply i_bm0)
  | (with_reducible apply i_part)
  | (with_reducible apply i_kInt)
  | (with_reducible apply i_noPart)
  | (with_reducible apply i_sl)
  | (with_reducible apply i_range1)
  | (with_reducible apply i_range2)
  | ((with_reducible apply i_kRng1); (case c => walk_at "side"))
  | ((with_reducible apply i_kRng2); (case c => walk_at "side"))
  | (with_reducible apply i_gCons)
  | (with_reducible apply i_gNil)
  | (with_reducible apply i_gSub)
  | (with_reducible apply i_iZip)
  | (with_reducible apply i_yes)
  | (with_reducible apply i_ift)
  | (with_reducible apply i_iff)
  | (with_reducible apply i_nb))
local macro_rules | `(tactic| walk_at "go") => `(tactic| repeat (first | (with_reducible apply i_seq) | (with_reducible apply i_next) | walk_at "e"))
local macro_rules | `(tactic| walk_at "ge") => `(tactic| repeat walk_at "e")
local macro_rules | `(tactic| walk_at "sz") => `(tactic| first | decide | (rw [sizeLine_eq]; simp; done) | (rw [sizeLine_eq]; omega))
local macro_rules | `(tactic| walk_at "side") => `(tactic| (with_reducible exact WB.most_pos))
local macro_rules | `(tactic| walk_at "e") => `(tactic| first
  | ((with_reducible apply i_isT (b := true)); exact rfl)
  | ((with_reducible apply i_isT (b := false)); exact rfl)
  | (with_reducible apply i_fld)
  | ((with_reducible apply i_kFld); (case h => assumption); (case c1 => assumption); (case c2 => assumption); (case e => first | exact lk_number | exact lk_tail | exact lk_head | exact lk_load | exact lk_oneway | exact lk_points | exact lk_ties | exact lk_given))
  | (with_reducible apply i_sfld)
  | ((with_reducible apply i_kSFld); (case h => first | assumption | exact upd_same); (case c1 => assumption); (case c2 => assumption); (case e => exact Nat.le_of_ble_eq_true rfl))
  | (with_reducible apply i_methC)
  | (with_reducible apply i_make)
  | (with_reducible apply i_fldaug)
  | (with_reducible apply i_vals)
  | (with_reducible apply i_items)
  | (with_reducible apply i_dget)
  | (with_reducible apply i_dput)
  | (with_reducible apply i_din)
  | (with_reducible apply i_dnotin)
  | (with_reducible apply i_ddel)
  | (with_reducible apply i_dc)
  | (with_reducible apply i_enum)
  | (with_reducible apply i_ckw))
/-! ### the law's rows -/
structure RowK (kvs : List (Key × V)) (n : Int) (t : Ti) : Prop where
  number : valV kvs (Sum.inr "number") = some (.int n)
  tail : valV kvs (Sum.inr "tail") = some (.str t.t)
  head : valV kvs (Sum.inr "head") = some (.str t.h)
  load : valV kvs (Sum.inr "load") = some (.int t.c)
  oneway : valV kvs (Sum.inr "oneway") = some (.bl t.o)
def RowAt (H : Hp) (n : Int) (t : Ti) (a : Addr) : Prop := ∃ kvs, H a = some (.dK kvs) ∧ RowK kvs n t
abbrev RowsL (H : Hp) (as : List Addr) (ts : Ts) : Prop := Two (fun a nt => RowAt H nt.1 nt.2 a) as ts
section
variable {H H' : Hp} {a b : Addr} {n : Int} {t : Ti} {o : HO} {as : List Addr} {ts : Ts}
theorem RowAt.same (h : RowAt H n t a) (s : Same H H') : RowAt H' n t a := by
  obtain ⟨kvs, e, r⟩ := h
  exact ⟨kvs, s _ _ e, r⟩
theorem RowAt.off (h : RowAt H n t a) {xs : List V} (c : H b = some (.lst xs)) : RowAt (upd H b o) n t a := by
  obtain ⟨kvs, e, r⟩ := h
  exact ⟨kvs, (upd_ne (fun q => by rw [q, c] at e; cases e)).trans e, r⟩
theorem RowsLsame (h : RowsL H as ts) (s : Same H H') : RowsL H' as ts := h.mono fun _ _ r => r.same s
theorem rowK_of {x y : Str} {c : Int} {b : Bool} : RowK [((Sum.inr "number" : Key), V.int n), (Sum.inr "tail", .str x), (Sum.inr "head", .str y), (Sum.inr "load", .int c), (Sum.inr "oneway", .bl b)] n ⟨x, y, c, b⟩ := ⟨rfl, rfl, rfl, rfl, rfl⟩
end
/-- two ends that differ -/
theorem head_ne {a r L : Int} (hL : 2 ≤ L) (a0 : 0 ≤ a) (a1 : a < L) (r0 : 0 ≤ r) (r1 : r < L - 1) : 0 ≤ (a + 1 + r) % L ∧ (a + 1 + r) % L < L ∧ (a + 1 + r) % L ≠ a := by
  refine ⟨Int.emod_nonneg _ (by omega), Int.emod_lt_of_pos _ (by omega), fun e => ?_⟩
  by_cases h : a + 1 + r < L
  · rw [Int.emod_eq_of_lt (by omega) h] at e; omega
  · have : (a + 1 + r) % L = a + 1 + r - L := by
      rw [← Int.sub_emod_right, Int.emod_eq_of_lt (by omega) (by omega)]
    omega
theorem pick_nm {xs : List Str} {i : Int} (h0 : 0 ≤ i) (h1 : i < (xs.length : Int)) : ∃ s, xs[i.toNat]? = some s ∧ s ∈ xs ∧ atI (xs.map V.str) i = some (.str s) := by
  obtain ⟨j, rfl⟩ := Int.eq_ofNat_of_zero_le h0
  have hj : j < xs.length := by omega
  exact ⟨xs[j], by simp [hj], List.getElem_mem hj, atI_nat (by rw [List.getElem?_map, List.getElem?_eq_getElem hj]; rfl)⟩
theorem nd_pick {xs : List Str} (h : xs.Nodup) {i j : Int} {x y : Str} (hi : 0 ≤ i) (hj : 0 ≤ j) (e1 : xs[i.toNat]? = some x) (e2 : xs[j.toNat]? = some y) (hij : j ≠ i) : x ≠ y := fun e => by
  subst e
  obtain ⟨h1, g1⟩ := List.getElem?_eq_some_iff.mp e1
  obtain ⟨h2, g2⟩ := List.getElem?_eq_some_iff.mp e2
  have := (List.getElem_inj h (h₀ := h1) (h₁ := h2)).mp (g1.trans g2.symm)
  omega
section
variable {P : Program} {w : World} {K : PySem.W.Frag} {mg : Str → Option Value} {base : Heap}
def sp_row (K : PySem.W.Frag) : Sp := fun vs H Q _ => ∃ (a b : Addr) (ns : List Int) (k : Int) (ps : List Str), vs = [.ref a, .int k, .ref b] ∧ 0 ≤ k ∧ k ≤ 100 ∧ SqL K H a (ns.map V.int) ∧ ns.length ≤ 64 ∧ H b = some (.lst (ps.map V.str)) ∧ 2 ≤ ps.length ∧ ps.length ≤ 16 ∧ ps.Nodup ∧
  ∀ r t H', Same H H' → H r = none → RowAt H' (2 * k + 2) t r → t.t ∈ ps → t.h ∈ ps → t.t ≠ t.h → 0 ≤ t.c → t.c ≤ most → Q (.ref r) H'
theorem ok_law_row (T : Tx K mg) : FnOk P w K mg base CX0 2 (He.ga K "_law_row") T.fd_law_row ["_law_script", "_law_k", "_law_names_here"] (sp_row K) := by
  refine T.F_law_row.ok sc_law_row (fun vs H Q E h => ?_) (fun cdv A outer s H vs Q E hr h => ?_)
  · obtain ⟨_, _, _, _, _, rfl, _⟩ := h
    rfl
  · obtain ⟨a, b, ns, k, ps, rfl, k0, k1, hS, hl, hb, l2, l16, nd, q⟩ := h
    have hu := hu_of hr
    refine ⟨_, PSs.nox (pss_cons (ps_set (i := 3) sc_law_row.nd rfl (Or.inl rfl) (pe_call (ok_law_number T) (hr.mono (by decide)) (by rfl) T.g_law_number T.F_law_number.kp T.k_law_number .nil pass0 (pa_cons (pv 0) (pa_cons (pv 1) pa_nil))))
      (pss_cons (ps_set (i := 4) sc_law_row.nd rfl (Or.inl rfl) (pe_op op_mod (pe_op op_fdiv (pv 3) pe_int) (pe_callB x_lenL (by rfl) T.b_len (by decide +kernel) (pa_cons (pv 2) pa_nil))))
      (pss_cons (ps_set (i := 5) sc_law_row.nd rfl (Or.inl rfl) (pe_op op_mod (pe_op op_add (pe_op op_add (pv 4) pe_int) (pe_op op_mod (pe_op op_fdiv (pv 3) pe_int) (pe_op op_sub (pe_callB x_lenL (by rfl) T.b_len (by decide +kernel) (pa_cons (pv 2) pa_nil)) pe_int))) (pe_callB x_lenL (by rfl) T.b_len (by decide +kernel) (pa_cons (pv 2) pa_nil))))
      (pss_cons (ps_set (i := 6) sc_law_row.nd rfl (Or.inl rfl) (pe_ix ix_list (pe_lst (pa_cons pe_int (pa_cons pe_int (pa_cons (pe_op op_mod (pe_op op_fdiv (pv 3) pe_int) pe_int) (pa_cons (pe_call (ok_law_great T) (hr.mono (by decide)) (by rfl) T.g_law_great T.F_law_great.kp T.k_law_great .nil pass0 (pa_cons (pv 0) (pa_cons (pv 1) pa_nil))) (pa_cons (pe_op op_pow pe_int pe_int) (pa_cons (pe_op op_add pe_int (pe_op op_mod (pe_op op_fdiv (pv 3) pe_int) pe_int)) pa_nil))))))) (pe_op op_mod (pe_op op_fdiv (pv 3) pe_int) pe_int) (fun _ _ => rfl)))
      (pss_cons (ps_set (i := 7) sc_law_row.nd rfl (Or.inl rfl) (pe_disp (pps_cons pe_str (pe_op op_add (pe_op op_mul pe_int (pv 1)) pe_int) (pps_cons pe_str (pe_ix ix_list (pv 2) (pv 4) (fun _ _ => rfl)) (pps_cons pe_str (pe_ix ix_list (pv 2) (pv 5) (fun _ _ => rfl)) (pps_cons pe_str (pv 6) pps_nil)))) (by rfl) (by rfl) (fun z => by cases z) (by decide)))
      (pss_cons (ps_dput hu (pv 7) pe_str (pe_cmpR op_eq (pe_op op_mod (pe_op op_fdiv (pv 3) pe_int) pe_int) pe_int (nomark _)) rfl)
      (pss_one (ps_ret (pv 7))))))))), ?_⟩
    walk_at "go"
    refine ⟨a, ns, k, rfl, k0, by omega, hS, hl, fun n n0 n1 => ?_⟩
    walk_at "go"
    refine i_lenL (SqL.of hb) ?_
    rw [List.length_map]
    have hL : (2 : Int) ≤ (ps.length : Int) := by omega
    refine i_rI ?_ (by omega)
    have a0 : 0 ≤ n / 7 % (ps.length : Int) := Int.emod_nonneg _ (by omega)
    have a1 : n / 7 % (ps.length : Int) < (ps.length : Int) := Int.emod_lt_of_pos _ (by omega)
    generalize n / 7 % (ps.length : Int) = tl0 at a0 a1 ⊢
    walk_at "go"
    refine i_lenL (SqL.of hb) ?_
    rw [List.length_map]
    walk_at "go"
    have r0 : 0 ≤ n / 100 % ((ps.length : Int) - 1) := Int.emod_nonneg _ (by omega)
    have r1 : n / 100 % ((ps.length : Int) - 1) < (ps.length : Int) - 1 := Int.emod_lt_of_pos _ (by omega)
    generalize n / 100 % ((ps.length : Int) - 1) = r at r0 r1 ⊢
    refine i_lenL (SqL.of hb) ?_
    rw [List.length_map]
    refine i_rI ?_ (by omega)
    obtain ⟨h0, h1, hne⟩ := head_ne hL a0 a1 r0 r1
    generalize (tl0 + 1 + r) % (ps.length : Int) = hd0 at h0 h1 hne ⊢
    walk_at "go"
    refine ⟨a, ns, k, rfl, k0, by omega, hS, hl, fun g H1 g0 g1 s1 => ?_⟩
    have hb1 := s1 _ _ hb
    walk_at "go"
    rw [pow60]
    refine ⟨by walk_at "sz", fun p hp => ?_⟩
    have s2 : Same H1 (upd H1 p (.lst [.int 0, .int 1, .int (n / 900 % 5), .int g, .int most, .int (1 + n / 900 % 3)])) := Same.new hp
    have ep : (upd H1 p (.lst [.int 0, .int 1, .int (n / 900 % 5), .int g, .int most, .int (1 + n / 900 % 3)])) p = some (.lst ([0, 1, n / 900 % 5, g, most, 1 + n / 900 % 3].map V.int)) := upd_same
    generalize upd H1 p (.lst [.int 0, .int 1, .int (n / 900 % 5), .int g, .int most, .int (1 + n / 900 % 3)]) = H2 at s2 ep ⊢
    walk_at "go"
    have hm : (1000 : Int) ≤ most := by decide +kernel
    have hi : n / 3000 % 6 = 0 ∨ n / 3000 % 6 = 1 ∨ n / 3000 % 6 = 2 ∨ n / 3000 % 6 = 3 ∨ n / 3000 % 6 = 4 ∨ n / 3000 % 6 = 5 := by omega
    obtain ⟨c, hc, c0, c1⟩ : ∃ c : Int, atI ([0, 1, n / 900 % 5, g, most, 1 + n / 900 % 3].map V.int) (n / 3000 % 6) = some (.int c) ∧ 0 ≤ c ∧ c ≤ most := by
      rcases hi with hi | hi | hi | hi | hi | hi <;> rw [hi]
      · exact ⟨_, rfl, by omega, by omega⟩
      · exact ⟨_, rfl, by omega, by omega⟩
      · exact ⟨_, rfl, by omega, by omega⟩
      · exact ⟨_, rfl, by omega, by omega⟩
      · exact ⟨_, rfl, by omega, by omega⟩
      · exact ⟨_, rfl, by omega, by omega⟩
    refine i_ixL (SqL.of ep) hc ?_
    have hb2 := s2 _ _ hb1
    walk_at "go"
    intro e he
    have s3 : Same H2 (upd H2 e (.dK [])) := Same.new he
    obtain ⟨x, x1, x2, x3⟩ := pick_nm a0 a1
    obtain ⟨y, y1, y2, y3⟩ := pick_nm h0 h1
    have hxy := nd_pick nd a0 h0 x1 y1 hne
    have hb3 := s3 _ _ hb2
    have e0 : (upd H2 e (.dK [])) e = some (.dK []) := upd_same
    generalize upd H2 e (.dK []) = H3 at s3 hb3 e0 ⊢
    apply i_pairs
    walk_at "go"
    apply i_pairs
    walk_at "go"
    refine i_ixL (SqL.of hb3) x3 ?_
    apply i_pairs
    walk_at "go"
    refine i_ixL (SqL.of hb3) y3 ?_
    apply i_pairs
    walk_at "go"
    apply i_pairs0
    refine ⟨e0, [(Sum.inr "number", .int (2 * k + 2)), (Sum.inr "tail", .str x), (Sum.inr "head", .str y), (Sum.inr "load", .int c)], rfl, (show 4 ≤ 15 by decide), ?_⟩
    have em : mergeK [] [((Sum.inr "number" : Key), V.int (2 * k + 2)), (Sum.inr "tail", .str x), (Sum.inr "head", .str y), (Sum.inr "load", .int c)] = [((Sum.inr "number" : Key), V.int (2 * k + 2)), (Sum.inr "tail", .str x), (Sum.inr "head", .str y), (Sum.inr "load", .int c)] := rfl
    rw [em]
    have eH2 : H2 e = none := he
    walk_at "go"
    refine i_kDPutS upd_same (by rw [sizeLine_eq]; simp) ?_
    rw [upd_upd]
    have ek : putK [((Sum.inr "number" : Key), V.int (2 * k + 2)), (Sum.inr "tail", .str x), (Sum.inr "head", .str y), (Sum.inr "load", .int c)] (Sum.inr "oneway") (.bl (decide (n / 20000 % 3 = 1))) = [((Sum.inr "number" : Key), V.int (2 * k + 2)), (Sum.inr "tail", .str x), (Sum.inr "head", .str y), (Sum.inr "load", .int c), (Sum.inr "oneway", .bl (decide (n / 20000 % 3 = 1)))] := rfl
    rw [ek]
    have s12 := s1.trans s2
    walk_at "go"
    exact q e ⟨x, y, c, decide (n / 20000 % 3 = 1)⟩ _ (s12.trans (Same.mut s3 he)) (s12.free he) ⟨_, upd_same, rowK_of⟩ x2 y2 hxy c0 c1
def sp_by_number : Sp := fun vs H Q _ => ∃ a n t, vs = [.ref a] ∧ RowAt H n t a ∧ Q (.int n) H
theorem ok_law_by_number (T : Tx K mg) : FnOk P w K mg base CX0 1 (He.ga K "_law_by_number") T.fd_law_by_number ["_law_row_here"] sp_by_number := by
  refine T.F_law_by_number.ok sc_law_by_number (fun vs H Q E h => ?_) (fun cdv A outer s H vs Q E hr h => ?_)
  · obtain ⟨_, _, _, rfl, _⟩ := h
    rfl
  · obtain ⟨a, n, t, rfl, ⟨kvs, e, r⟩, q⟩ := h
    have hu := hu_of hr
    refine ⟨_, PSs.nox (pss_one (ps_ret (pe_dget hu (pv 0) pe_str (fun _ _ => rfl)))), ?_⟩
    have r1 := r.number
    walk_at "go"
    refine i_kDGetS e r1 ?_
    walk_at "go"
    exact q
end
end K20

set_option Elab.async false
set_option linter.all false
set_option maxRecDepth 100000
set_option maxHeartbeats 4000000
namespace K20
open PySem PySem.Spec PyProof.Rows L2 HX WB
open TL (tl)
local macro_rules | `(tactic| walk_at "side") => `(tactic| first
  | assumption
  | rfl
  | (show (0 : Int) < _; omega)
  | (unfold CDiv; omega)
  | (unfold CMul; omega)
  | (unfold CPow; omega)
  | (rw [sizeLine_eq]; omega)
  | omega)
local macro_rules | `(tactic| walk_at "e") => `(tactic| first
  | ((with_reducible apply i_var); exact rfl)
  | (with_reducible apply i_c)
  | (with_reducible apply i_op)
  | (with_reducible apply i_un)
  | (with_reducible apply i_rI0)
  | ((with_reducible apply i_rI); (case c => walk_at "side"))
  | (with_reducible apply i_rGe)
  | (with_reducible apply i_rGt)
  | (with_reducible apply i_rU)
  | (with_reducible apply i_rEqI)
  | (with_reducible apply i_rNeI)
  | (with_reducible apply i_rEqS)
  | (with_reducible apply i_rNeS)
  | (with_reducible apply i_rEqB)
  | (with_reducible apply i_rNeB)
  | (with_reducible apply i_rIsN)
  | (with_reducible apply i_rNotN)
  | (with_reducible apply i_rInS)
  | (with_reducible apply i_rNotInS)
  | ((with_reducible apply i_catS); (case c => walk_at "side"))
  | (with_reducible apply i_tcb)
  | (with_reducible apply i_nil)
  | (with_reducible apply i_cons)
  | ((with_reducible apply i_lenS); (case c => walk_at "side"))
  | ((with_reducible apply i_lenL); assumption)
  | (with_reducible apply i_abs)
  | (with_reducible apply i_max2)
  | (with_reducible apply i_min2)
  | ((with_reducible apply i_strI); (case c => walk_at "side"))
  | (with_reducible apply i_intB)
  | (with_reducible apply i_test)
  | (with_reducible apply i_tB)
  | (with_reducible apply i_kB)
  | (with_reducible apply i_and)
  | (with_reducible apply i_or)
  | (with_reducible apply i_not)
  | (with_reducible apply i_if)
  | (with_reducible apply i_andV)
  | (with_reducible apply i_orV)
  | (with_reducible apply i_notV)
  | (with_reducible apply i_kAndV)
  | (with_reducible apply i_kOrV)
  | (with_reducible apply i_kNotV)
  | (with_reducible apply i_chain)
  | (with_reducible apply i_kChain)
  | (with_reducible apply i_drop)
  | (with_reducible apply i_ret)
  | (with_reducible apply i_retN)
  | (with_reducible apply i_ifS)
  | (with_reducible apply i_asg)
  | (with_reducible apply i_gName)
  | (with_reducible apply i_for)
  | (with_reducible apply i_lc)
  | (with_reducible apply i_iList)
  | (with_reducible apply i_iTup)
  | (with_reducible apply i_iStr)
  | (with_reducible apply i_kStrI)
  | (with_reducible apply i_lst)
  | (with_reducible apply i_tup)
  | (with_reducible apply i_call)
  | (with_reducible apply i_m1)
  | (with_reducible apply i_kStr)
  | (with_reducible apply i_bm)
  | (with_reducible apply i_bm0)
  | (with_reducible apply i_part)
  | (with_reducible apply i_kInt)
  | (with_reducible apply i_noPart)
  | (with_reducible apply i_sl)
  | (with_reducible apply i_range1)
  | (with_reducible apply i_range2)
  | ((with_reducible apply i_kRng1); (case c => walk_at "side"))
  | ((with_reducible apply i_kRng2); (case c => walk_at "side"))
  | (with_reducible apply i_gCons)
  | (with_reducible apply i_gNil)
  | (with_reducible apply i_gSub)
  | (with_reducible apply i_iZip)
  | (with_reducible apply i_yes)
  | (with_reducible apply i_ift)
  | (with_reducible apply i_iff)
  | (with_reducible apply i_nb))
local macro_rules | `(tactic| walk_at "go") => `(tactic| repeat (first | (with_reducible apply i_seq) | (with_reducible apply i_next) | walk_at "e"))
local macro_rules | `(tactic| walk_at "ge") => `(tactic| repeat walk_at "e")
local macro_rules | `(tactic| walk_at "sz") => `(tactic| first | decide | (rw [sizeLine_eq]; simp; done) | (rw [sizeLine_eq]; omega))
local macro_rules | `(tactic| walk_at "side") => `(tactic| (with_reducible exact WB.most_pos))
local macro_rules | `(tactic| walk_at "e") => `(tactic| first
  | ((with_reducible apply i_isT (b := true)); exact rfl)
  | ((with_reducible apply i_isT (b := false)); exact rfl)
  | (with_reducible apply i_fld)
  | ((with_reducible apply i_kFld); (case h => assumption); (case c1 => assumption); (case c2 => assumption); (case e => first | exact lk_number | exact lk_tail | exact lk_head | exact lk_load | exact lk_oneway | exact lk_points | exact lk_ties | exact lk_given))
  | (with_reducible apply i_sfld)
  | ((with_reducible apply i_kSFld); (case h => first | assumption | exact upd_same); (case c1 => assumption); (case c2 => assumption); (case e => exact Nat.le_of_ble_eq_true rfl))
  | (with_reducible apply i_methC)
  | (with_reducible apply i_make)
  | (with_reducible apply i_fldaug)
  | (with_reducible apply i_vals)
  | (with_reducible apply i_items)
  | (with_reducible apply i_dget)
  | (with_reducible apply i_dput)
  | (with_reducible apply i_din)
  | (with_reducible apply i_dnotin)
  | (with_reducible apply i_ddel)
  | (with_reducible apply i_dc)
  | (with_reducible apply i_enum)
  | (with_reducible apply i_ckw))
/-! ### rows sorted by their numbers -/
def sortN (ts : Ts) : Ts := ts.mergeSort fun x y => decide (x.1 ≤ y.1)
theorem sortN_rise {ts : Ts} (h : Rise ts) : sortN ts = ts := List.mergeSort_of_pairwise (h.imp fun {a b} c => by simpa using Int.le_of_lt c)
theorem sortN_perm (ts : Ts) : (sortN ts).Perm ts := List.mergeSort_perm _ _
theorem sortN_len (ts : Ts) : (sortN ts).length = ts.length := (sortN_perm ts).length_eq
theorem sortN_le (ts : Ts) : (sortN ts).Pairwise fun x y => x.1 ≤ y.1 := by
  have := List.pairwise_mergeSort (le := fun (x y : Int × Ti) => decide (x.1 ≤ y.1)) (fun a b c h1 h2 => by simp only [decide_eq_true_eq] at *; omega) (fun a b => by simp only [Bool.or_eq_true, decide_eq_true_eq]; omega) ts
  exact this.imp fun {a b} c => by simpa using c
def lastN (ts : Ts) : Int := (ts.getLast?.map (·.1)).getD 0
def numAt (H : Hp) (v : V) : Int := match v with
  | .ref r => match H r with
    | some (.dK kvs) => match valV kvs (Sum.inr "number") with
      | some (.int n) => n
      | _ => 0
    | _ => 0
  | _ => 0
theorem numAt_row {H : Hp} {n : Int} {t : Ti} {a : Addr} (h : RowAt H n t a) : numAt H (.ref a) = n := by
  obtain ⟨kvs, e, r⟩ := h
  show (match H a with
    | some (.dK kvs) => match valV kvs (Sum.inr "number") with
      | some (.int n) => n
      | _ => 0
    | _ => 0) = n
  rw [e]
  show (match valV kvs (Sum.inr "number") with
      | some (.int n) => n
      | _ => 0) = n
  rw [r.number]
theorem rows_sort {H : Hp} {as : List Addr} {ts : Ts} (h : RowsL H as ts) : ∃ bs : List Addr, byKey (numAt H) (as.map V.ref) = bs.map V.ref ∧ RowsL H bs (sortN ts) := by
  have hl := Two.len h
  have hz : ∀ z ∈ as.zip ts, RowAt H z.2.1 z.2.2 z.1 := by
    clear hl
    induction h with
    | nil => simp
    | cons r _ ih =>
      intro z hz
      rw [List.zip_cons_cons] at hz
      rcases List.mem_cons.mp hz with rfl | hz
      · exact r
      · exact ih z hz
  have e1 : as.map V.ref = (as.zip ts).map fun z => V.ref z.1 := by
    have := List.map_fst_zip (l₁ := as) (l₂ := ts) (by omega)
    conv => lhs; rw [← this]
    rw [List.map_map]
    rfl
  have e2 : ts = (as.zip ts).map (·.2) := (List.map_snd_zip (l₁ := as) (l₂ := ts) (by omega)).symm
  have k1 : byKey (numAt H) (as.map V.ref) = ((as.zip ts).mergeSort fun x y => decide (x.2.1 ≤ y.2.1)).map fun z => V.ref z.1 := by
    unfold byKey
    rw [e1]
    refine (List.map_mergeSort fun a ha b hb => ?_).symm
    rw [numAt_row (hz a ha), numAt_row (hz b hb)]
  have k2 : sortN ts = ((as.zip ts).mergeSort fun x y => decide (x.2.1 ≤ y.2.1)).map (·.2) := by
    unfold sortN
    conv => lhs; rw [e2]
    exact (List.map_mergeSort (f := fun x : Addr × Int × Ti => x.2) (r := fun x y => decide (x.2.1 ≤ y.2.1)) (s := fun x y => decide (x.1 ≤ y.1)) (l := as.zip ts) fun a _ b _ => rfl).symm
  have hz' : ∀ z ∈ (as.zip ts).mergeSort fun x y => decide (x.2.1 ≤ y.2.1), RowAt H z.2.1 z.2.2 z.1 := fun z h => hz z ((List.mergeSort_perm _ _).mem_iff.mp h)
  refine ⟨((as.zip ts).mergeSort fun x y => decide (x.2.1 ≤ y.2.1)).map (·.1), by rw [k1, List.map_map]; rfl, ?_⟩
  rw [k2]
  generalize (as.zip ts).mergeSort (fun x y => decide (x.2.1 ≤ y.2.1)) = zs at hz'
  clear k1 k2 e1 e2 hz hl h
  induction zs with
  | nil => exact .nil
  | cons z r ih => exact .cons (hz' z (List.mem_cons_self ..)) (ih fun y hy => hz' y (List.mem_cons_of_mem _ hy))
def kindB (o : Bool) : Str := if o = true then "way " else "tie "
theorem kindB_len (o : Bool) : (kindB o).length = 4 := by cases o <;> decide +kernel
theorem tieR_text (n : Int) (t : Ti) : kindB t.o ++ nS n ++ " " ++ (t.t ++ " " ++ t.h) ++ " " ++ nS t.c = (Ln.tie n t).text := by
  refine TL.ext_tl ?_
  unfold Ln.text Ln.words
  rw [TL.join_eq, TL.tl_join]
  simp only [TL.tl_append, List.map_cons, List.map_nil, TL.joinL]
  have e : tl (kindB t.o) = tl (kindS t.o) ++ tl " " := by cases t.o <;> decide +kernel
  rw [e]
  simp only [List.append_assoc]
theorem ptR_text (x : Str) : "point " ++ x = (Ln.pt x).text := by
  rw [← pt_text]
  refine TL.ext_tl ?_
  simp only [TL.tl_append]
  rfl
theorem gvR_text (g : Int) : "given " ++ nS g = (Ln.gv g).text := by
  rw [← gv_text]
  refine TL.ext_tl ?_
  simp only [TL.tl_append]
  rfl
theorem if_tC {b : Bool} {x y : V} {σ : L2.St} {H : Hp} {Q : VK} (q : Q (if b = true then x else y) H) : if b = true then tC x σ H Q else tC y σ H Q := by
  cases b
  · exact q
  · exact q
theorem kindB_if (o : Bool) : (if o = true then V.str (Str.ofString "way ") else V.str (Str.ofString "tie ")) = V.str (kindB o) := by cases o <;> rfl
section
variable {P : Program} {w : World} {K : PySem.W.Frag} {mg : Str → Option Value} {base : Heap}
def sp_web (K : PySem.W.Frag) : Sp := fun vs H Q _ => ∃ a b rs ts w, vs = [.ref a, .ref b] ∧ H a = some (.lst (w.ps.map V.str)) ∧ H b = some (.lst ((rs : List Addr).map V.ref)) ∧ RowsL H rs ts ∧ w.ts = sortN ts ∧ w.g = lastN (sortN ts) ∧ Wok w ∧ w.g ≤ most ∧
  ∀ p l d H', Same H H' → H p = none → H l = none → H d = none → WebAt K H' p l d w → Q (.ref p) H'
theorem ok_law_web (T : Tx K mg) : FnOk P w K mg base CX0 10 (He.ga K "_law_web") T.fd_law_web ["_law_names_here", "_law_rows"] (sp_web K) := by
  refine T.F_law_web.ok sc_law_web (fun vs H Q E h => ?_) (fun cdv A outer s H vs Q E hr h => ?_)
  · obtain ⟨_, _, _, _, _, rfl, _⟩ := h
    rfl
  · obtain ⟨a, b, rs, ts, w, rfl, ha, hb, hrs, wt, wg, ok, hg, q⟩ := h
    have hu := hu_of hr
    refine ⟨_, PSs.nox (pss_cons (ps_setLc (i := 2) (own := [("_law_name", 7)]) (by rfl) sc_law_web.nd rfl rfl (sw_true rfl rfl rfl (by decide +kernel)) (pi_list (pv 0)) (blkOk_by (own := [("_law_name", 7)]) (N := N_law_web) (sc := defScope s_law_web) (by decide +kernel)) (fun _ _ _ _ _ => (pg_name (i := 7) sc_law_web.nd rfl (Or.inl rfl))) (fun _ _ _ _ _ => pts_nil) (fun _ _ _ _ _ => (pe_op x_catS pe_str (pv 7))))
      (pss_cons (ps_set (i := 3) sc_law_web.nd rfl (Or.inl rfl) pe_int)
      (pss_cons (ps_for PassesOwn.never rfl (pi_list (pe_callBK (cr_sortKeyF (ok_law_by_number T) (hr.mono (by decide)) T.k_law_by_number hr.units) (by rfl) T.b_sorted (by decide +kernel) (pa_cons (pv 1) pa_nil) (pk_cons (pe_glob (v := .ref (He.ga K "_law_by_number")) rfl T.g_law_by_number rfl) pk_nil))) (pg_name (i := 4) sc_law_web.nd rfl (Or.inl rfl))
      (pss_cons (ps_set (i := 5) sc_law_web.nd rfl (Or.inl rfl) (pe_ifExp (pt_val (pe_dget hu (pv 4) pe_str (fun _ _ => rfl))) pe_str pe_str))
      (pss_cons (ps_set (i := 3) sc_law_web.nd rfl (Or.inl rfl) (pe_dget hu (pv 4) pe_str (fun _ _ => rfl)))
      (pss_cons (ps_set (i := 6) sc_law_web.nd rfl (Or.inl rfl) (pe_op x_catS (pe_op x_catS (pe_dget hu (pv 4) pe_str (fun _ _ => rfl)) pe_str) (pe_dget hu (pv 4) pe_str (fun _ _ => rfl))))
      (pss_one (ps_expr (pe_bm PySem.F.plainAttrs_list PySem.F.slot_list_append PySem.F.type_list_append mt_append (pv 2) (pa_cons (pe_op x_catS (pe_op x_catS (pe_op x_catS (pe_op x_catS (pe_op x_catS (pv 5) (pe_callTy x_strI (by rfl) T.b_str (by decide +kernel) (pa_cons (pv 3) pa_nil))) pe_str) (pv 6)) pe_str) (pe_callTy x_strI (by rfl) T.b_str (by decide +kernel) (pa_cons (pe_dget hu (pv 4) pe_str (fun _ _ => rfl)) pa_nil))) pa_nil))))))))
      (pss_one (ps_ret (pe_call (ok_web_of T) (hr.mono (by decide)) (by rfl) T.g_web_of T.F_web_of.kp T.k_web_of .nil pass0 (pa_cons (pe_op op_cat (pv 2) (pe_lst (pa_cons (pe_op x_catS pe_str (pe_callTy x_strI (by rfl) T.b_str (by decide +kernel) (pa_cons (pv 3) pa_nil))) pa_nil))) pa_nil))))))), ?_⟩
    have l16 := ok.le
    have l48 := ok.tl
    have g0 := ok.g0
    have hm := most_lt
    rw [wt] at l48
    walk_at "go"
    refine i_kListI (SqL.of ha) ?_
    intro D hD
    refine lc_it walk_list (fun m H' => Same H H' ∧ H' D = some (.lst ((ptsT (w.ps.take m)).map V.str)))
      ⟨Same.new hD, by rw [upd_same]; rfl⟩ (fun i H' _ h => SqL.of (h.1 _ _ ha)) ?_ ?_
    · rintro i v H2 H3 hi ⟨s2, eD⟩ ⟨rfl, hv⟩
      rw [List.length_map] at hi
      rw [List.getElem?_map, List.getElem?_eq_getElem hi] at hv
      cases hv
      have lx := nm_len (ok.nm _ (List.getElem_mem hi))
      walk_at "go"
      refine ⟨rfl, ?_⟩
      walk_at "go"
      refine i_catS ?_ (by rw [sizeLine_eq, len_p]; omega)
      refine ⟨_, eD, ?_, Same.mut s2 hD, ?_⟩
      · unfold ptsT
        rw [List.length_map, List.length_map, List.length_take, sizeLine_eq]; omega
      · rw [upd_same, List.take_add_one, List.getElem?_eq_getElem hi]
        unfold ptsT
        rw [List.map_append, List.map_append, ptR_text]
        rfl
    · rintro H1 ⟨s1, eD⟩
      rw [List.length_map, List.take_length] at eD
      have hrs1 := RowsLsame hrs s1
      have hb1 := s1 _ _ hb
      walk_at "go"
      refine ⟨b, rs.map V.ref, numAt H1, rfl, rfl, SqL.of hb1, fun y hy => ?_, fun z hz => ?_⟩
      · obtain ⟨r, hr', rfl⟩ := List.mem_map.mp hy
        obtain ⟨i, hi⟩ := List.mem_iff_getElem?.mp hr'
        obtain ⟨⟨n, t⟩, _, ra⟩ := Two.get hrs1 hi
        exact ⟨r, n, t, rfl, ra, by rw [numAt_row ra], rfl⟩
      · obtain ⟨bs, eb, hbs⟩ := rows_sort hrs1
        rw [eb]
        have s2 : Same H1 (upd H1 z (.lst (bs.map V.ref))) := Same.new hz
        have ez : (upd H1 z (.lst (bs.map V.ref))) z = some (.lst (bs.map V.ref)) := upd_same
        have hbs2 := RowsLsame hbs s2
        have eD2 := s2 _ _ eD
        generalize upd H1 z (.lst (bs.map V.ref)) = H2 at s2 ez hbs2 eD2 ⊢
        have hlb := Two.len hbs
        have s12 := s1.trans s2
        have fD : H D = none := hD
        walk_at "go"
        refine i_kListI (SqL.of ez) ?_
        rw [← wt] at hlb l48 hbs2
        have nzD : z ≠ D := fun e => by rw [e, eD] at hz; cases hz
        refine for_it walk_list (fun i σ H' => (∀ c o, c ≠ D → H2 c = some o → H' c = some o) ∧ H' D = some (.lst ((ptsT w.ps ++ tsT (w.ts.take i)).map V.str)) ∧ ∃ v4 v5 v6, σ = [some (.ref a), some (.ref b), some (.ref D), some (.int (lastN (w.ts.take i))), v4, v5, v6, none])
          ⟨fun _ _ _ e => e, by rw [eD2]; simp [tsT], none, none, none, rfl⟩ (fun i σ H' _ h => SqL.of (h.1 _ _ nzD ez)) ?_ ?_
        · rintro i v σ H3 H4 hi ⟨kp, eD3, v4, v5, v6, rfl⟩ ⟨rfl, hv⟩
          rw [List.length_map] at hi
          rw [List.getElem?_map, List.getElem?_eq_getElem hi] at hv
          cases hv
          obtain ⟨⟨n, t⟩, et, kvs, ek, rk⟩ := Two.get hbs2 (List.getElem?_eq_getElem hi)
          have mt := List.mem_of_getElem? et
          have o := ok.ok n t mt
          have o1 := o.lo
          have o2 := o.hi
          have o3 := o.c0
          have o4 := o.c1
          have x1 := nm_len (ok.nm _ o.t)
          have x2 := nm_len (ok.nm _ o.h)
          have z1 := nS_len (n := n) (by omega) (by omega)
          have z2 := nS_len o3 (by omega)
          have ek3 := kp _ _ (fun q => by rw [q, eD2] at ek; cases ek) ek
          have k1 : valV kvs (Sum.inr "number") = some (.int n) := rk.number
          have k2 : valV kvs (Sum.inr "tail") = some (.str t.t) := rk.tail
          have k3 : valV kvs (Sum.inr "head") = some (.str t.h) := rk.head
          have k4 : valV kvs (Sum.inr "load") = some (.int t.c) := rk.load
          have k5 : valV kvs (Sum.inr "oneway") = some (.bl t.o) := rk.oneway
          have tk : w.ts.take (i + 1) = w.ts.take i ++ [(n, t)] := by rw [List.take_add_one, et]; rfl
          have lt : lastN (w.ts.take (i + 1)) = n := by
            rw [tk]
            unfold lastN
            rw [List.getLast?_append, List.getLast?_singleton]
            rfl
          have kb := kindB_len t.o
          rw [lt]
          walk_at "go"
          refine i_kDGetS ek3 k5 ?_
          walk_at "go"
          refine if_tC ?_
          show gName 5 (if t.o = true then V.str (Str.ofString "way ") else V.str (Str.ofString "tie ")) _ _ _
          rw [kindB_if]
          walk_at "go"
          refine i_kDGetS ek3 k1 ?_
          walk_at "go"
          refine i_kDGetS ek3 k2 ?_
          walk_at "go"
          refine i_catS ?_ (by rw [sizeLine_eq, len_b]; omega)
          walk_at "go"
          refine i_kDGetS ek3 k3 ?_
          refine i_catS ?_ (by rw [sizeLine_eq, TX.len_app, len_b]; omega)
          walk_at "go"
          refine i_kTyL (SqL.of eD3) ?_
          walk_at "go"
          refine i_strI ?_ (nS_log (by omega) (by omega))
          refine i_catS ?_ (by rw [sizeLine_eq]; show (kindB t.o).length + (nS n).length ≤ _; omega)
          walk_at "go"
          refine i_catS ?_ (by rw [sizeLine_eq, TX.len_app, len_b]; show (kindB t.o).length + (nS n).length + 1 ≤ _; omega)
          walk_at "go"
          refine i_catS ?_ (by rw [sizeLine_eq, TX.len_app, TX.len_app, TX.len_app, TX.len_app, len_b]; show (kindB t.o).length + (nS n).length + 1 + _ ≤ _; omega)
          walk_at "go"
          refine i_catS ?_ (by rw [sizeLine_eq, TX.len_app, TX.len_app, TX.len_app, TX.len_app, TX.len_app, len_b]; show (kindB t.o).length + (nS n).length + 1 + _ + 1 ≤ _; omega)
          walk_at "go"
          refine i_kDGetS ek3 k4 ?_
          walk_at "go"
          refine i_strI ?_ (nS_log (by omega) (by omega))
          refine i_catS ?_ (by rw [sizeLine_eq, TX.len_app, TX.len_app, TX.len_app, TX.len_app, TX.len_app, TX.len_app, len_b]; show (kindB t.o).length + (nS n).length + 1 + _ + 1 + (nS t.c).length ≤ _; omega)
          have et2 : kindB t.o ++ Str.ofString (toString n) ++ " " ++ (t.t ++ " " ++ t.h) ++ " " ++ Str.ofString (toString t.c) = (Ln.tie n t).text := tieR_text n t
          have et3 := congrArg V.str et2
          walk_at "go"
          refine i_append eD3 ?_ ?_
          · walk_at "go"
            refine ⟨fun c o hc e => (upd_ne hc).trans (kp c o hc e), ?_, _, _, _, rfl⟩
            rw [upd_same, tk]
            unfold tsT
            rw [List.map_append, List.map_append, List.map_append, List.map_append, List.append_assoc, List.map_cons, List.map_nil, List.map_cons, List.map_nil]
            exact congrArg (fun z => some (HO.lst (_ ++ (_ ++ [z])))) et3
          · unfold ptsT tsT
            rw [List.length_map, List.length_append, List.length_map, List.length_map, List.length_take, sizeLine_eq]; omega
        · rintro σ H3 ⟨kp, eD3, v4, v5, v6, rfl⟩
          rw [List.length_map, hlb, List.take_length] at eD3 ⊢
          rw [← wt] at wg
          rw [← wg]
          have zg := nS_len g0 (by omega)
          walk_at "go"
          refine i_strI ?_ (nS_log g0 (by omega))
          refine i_catS ?_ (by rw [sizeLine_eq, len_g]; show 6 + (nS w.g).length ≤ _; omega)
          refine ⟨by walk_at "sz", fun c hc => ?_⟩
          have eg : V.str ("given " ++ Str.ofString (toString w.g)) = V.str (Ln.gv w.g).text := congrArg V.str (gvR_text w.g)
          rw [eg]
          have s4 : Same H3 (upd H3 c (.lst [.str (Ln.gv w.g).text])) := Same.new hc
          have ec : (upd H3 c (.lst [.str (Ln.gv w.g).text])) c = some (.lst [.str (Ln.gv w.g).text]) := upd_same
          have eD4 := s4 _ _ eD3
          generalize upd H3 c (.lst [.str (Ln.gv w.g).text]) = H4 at s4 ec eD4 ⊢
          have p1 : (ptsT w.ps).length = w.ps.length := List.length_map _
          have p2 : (tsT w.ts).length = w.ts.length := List.length_map _
          have q1 : w.ts.length = (sortN ts).length := by rw [wt]
          walk_at "go"
          refine i_cat eD4 ec (by rw [List.length_map, List.length_append, p1, p2, sizeLine_eq]; simp; omega) fun f hf => ?_
          have ex : (ptsT w.ps ++ tsT w.ts).map V.str ++ [V.str (Ln.gv w.g).text] = (textsOf w).map V.str := by
            rw [textsOf_eq]
            simp only [List.map_append, List.map_cons, List.map_nil]
          rw [ex]
          have sH : Same H H4 := fun x o e => s4 _ _ (kp _ _ (fun q => by rw [q, fD] at e; cases e) (s12 _ _ e))
          have s5 := sH.trans (Same.new hf (o := .lst ((textsOf w).map V.str)))
          walk_at "go"
          refine ⟨f, w, rfl, upd_same, ok, hg, fun p l d H' s6 h1 h2 h3 hw => ?_⟩
          walk_at "go"
          exact q p l d H' (s5.trans s6) (s5.free h1) (s5.free h2) (s5.free h3) hw
end
end K20

set_option Elab.async false
set_option linter.all false
set_option maxRecDepth 100000
set_option maxHeartbeats 4000000
namespace K20
open PySem PySem.Spec PyProof.Rows L2 HX WB
open TL (tl)
local macro_rules | `(tactic| walk_at "side") => `(tactic| first
  | assumption
  | rfl
  | (show (0 : Int) < _; omega)
  | (unfold CDiv; omega)
  | (unfold CMul; omega)
  | (unfold CPow; omega)
  | (rw [sizeLine_eq]; omega)
  | omega)
local macro_rules | `(tactic| walk_at "e") => `(tactic| first
  | ((with_reducible apply i_var); exact rfl)
  | (with_reducible apply i_c)
  | (with_reducible apply i_op)
  | (with_reducible apply i_un)
  | (with_reducible apply i_rI0)
  | ((with_reducible apply i_rI); (case c => walk_at "side"))
  | (with_reducible apply i_rGe)
  | (with_reducible apply i_rGt)
  | (with_reducible apply i_rU)
  | (with_reducible apply i_rEqI)
  | (with_reducible apply i_rNeI)
  | (with_reducible apply i_rEqS)
  | (with_reducible apply i_rNeS)
  | (with_reducible apply i_rEqB)
  | (with_reducible apply i_rNeB)
  | (with_reducible apply i_rIsN)
  | (with_reducible apply i_rNotN)
  | (with_reducible apply i_rInS)
  | (with_reducible apply i_rNotInS)
  | ((with_reducible apply i_catS); (case c => walk_at "side"))
  | (with_reducible apply i_tcb)
  | (with_reducible apply i_nil)
  | (with_reducible apply i_cons)
  | ((with_reducible apply i_lenS); (case c => walk_at "side"))
  | ((with_reducible apply i_lenL); assumption)
  | (with_reducible apply i_abs)
  | (with_reducible apply i_max2)
  | (with_reducible apply i_min2)
  | ((with_reducible apply i_strI); (case c => walk_at "side"))
  | (with_reducible apply i_intB)
  | (with_reducible apply i_test)
  | (with_reducible apply i_tB)
  | (with_reducible apply i_kB)
  | (with_reducible apply i_and)
  | (with_reducible apply i_or)
  | (with_reducible apply i_not)
  | (with_reducible apply i_if)
  | (with_reducible apply i_andV)
  | (with_reducible apply i_orV)
  | (with_reducible apply i_notV)
  | (with_reducible apply i_kAndV)
  | (with_reducible apply i_kOrV)
  | (with_reducible apply i_kNotV)
  | (with_reducible apply i_chain)
  | (with_reducible apply i_kChain)
  | (with_reducible apply i_drop)
  | (with_reducible apply i_ret)
  | (with_reducible apply i_retN)
  | (with_reducible apply i_ifS)
  | (with_reducible apply i_asg)
  | (with_reducible apply i_gName)
  | (with_reducible apply i_for)
  | (with_reducible apply i_lc)
  | (with_reducible apply i_iList)
  | (with_reducible apply i_iTup)
  | (with_reducible apply i_iStr)
  | (with_reducible apply i_kStrI)
  | (with_reducible apply i_lst)
  | (with_reducible apply i_tup)
  | (with_reducible apply i_call)
  | (with_reducible apply i_m1)
  | (with_reducible apply i_kStr)
  | (with_reducible apply i_bm)
  | (with_reducible apply i_bm0)
  | (with_reducible apply i_part)
  | (with_reducible apply i_kInt)
  | (with_reducible apply i_noPart)
  | (with_reducible apply i_sl)
  | (with_reducible apply i_range1)
  | (with_reducible apply i_range2)
  | ((with_reducible apply i_kRng1); (case c => walk_at "side"))
  | ((with_reducible apply i_kRng2); (case c => walk_at "side"))
  | (with_reducible apply i_gCons)
  | (with_reducible apply i_gNil)
  | (with_reducible apply i_gSub)
  | (with_reducible apply i_iZip)
  | (with_reducible apply i_yes)
  | (with_reducible apply i_ift)
  | (with_reducible apply i_iff)
  | (with_reducible apply i_nb))
local macro_rules | `(tactic| walk_at "go") => `(tactic| repeat (first | (with_reducible apply i_seq) | (with_reducible apply i_next) | walk_at "e"))
local macro_rules | `(tactic| walk_at "ge") => `(tactic| repeat walk_at "e")
local macro_rules | `(tactic| walk_at "sz") => `(tactic| first | decide | (rw [sizeLine_eq]; simp; done) | (rw [sizeLine_eq]; omega))
local macro_rules | `(tactic| walk_at "side") => `(tactic| (with_reducible exact WB.most_pos))
local macro_rules | `(tactic| walk_at "e") => `(tactic| first
  | ((with_reducible apply i_isT (b := true)); exact rfl)
  | ((with_reducible apply i_isT (b := false)); exact rfl)
  | (with_reducible apply i_fld)
  | ((with_reducible apply i_kFld); (case h => assumption); (case c1 => assumption); (case c2 => assumption); (case e => first | exact lk_number | exact lk_tail | exact lk_head | exact lk_load | exact lk_oneway | exact lk_points | exact lk_ties | exact lk_given))
  | (with_reducible apply i_sfld)
  | ((with_reducible apply i_kSFld); (case h => first | assumption | exact upd_same); (case c1 => assumption); (case c2 => assumption); (case e => exact Nat.le_of_ble_eq_true rfl))
  | (with_reducible apply i_methC)
  | (with_reducible apply i_make)
  | (with_reducible apply i_fldaug)
  | (with_reducible apply i_vals)
  | (with_reducible apply i_items)
  | (with_reducible apply i_dget)
  | (with_reducible apply i_dput)
  | (with_reducible apply i_din)
  | (with_reducible apply i_dnotin)
  | (with_reducible apply i_ddel)
  | (with_reducible apply i_dc)
  | (with_reducible apply i_enum)
  | (with_reducible apply i_ckw))
/-! ### a piece beside -/
def zs3 : List Str := ["zzza", "zzzb", "zzzc"]
theorem noz3 {x : Str} (h : NoZ x) : x ∉ zs3 := fun m => by
  have e : tl x = 122 :: 122 :: 122 :: (tl x).drop 3 := by
    simp only [zs3, List.mem_cons, List.not_mem_nil, or_false] at m
    rcases m with rfl | rfl | rfl <;> decide +kernel
  exact h _ e
def mores : Ts := [(1, ⟨"zzza", "zzzb", 3, false⟩), (3, ⟨"zzzc", "zzzb", 0, true⟩)]
theorem zs3_nm : ∀ x ∈ zs3, isNm x = true := by
  intro x h
  simp only [zs3, List.mem_cons, List.not_mem_nil, or_false] at h
  rcases h with rfl | rfl | rfl <;> decide +kernel
theorem rise_last {ts : Ts} (h : Rise ts) {n : Int} {t : Ti} (m : (n, t) ∈ ts) : n ≤ lastN ts := by
  unfold lastN
  rcases List.eq_nil_or_concat ts with rfl | ⟨r, x, rfl⟩
  · simp at m
  · first | rw [List.concat_eq_append] at m h ⊢ | skip
    rw [List.getLast?_append, List.getLast?_singleton]
    show n ≤ x.1
    rcases List.mem_append.mp m with m | m
    · have := (List.pairwise_append.mp h).2.2 _ m x (by simp)
      exact Int.le_of_lt this
    · rw [← List.mem_singleton.mp m]
      exact Int.le_refl _
/-- numbers of the law's own rows: even ones -/
def Even (ts : Ts) : Prop := ∀ n t, (n, t) ∈ ts → n % 2 = 0
theorem mem_mores {n : Int} {t : Ti} (h : (n, t) ∈ mores) : (n = 1 ∧ t = ⟨"zzza", "zzzb", 3, false⟩) ∨ (n = 3 ∧ t = ⟨"zzzc", "zzzb", 0, true⟩) := by
  simp only [mores, List.mem_cons, List.not_mem_nil, or_false, Prod.mk.injEq] at h
  exact h
theorem beside_rise {ts : Ts} (h : Rise ts) (e : Even ts) : Rise (sortN (ts ++ mores)) := by
  have nd : ((sortN (ts ++ mores)).map (·.1)).Nodup := by
    refine ((sortN_perm _).map _).nodup_iff.mpr ?_
    rw [List.map_append]
    refine List.nodup_append.mpr ⟨List.pairwise_map.mpr (h.imp fun {a b} c e => by omega), by decide, fun x hx y hy exy => ?_⟩
    obtain ⟨⟨n, t⟩, m, rfl⟩ := List.mem_map.mp hx
    have := e n t m
    simp only [mores, List.map_cons, List.map_nil, List.mem_cons, List.not_mem_nil, or_false] at hy
    rcases hy with hy | hy <;> (have : n = _ := exy.trans hy; omega)
  have nd2 : (sortN (ts ++ mores)).Pairwise fun x y => x.1 ≠ y.1 := List.pairwise_map.mp nd
  exact ((sortN_le (ts ++ mores)).and nd2).imp fun {a b} c => by
    obtain ⟨c1, c2⟩ := c
    omega
/-- the web beside -/
theorem beside_ok {w : Wb} {qs : List Str} (ok : Wok w) (hg : w.g ≤ most) (e : Even w.ts) (nz : ∀ x ∈ w.ps, NoZ x) (l12 : w.ps.length ≤ 13) (l40 : w.ts.length ≤ 40) (hp : qs.Perm (w.ps ++ zs3)) (hf : qs.filter (fun x => decide (x ∈ w.ps)) = w.ps) :
    Wok ⟨qs, sortN (w.ts ++ mores), lastN (sortN (w.ts ++ mores))⟩ ∧ lastN (sortN (w.ts ++ mores)) ≤ most ∧ Beside w ⟨qs, sortN (w.ts ++ mores), lastN (sortN (w.ts ++ mores))⟩ := by
  have rise := beside_rise ok.rise e
  have mem : ∀ n t, (n, t) ∈ sortN (w.ts ++ mores) ↔ (n, t) ∈ w.ts ∨ (n, t) ∈ mores := fun n t => by
    rw [(sortN_perm _).mem_iff, List.mem_append]
  have pm : ∀ x, x ∈ qs ↔ x ∈ w.ps ∨ x ∈ zs3 := fun x => by rw [hp.mem_iff, List.mem_append]
  have z3 : ∀ x ∈ w.ps, x ∉ zs3 := fun x hx => noz3 (nz x hx)
  have m1 : (3 : Int) ≤ most := by decide +kernel
  have bound : ∀ n t, (n, t) ∈ sortN (w.ts ++ mores) → 1 ≤ n ∧ n ≤ most := fun n t h => by
    rcases (mem n t).mp h with h | h
    · have := ok.ok n t h
      have h1 := this.lo
      have h2 := this.hi
      omega
    · rcases mem_mores h with ⟨rfl, _⟩ | ⟨rfl, _⟩ <;> omega
  have lst : 0 ≤ lastN (sortN (w.ts ++ mores)) ∧ lastN (sortN (w.ts ++ mores)) ≤ most := by
    unfold lastN
    cases q : (sortN (w.ts ++ mores)).getLast? with
    | none => exact ⟨by decide, by show (0 : Int) ≤ most; omega⟩
    | some x =>
      obtain ⟨n, t⟩ := x
      have := bound n t (List.mem_of_getLast? q)
      show 0 ≤ n ∧ n ≤ most
      omega
  have za : ("zzza" : Str) ∈ zs3 := by simp [zs3]
  have zb : ("zzzb" : Str) ∈ zs3 := by simp [zs3]
  have zc : ("zzzc" : Str) ∈ zs3 := by simp [zs3]
  refine ⟨⟨?_, ?_, ?_, ?_, rise, fun n t h => ?_, lst.1⟩, lst.2, ⟨?_, fun n t h hn => ?_, hf⟩⟩
  · refine hp.nodup_iff.mpr (List.nodup_append.mpr ⟨ok.nd, by decide +kernel, fun x hx y hy exy => z3 x hx (exy ▸ hy)⟩)
  · intro x hx
    rcases (pm x).mp hx with hx | hx
    · exact ok.nm x hx
    · exact zs3_nm x hx
  · show qs.length ≤ 16
    rw [hp.length_eq, List.length_append]
    show _ + 3 ≤ 16
    omega
  · show (sortN (w.ts ++ mores)).length ≤ 48
    rw [sortN_len, List.length_append]
    show _ + 2 ≤ 48
    omega
  · have hi := rise_last rise h
    have lo := (bound n t h).1
    rcases (mem n t).mp h with h | h
    · have o := ok.ok n t h
      exact ⟨lo, hi, (pm _).mpr (.inl o.t), (pm _).mpr (.inl o.h), o.ne, o.c0, o.c1⟩
    · rcases mem_mores h with ⟨rfl, rfl⟩ | ⟨rfl, rfl⟩
      · exact ⟨lo, hi, (pm _).mpr (.inr za), (pm _).mpr (.inr zb), by decide +kernel, by decide, by show (3 : Int) ≤ most; omega⟩
      · exact ⟨lo, hi, (pm _).mpr (.inr zc), (pm _).mpr (.inr zb), by decide +kernel, by decide, by show (0 : Int) ≤ most; omega⟩
  · refine rise_ext (rise.filter _) ok.rise fun ⟨n, t⟩ => ?_
    show (n, t) ∈ (sortN (w.ts ++ mores)).filter _ ↔ _
    rw [List.mem_filter, mem]
    constructor
    · rintro ⟨h | h, hd⟩
      · exact h
      · have hd : t.t ∈ w.ps := by simpa using hd
        rcases mem_mores h with ⟨_, rfl⟩ | ⟨_, rfl⟩
        · exact absurd za (z3 _ hd)
        · exact absurd zc (z3 _ hd)
    · exact fun h => ⟨.inl h, by simpa using (ok.ok n t h).t⟩
  · rcases (mem n t).mp h with h | h
    · exact absurd (ok.ok n t h).t hn
    · rcases mem_mores h with ⟨_, rfl⟩ | ⟨_, rfl⟩
      · exact fun hd => z3 _ hd zb
      · exact fun hd => z3 _ hd zb
section
variable {P : Program} {w : World} {K : PySem.W.Frag} {mg : Str → Option Value} {base : Heap}
def sp_beside (K : PySem.W.Frag) : Sp := fun vs H Q _ => ∃ s a b ns rs w, vs = [.ref s, .ref a, .ref b] ∧ SqL K H s ((ns : List Int).map V.int) ∧ ns.length ≤ 64 ∧ H a = some (.lst (w.ps.map V.str)) ∧ H b = some (.lst ((rs : List Addr).map V.ref)) ∧ RowsL H rs w.ts ∧ Wok w ∧ w.g ≤ most ∧ Even w.ts ∧ (∀ x ∈ w.ps, NoZ x) ∧ w.ps.length ≤ 13 ∧ w.ts.length ≤ 40 ∧
  ∀ p l d w2 H', Same H H' → H p = none → H l = none → H d = none → WebAt K H' p l d w2 → Wok w2 → w2.g ≤ most → Beside w w2 → w2.ts = sortN (w.ts ++ mores) → Q (.ref p) H'
theorem ok_law_beside (T : Tx K mg) : FnOk P w K mg base CX0 11 (He.ga K "_law_beside") T.fd_law_beside ["_law_script", "_law_names_here", "_law_rows"] (sp_beside K) := by
  refine T.F_law_beside.ok sc_law_beside (fun vs H Q E h => ?_) (fun cdv A outer s H vs Q E hr h => ?_)
  · obtain ⟨_, _, _, _, _, _, rfl, _⟩ := h
    rfl
  · obtain ⟨s0, a, b, ns, rs, w, rfl, hS, hl, ha, hb, hrs, ok, hg, ev, nz, l12, l40, q⟩ := h
    have hu := hu_of hr
    refine ⟨_, PSs.nox (pss_cons (ps_set (i := 3) sc_law_beside.nd rfl (Or.inl rfl) (pe_callTy x_list (by rfl) T.b_list (by decide +kernel) (pa_cons (pv 1) pa_nil)))
      (pss_cons (ps_for PassesOwn.never rfl (pi_enum (by rfl) T.b_enumerate (pa_cons (pe_lst (pa_cons pe_str (pa_cons pe_str (pa_cons pe_str pa_nil)))) pa_nil)) (pg_tup rfl (pgs_cons (pg_name (i := 4) sc_law_beside.nd rfl (Or.inl rfl)) (pgs_cons (pg_name (i := 5) sc_law_beside.nd rfl (Or.inl rfl)) pgs_nil)))
      (pss_one (ps_expr (pe_bm PySem.F.plainAttrs_list PySem.F.slot_list_insert PySem.F.type_list_insert mt_insert (pv 3) (pa_cons (pe_op op_mod (pe_call (ok_law_number T) (hr.mono (by decide)) (by rfl) T.g_law_number T.F_law_number.kp T.k_law_number .nil pass0 (pa_cons (pv 0) (pa_cons (pe_op op_add pe_int (pv 4)) pa_nil))) (pe_op op_add (pe_callB x_lenL (by rfl) T.b_len (by decide +kernel) (pa_cons (pv 3) pa_nil)) pe_int)) (pa_cons (pv 5) pa_nil))))))
      (pss_cons (ps_set (i := 6) sc_law_beside.nd rfl (Or.inl rfl) (pe_lst (pa_cons (pe_disp (pps_cons pe_str pe_int (pps_cons pe_str pe_str (pps_cons pe_str pe_str (pps_cons pe_str pe_int (pps_cons pe_str pe_bl pps_nil))))) (by rfl) (by rfl) (fun z => by cases z) (by decide)) pa_nil)))
      (pss_cons (ps_expr (pe_bm PySem.F.plainAttrs_list PySem.F.slot_list_append PySem.F.type_list_append mt_append (pv 6) (pa_cons (pe_disp (pps_cons pe_str pe_int (pps_cons pe_str pe_str (pps_cons pe_str pe_str (pps_cons pe_str pe_int (pps_cons pe_str pe_bl pps_nil))))) (by rfl) (by rfl) (fun z => by cases z) (by decide)) pa_nil)))
      (pss_one (ps_ret (pe_call (ok_law_web T) (hr.mono (by decide)) (by rfl) T.g_law_web T.F_law_web.kp T.k_law_web .nil pass0 (pa_cons (pv 3) (pa_cons (pe_op op_cat (pv 2) (pv 6)) pa_nil))))))))), ?_⟩
    have l16 := ok.le
    have l48 := ok.tl
    have z3 : ∀ x ∈ w.ps, x ∉ zs3 := fun x hx => noz3 (nz x hx)
    walk_at "go"
    refine ⟨a, _, rfl, .inl (SqL.of ha), fun D hD => ?_⟩
    have s1 : Same H (upd H D (.lst (w.ps.map V.str))) := Same.new hD
    have eD : (upd H D (.lst (w.ps.map V.str))) D = some (.lst (w.ps.map V.str)) := upd_same
    generalize upd H D (.lst (w.ps.map V.str)) = H1 at s1 eD ⊢
    walk_at "go"
    refine ⟨by walk_at "sz", fun z hz => ?_⟩
    have s2 : Same H1 (upd H1 z (.lst [.str "zzza", .str "zzzb", .str "zzzc"])) := Same.new hz
    have ez : (upd H1 z (.lst [.str "zzza", .str "zzzb", .str "zzzc"])) z = some (.lst (zs3.map V.str)) := upd_same
    have eD2 := s2 _ _ eD
    generalize upd H1 z (.lst [.str "zzza", .str "zzzb", .str "zzzc"]) = H2 at s2 ez eD2 ⊢
    have s12 := s1.trans s2
    have nzD : z ≠ D := fun e => by rw [e, eD] at hz; cases hz
    walk_at "go"
    refine i_kEnum (SqL.of ez) ?_
    refine for_it walk_enum (fun i σ H' => Same H H' ∧ H' z = some (.lst (zs3.map V.str)) ∧ ∃ qs : List Str, H' D = some (.lst (qs.map V.str)) ∧ qs.Perm (w.ps ++ zs3.take i) ∧ qs.filter (fun x => decide (x ∈ w.ps)) = w.ps ∧
        ∃ v4 v5, σ = [some (.ref s0), some (.ref a), some (.ref b), some (.ref D), v4, v5, none])
      ⟨s12, ez, w.ps, eD2, by simp, List.filter_eq_self.mpr (by simp), none, none, rfl⟩ (fun i σ H' _ h => SqL.of h.2.1) ?_ ?_
    · rintro i v σ H3 H4 hi ⟨s3, ez3, qs, eD3, hp, hf, v4, v5, rfl⟩ ⟨T0, u1, u2, rfl, hT, rfl, hu1, hu2⟩
      rw [List.length_map] at hi
      have hi3 : i < 3 := hi
      have hu1 : some (V.int ((i : Nat) : Int)) = some u1 := hu1
      have hu2 : (zs3.map V.str)[i]? = some u2 := hu2
      rw [List.getElem?_map, List.getElem?_eq_getElem hi] at hu2
      cases hu1; cases hu2
      have mz : zs3[i] ∈ zs3 := List.getElem_mem hi
      have tk : zs3.take (i + 1) = zs3.take i ++ [zs3[i]] := by rw [List.take_add_one, List.getElem?_eq_getElem hi]; rfl
      generalize zs3[i] = zn at mz tk ⊢
      have sT : Same H3 (upd H3 T0 (.tup [.int (i : Nat), .str zn])) := Same.new hT
      walk_at "go"
      refine i_gTup (SqT.of upd_same) rfl ?_
      have s4 := s3.trans sT
      have ez4 := sT _ _ ez3
      have eD4 := sT _ _ eD3
      generalize upd H3 T0 (.tup [.int (i : Nat), .str zn]) = H4 at s4 ez4 eD4 ⊢
      have hql : qs.length = w.ps.length + i := by
        rw [hp.length_eq, List.length_append, List.length_take]
        show _ + min i 3 = _
        omega
      have nzq : zn ∉ w.ps := fun m => z3 _ m mz
      walk_at "go"
      refine i_kTyL (SqL.of eD4) ?_
      walk_at "go"
      refine ⟨s0, ns, 190 + (i : Nat), rfl, by omega, by omega, SqL.same hS s4, hl, fun n n0 n1 => ?_⟩
      walk_at "go"
      refine i_lenL (SqL.of eD4) ?_
      rw [List.length_map]
      walk_at "go"
      have k0 : 0 ≤ n % ((qs.length : Int) + 1) := Int.emod_nonneg _ (by omega)
      have k1 : n % ((qs.length : Int) + 1) < (qs.length : Int) + 1 := Int.emod_lt_of_pos _ (by omega)
      generalize n % ((qs.length : Int) + 1) = k at k0 k1 ⊢
      refine ⟨D, _, k, .str zn, rfl, rfl, eD4, by rw [List.length_map, sizeLine_eq]; omega, k0, by omega, ?_⟩
      have em : (qs.map V.str).take k.toNat ++ [V.str zn] ++ (qs.map V.str).drop k.toNat = (qs.take k.toNat ++ [zn] ++ qs.drop k.toNat).map V.str := by
        simp only [List.map_append, List.map_take, List.map_drop, List.map_cons, List.map_nil]
      rw [em]
      walk_at "go"
      refine ⟨Same.mut s4 hD, (upd_ne nzD).trans ez4, _, upd_same, ?_, ?_, _, _, rfl⟩
      · rw [tk, ← List.append_assoc]
        refine List.Perm.trans ?_ (hp.append_right [zn])
        have e : qs ++ [zn] = qs.take k.toNat ++ (qs.drop k.toNat ++ [zn]) := by rw [← List.append_assoc, List.take_append_drop]
        rw [e, List.append_assoc]
        exact List.Perm.append_left _ List.perm_append_comm
      · rw [List.filter_append, List.filter_append]
        have e : [zn].filter (fun x => decide (x ∈ w.ps)) = [] := by simp [nzq]
        rw [e, List.append_nil, ← List.filter_append, List.take_append_drop]
        exact hf
    · rintro σ H3 ⟨s3, ez3, qs, eD3, hp, hf, v4, v5, rfl⟩
      have hp : qs.Perm (w.ps ++ zs3) := hp
      walk_at "go"
      intro e1 he1
      have s4 : Same H3 (upd H3 e1 (.dK [])) := Same.new he1
      have e10 : (upd H3 e1 (.dK [])) e1 = some (.dK []) := upd_same
      generalize hH4 : upd H3 e1 (.dK []) = H4 at s4 e10 ⊢
      apply i_pairs
      walk_at "go"
      apply i_pairs
      walk_at "go"
      apply i_pairs
      walk_at "go"
      apply i_pairs
      walk_at "go"
      apply i_pairs
      walk_at "go"
      apply i_pairs0
      refine ⟨e10, [(Sum.inr "number", .int 1), (Sum.inr "tail", .str "zzza"), (Sum.inr "head", .str "zzzb"), (Sum.inr "load", .int 3), (Sum.inr "oneway", .bl false)], rfl, (show 5 ≤ 15 by decide), ?_⟩
      have em1 : mergeK [] [((Sum.inr "number" : Key), V.int 1), (Sum.inr "tail", .str "zzza"), (Sum.inr "head", .str "zzzb"), (Sum.inr "load", .int 3), (Sum.inr "oneway", .bl false)] = [((Sum.inr "number" : Key), V.int 1), (Sum.inr "tail", .str "zzza"), (Sum.inr "head", .str "zzzb"), (Sum.inr "load", .int 3), (Sum.inr "oneway", .bl false)] := rfl
      rw [em1, ← hH4, upd_upd]
      have s5 : Same H3 (upd H3 e1 (.dK [((Sum.inr "number" : Key), V.int 1), (Sum.inr "tail", .str "zzza"), (Sum.inr "head", .str "zzzb"), (Sum.inr "load", .int 3), (Sum.inr "oneway", .bl false)])) := Same.new he1
      have r1 : RowAt (upd H3 e1 (.dK [((Sum.inr "number" : Key), V.int 1), (Sum.inr "tail", .str "zzza"), (Sum.inr "head", .str "zzzb"), (Sum.inr "load", .int 3), (Sum.inr "oneway", .bl false)])) 1 ⟨"zzza", "zzzb", 3, false⟩ e1 := ⟨_, upd_same, rowK_of⟩
      generalize upd H3 e1 (.dK [((Sum.inr "number" : Key), V.int 1), (Sum.inr "tail", .str "zzza"), (Sum.inr "head", .str "zzzb"), (Sum.inr "load", .int 3), (Sum.inr "oneway", .bl false)]) = H5 at s5 r1 ⊢
      clear hH4 s4 e10 H4
      walk_at "go"
      refine ⟨by walk_at "sz", fun m hm => ?_⟩
      have s6 : Same H5 (upd H5 m (.lst [.ref e1])) := Same.new hm
      have em : (upd H5 m (.lst [.ref e1])) m = some (.lst [.ref e1]) := upd_same
      have r2 := r1.same s6
      generalize upd H5 m (.lst [.ref e1]) = H6 at s6 em r2 ⊢
      walk_at "go"
      refine i_kTyL (SqL.of em) ?_
      walk_at "go"
      intro e2 he2
      have s7 : Same H6 (upd H6 e2 (.dK [])) := Same.new he2
      have e20 : (upd H6 e2 (.dK [])) e2 = some (.dK []) := upd_same
      generalize hH7 : upd H6 e2 (.dK []) = H7 at s7 e20 ⊢
      apply i_pairs
      walk_at "go"
      apply i_pairs
      walk_at "go"
      apply i_pairs
      walk_at "go"
      apply i_pairs
      walk_at "go"
      apply i_pairs
      walk_at "go"
      apply i_pairs0
      refine ⟨e20, [(Sum.inr "number", .int 3), (Sum.inr "tail", .str "zzzc"), (Sum.inr "head", .str "zzzb"), (Sum.inr "load", .int 0), (Sum.inr "oneway", .bl true)], rfl, (show 5 ≤ 15 by decide), ?_⟩
      have em2 : mergeK [] [((Sum.inr "number" : Key), V.int 3), (Sum.inr "tail", .str "zzzc"), (Sum.inr "head", .str "zzzb"), (Sum.inr "load", .int 0), (Sum.inr "oneway", .bl true)] = [((Sum.inr "number" : Key), V.int 3), (Sum.inr "tail", .str "zzzc"), (Sum.inr "head", .str "zzzb"), (Sum.inr "load", .int 0), (Sum.inr "oneway", .bl true)] := rfl
      rw [em2, ← hH7, upd_upd]
      have s8 : Same H6 (upd H6 e2 (.dK [((Sum.inr "number" : Key), V.int 3), (Sum.inr "tail", .str "zzzc"), (Sum.inr "head", .str "zzzb"), (Sum.inr "load", .int 0), (Sum.inr "oneway", .bl true)])) := Same.new he2
      have r3 : RowAt (upd H6 e2 (.dK [((Sum.inr "number" : Key), V.int 3), (Sum.inr "tail", .str "zzzc"), (Sum.inr "head", .str "zzzb"), (Sum.inr "load", .int 0), (Sum.inr "oneway", .bl true)])) 3 ⟨"zzzc", "zzzb", 0, true⟩ e2 := ⟨_, upd_same, rowK_of⟩
      have em8 := s8 _ _ em
      have r4 := r2.same s8
      generalize upd H6 e2 (.dK [((Sum.inr "number" : Key), V.int 3), (Sum.inr "tail", .str "zzzc"), (Sum.inr "head", .str "zzzb"), (Sum.inr "load", .int 0), (Sum.inr "oneway", .bl true)]) = H8 at s8 r3 em8 r4 ⊢
      clear hH7 s7 e20 H7
      walk_at "go"
      refine i_append em8 ?_ (by rw [sizeLine_eq]; simp)
      have s38 := (s5.trans s6).trans s8
      have fm : H3 m = none := s5.free hm
      have sH9 : Same H (upd H8 m (.lst ([V.ref e1] ++ [.ref e2]))) := Same.mut (s3.trans s38) (s3.free fm)
      have em9 : (upd H8 m (.lst ([V.ref e1] ++ [.ref e2]))) m = some (.lst ([e1, e2].map V.ref)) := upd_same
      have nDm : D ≠ m := fun q => by rw [q, fm] at eD3; cases eD3
      have eD9 : (upd H8 m (.lst ([V.ref e1] ++ [.ref e2]))) D = some (.lst (qs.map V.str)) := (upd_ne nDm).trans (s38 _ _ eD3)
      have r5 := r4.off em8 (o := .lst ([V.ref e1] ++ [.ref e2]))
      have r6 := r3.off em8 (o := .lst ([V.ref e1] ++ [.ref e2]))
      generalize upd H8 m (.lst ([V.ref e1] ++ [.ref e2])) = H9 at sH9 em9 eD9 r5 r6 ⊢
      have hrs9 := RowsLsame hrs sH9
      have hln := Two.len hrs
      walk_at "go"
      refine i_cat (sH9 _ _ hb) em9 (by rw [List.length_map, hln, sizeLine_eq]; simp; omega) fun f hff => ?_
      rw [← List.map_append]
      have s10 : Same H9 (upd H9 f (.lst ((rs ++ [e1, e2]).map V.ref))) := Same.new hff
      have rows : RowsL (upd H9 f (.lst ((rs ++ [e1, e2]).map V.ref))) (rs ++ [e1, e2]) (w.ts ++ mores) := RowsLsame (Two.app hrs9 (.cons r5 (.cons r6 .nil))) s10
      obtain ⟨b1, b2, b3⟩ := beside_ok ok hg ev nz l12 l40 hp hf
      walk_at "go"
      refine ⟨D, f, rs ++ [e1, e2], w.ts ++ mores, _, rfl, s10 _ _ eD9, upd_same, rows, rfl, rfl, b1, b2, fun p l d H' s11 h1 h2 h3 hw => ?_⟩
      have sf := sH9.trans s10
      walk_at "go"
      exact q p l d _ H' (sf.trans s11) (sf.free h1) (sf.free h2) (sf.free h3) hw b1 b2 b3 rfl
end
end K20

set_option Elab.async false
set_option linter.all false
set_option maxRecDepth 100000
set_option maxHeartbeats 4000000
namespace K20
open PySem PySem.Spec PyProof.Rows L2 HX WB
open TL (tl)
local macro_rules | `(tactic| walk_at "side") => `(tactic| first
  | assumption
  | rfl
  | (show (0 : Int) < _; omega)
  | (unfold CDiv; omega)
  | (unfold CMul; omega)
  | (unfold CPow; omega)
  | (rw [sizeLine_eq]; omega)
  | omega)
local macro_rules | `(tactic| walk_at "e") => `(tactic| first
  | ((with_reducible apply i_var); exact rfl)
  | (with_reducible apply i_c)
  | (with_reducible apply i_op)
  | (with_reducible apply i_un)
  | (with_reducible apply i_rI0)
  | ((with_reducible apply i_rI); (case c => walk_at "side"))
  | (with_reducible apply i_rGe)
  | (with_reducible apply i_rGt)
  | (with_reducible apply i_rU)
  | (with_reducible apply i_rEqI)
  | (with_reducible apply i_rNeI)
  | (with_reducible apply i_rEqS)
  | (with_reducible apply i_rNeS)
  | (with_reducible apply i_rEqB)
  | (with_reducible apply i_rNeB)
  | (with_reducible apply i_rIsN)
  | (with_reducible apply i_rNotN)
  | (with_reducible apply i_rInS)
  | (with_reducible apply i_rNotInS)
  | ((with_reducible apply i_catS); (case c => walk_at "side"))
  | (with_reducible apply i_tcb)
  | (with_reducible apply i_nil)
  | (with_reducible apply i_cons)
  | ((with_reducible apply i_lenS); (case c => walk_at "side"))
  | ((with_reducible apply i_lenL); assumption)
  | (with_reducible apply i_abs)
  | (with_reducible apply i_max2)
  | (with_reducible apply i_min2)
  | ((with_reducible apply i_strI); (case c => walk_at "side"))
  | (with_reducible apply i_intB)
  | (with_reducible apply i_test)
  | (with_reducible apply i_tB)
  | (with_reducible apply i_kB)
  | (with_reducible apply i_and)
  | (with_reducible apply i_or)
  | (with_reducible apply i_not)
  | (with_reducible apply i_if)
  | (with_reducible apply i_andV)
  | (with_reducible apply i_orV)
  | (with_reducible apply i_notV)
  | (with_reducible apply i_kAndV)
  | (with_reducible apply i_kOrV)
  | (with_reducible apply i_kNotV)
  | (with_reducible apply i_chain)
  | (with_reducible apply i_kChain)
  | (with_reducible apply i_drop)
  | (with_reducible apply i_ret)
  | (with_reducible apply i_retN)
  | (with_reducible apply i_ifS)
  | (with_reducible apply i_asg)
  | (with_reducible apply i_gName)
  | (with_reducible apply i_for)
  | (with_reducible apply i_lc)
  | (with_reducible apply i_iList)
  | (with_reducible apply i_iTup)
  | (with_reducible apply i_iStr)
  | (with_reducible apply i_kStrI)
  | (with_reducible apply i_lst)
  | (with_reducible apply i_tup)
  | (with_reducible apply i_call)
  | (with_reducible apply i_m1)
  | (with_reducible apply i_kStr)
  | (with_reducible apply i_bm)
  | (with_reducible apply i_bm0)
  | (with_reducible apply i_part)
  | (with_reducible apply i_kInt)
  | (with_reducible apply i_noPart)
  | (with_reducible apply i_sl)
  | (with_reducible apply i_range1)
  | (with_reducible apply i_range2)
  | ((with_reducible apply i_kRng1); (case c => walk_at "side"))
  | ((with_reducible apply i_kRng2); (case c => walk_at "side"))
  | (with_reducible apply i_gCons)
  | (with_reducible apply i_gNil)
  | (with_reducible apply i_gSub)
  | (with_reducible apply i_iZip)
  | (with_reducible apply i_yes)
  | (with_reducible apply i_ift)
  | (with_reducible apply i_iff)
  | (with_reducible apply i_nb))
local macro_rules | `(tactic| walk_at "go") => `(tactic| repeat (first | (with_reducible apply i_seq) | (with_reducible apply i_next) | walk_at "e"))
local macro_rules | `(tactic| walk_at "ge") => `(tactic| repeat walk_at "e")
local macro_rules | `(tactic| walk_at "sz") => `(tactic| first | decide | (rw [sizeLine_eq]; simp; done) | (rw [sizeLine_eq]; omega))
local macro_rules | `(tactic| walk_at "side") => `(tactic| (with_reducible exact WB.most_pos))
local macro_rules | `(tactic| walk_at "e") => `(tactic| first
  | ((with_reducible apply i_isT (b := true)); exact rfl)
  | ((with_reducible apply i_isT (b := false)); exact rfl)
  | (with_reducible apply i_fld)
  | ((with_reducible apply i_kFld); (case h => assumption); (case c1 => assumption); (case c2 => assumption); (case e => first | exact lk_number | exact lk_tail | exact lk_head | exact lk_load | exact lk_oneway | exact lk_points | exact lk_ties | exact lk_given))
  | (with_reducible apply i_sfld)
  | ((with_reducible apply i_kSFld); (case h => first | assumption | exact upd_same); (case c1 => assumption); (case c2 => assumption); (case e => exact Nat.le_of_ble_eq_true rfl))
  | (with_reducible apply i_methC)
  | (with_reducible apply i_make)
  | (with_reducible apply i_fldaug)
  | (with_reducible apply i_vals)
  | (with_reducible apply i_items)
  | (with_reducible apply i_dget)
  | (with_reducible apply i_dput)
  | (with_reducible apply i_din)
  | (with_reducible apply i_dnotin)
  | (with_reducible apply i_ddel)
  | (with_reducible apply i_dc)
  | (with_reducible apply i_enum)
  | (with_reducible apply i_ckw))
/-- pairs in a list -/
def PairT (H : Hp) (a : Addr) (p : Str × Str) : Prop := H a = some (.tup [.str p.1, .str p.2])
abbrev PairsL (H : Hp) (as : List Addr) (ps : List (Str × Str)) : Prop := Two (PairT H) as ps
section
variable {P : Program} {w : World} {K : PySem.W.Frag} {mg : Str → Option Value} {base : Heap}
def sp_turns : Sp := fun vs H Q _ => ∃ r n t b, vs = [.ref r, .bl b] ∧ RowAt H n t r ∧ ∀ a as H', Same H H' → H a = none → H' a = some (.lst ((as : List Addr).map V.ref)) → PairsL H' as (turnsOf b t) → Q (.ref a) H'
theorem ok_law_turns (T : Tx K mg) : FnOk P w K mg base CX0 1 (He.ga K "_law_turns") T.fd_law_turns ["_law_row_here", "_law_is_ahead"] sp_turns := by
  refine T.F_law_turns.ok sc_law_turns (fun vs H Q E h => ?_) (fun cdv A outer s H vs Q E hr h => ?_)
  · obtain ⟨_, _, _, _, rfl, _⟩ := h
    rfl
  · obtain ⟨r, n, t, b, rfl, ⟨kvs, e, rk⟩, q⟩ := h
    have hu := hu_of hr
    refine ⟨_, PSs.nox (C8.pss_cut (ps_if (PW.pt (pw_and (pt_val (pv 1)) (pw_and1 (pt_val (pe_dget hu (pv 0) pe_str (fun _ _ => rfl)))))) (pss_one (ps_ret (pe_lst (pa_cons (pe_tup (pa_cons (pe_dget hu (pv 0) pe_str (fun _ _ => rfl)) (pa_cons (pe_dget hu (pv 0) pe_str (fun _ _ => rfl)) pa_nil))) pa_nil)))) pss_nil)
      (pss_one (ps_ret (pe_lst (pa_cons (pe_tup (pa_cons (pe_dget hu (pv 0) pe_str (fun _ _ => rfl)) (pa_cons (pe_dget hu (pv 0) pe_str (fun _ _ => rfl)) pa_nil))) (pa_cons (pe_tup (pa_cons (pe_dget hu (pv 0) pe_str (fun _ _ => rfl)) (pa_cons (pe_dget hu (pv 0) pe_str (fun _ _ => rfl)) pa_nil))) pa_nil)))))), ?_⟩
    have k2 := rk.tail
    have k3 := rk.head
    have k5 := rk.oneway
    have one : ∀ (p : Addr) (H1 : Hp), H1 = upd H p (.tup [.str t.t, .str t.h]) → H p = none → True := fun _ _ _ _ => trivial
    have both : (b && t.o) = false → ∀ H0 p1 p2 a, Same H H0 → H0 p1 = none → (upd H0 p1 (.tup [.str t.t, .str t.h])) p2 = none → (upd (upd H0 p1 (.tup [.str t.t, .str t.h])) p2 (.tup [.str t.h, .str t.t])) a = none →
        Q (.ref a) (upd (upd (upd H0 p1 (.tup [.str t.t, .str t.h])) p2 (.tup [.str t.h, .str t.t])) a (.lst [.ref p1, .ref p2])) := fun c H0 p1 p2 a s0 h1 h2 h3 => by
      have s1 := s0.trans (Same.new h1 (o := .tup [.str t.t, .str t.h]))
      have s2 := s1.trans (Same.new h2 (o := .tup [.str t.h, .str t.t]))
      refine q a [p1, p2] _ (s2.trans (Same.new h3)) (s2.free h3) upd_same ?_
      unfold turnsOf
      rw [c]
      have e1 : (upd H0 p1 (.tup [.str t.t, .str t.h])) p1 = some (.tup [.str t.t, .str t.h]) := upd_same
      exact .cons (Same.new h3 _ _ (Same.new h2 _ _ e1)) (.cons (Same.new h3 _ _ upd_same) .nil)
    walk_at "go"
    refine ⟨fun σ' H' => (b && t.o) = false ∧ σ' = [some (.ref r), some (.bl b)] ∧ H' = H, ?_, ?_⟩
    · walk_at "go"
      refine i_b (fun eb => ?_) (fun eb => ?_)
      · walk_at "go"
        refine i_kDGetS e k5 ?_
        walk_at "go"
        refine i_b (fun eo => ?_) (fun eo => ?_)
        · walk_at "go"
          refine i_kDGetS e k2 ?_
          walk_at "go"
          refine i_kDGetS e k3 ?_
          refine ⟨by walk_at "sz", fun p1 h1 => ?_⟩
          walk_at "go"
          refine ⟨by walk_at "sz", fun a h2 => ?_⟩
          walk_at "go"
          have s1 := Same.new h1 (o := .tup [.str t.t, .str t.h])
          refine q a [p1] _ (s1.trans (Same.new h2)) (s1.free h2) upd_same ?_
          unfold turnsOf
          rw [eb, eo]
          exact .cons (Same.new h2 _ _ upd_same) .nil
        · walk_at "go"
          exact ⟨by rw [eb, eo]; rfl, rfl, rfl⟩
      · walk_at "go"
        exact ⟨by rw [eb]; rfl, rfl, rfl⟩
    · rintro _ H' ⟨c, rfl, rfl⟩
      walk_at "go"
      refine i_kDGetS e k2 ?_
      walk_at "go"
      refine i_kDGetS e k3 ?_
      refine ⟨by walk_at "sz", fun p1 h1 => ?_⟩
      have e1 := Same.new h1 (o := .tup [.str t.t, .str t.h]) _ _ e
      walk_at "go"
      refine i_kDGetS e1 k3 ?_
      walk_at "go"
      refine i_kDGetS e1 k2 ?_
      refine ⟨by walk_at "sz", fun p2 h2 => ?_⟩
      walk_at "go"
      refine ⟨by walk_at "sz", fun a h3 => ?_⟩
      walk_at "go"
      exact both c H' p1 p2 a (Same.refl _) h1 h2 h3
end
end K20

set_option Elab.async false
set_option linter.all false
set_option maxRecDepth 100000
set_option maxHeartbeats 4000000
namespace K20
open PySem PySem.Spec PyProof.Rows L2 HX WB
open TL (tl)
local macro_rules | `(tactic| walk_at "side") => `(tactic| first
  | assumption
  | rfl
  | (show (0 : Int) < _; omega)
  | (unfold CDiv; omega)
  | (unfold CMul; omega)
  | (unfold CPow; omega)
  | (rw [sizeLine_eq]; omega)
  | omega)
local macro_rules | `(tactic| walk_at "e") => `(tactic| first
  | ((with_reducible apply i_var); exact rfl)
  | (with_reducible apply i_c)
  | (with_reducible apply i_op)
  | (with_reducible apply i_un)
  | (with_reducible apply i_rI0)
  | ((with_reducible apply i_rI); (case c => walk_at "side"))
  | (with_reducible apply i_rGe)
  | (with_reducible apply i_rGt)
  | (with_reducible apply i_rU)
  | (with_reducible apply i_rEqI)
  | (with_reducible apply i_rNeI)
  | (with_reducible apply i_rEqS)
  | (with_reducible apply i_rNeS)
  | (with_reducible apply i_rEqB)
  | (with_reducible apply i_rNeB)
  | (with_reducible apply i_rIsN)
  | (with_reducible apply i_rNotN)
  | (with_reducible apply i_rInS)
  | (with_reducible apply i_rNotInS)
  | ((with_reducible apply i_catS); (case c => walk_at "side"))
  | (with_reducible apply i_tcb)
  | (with_reducible apply i_nil)
  | (with_reducible apply i_cons)
  | ((with_reducible apply i_lenS); (case c => walk_at "side"))
  | ((with_reducible apply i_lenL); assumption)
  | (with_reducible apply i_abs)
  | (with_reducible apply i_max2)
  | (with_reducible apply i_min2)
  | ((with_reducible apply i_strI); (case c => walk_at "side"))
  | (with_reducible apply i_intB)
  | (with_reducible apply i_test)
  | (with_reducible apply i_tB)
  | (with_reducible apply i_kB)
  | (with_reducible apply i_and)
  | (with_reducible apply i_or)
  | (with_reducible apply i_not)
  | (with_reducible apply i_if)
  | (with_reducible apply i_andV)
  | (with_reducible apply i_orV)
  | (with_reducible apply i_notV)
  | (with_reducible apply i_kAndV)
  | (with_reducible apply i_kOrV)
  | (with_reducible apply i_kNotV)
  | (with_reducible apply i_chain)
  | (with_reducible apply i_kChain)
  | (with_reducible apply i_drop)
  | (with_reducible apply i_ret)
  | (with_reducible apply i_retN)
  | (with_reducible apply i_ifS)
  | (with_reducible apply i_asg)
  | (with_reducible apply i_gName)
  | (with_reducible apply i_for)
  | (with_reducible apply i_lc)
  | (with_reducible apply i_iList)
  | (with_reducible apply i_iTup)
  | (with_reducible apply i_iStr)
  | (with_reducible apply i_kStrI)
  | (with_reducible apply i_lst)
  | (with_reducible apply i_tup)
  | (with_reducible apply i_call)
  | (with_reducible apply i_m1)
  | (with_reducible apply i_kStr)
  | (with_reducible apply i_bm)
  | (with_reducible apply i_bm0)
  | (with_reducible apply i_part)
  | (with_reducible apply i_kInt)
  | (with_reducible apply i_noPart)
  | (with_reducible apply i_sl)
  | (with_reducible apply i_range1)
  | (with_reducible apply i_range2)
  | ((with_reducible apply i_kRng1); (case c => walk_at "side"))
  | ((with_reducible apply i_kRng2); (case c => walk_at "side"))
  | (with_reducible apply i_gCons)
  | (with_reducible apply i_gNil)
  | (with_reducible apply i_gSub)
  | (with_reducible apply i_iZip)
  | (with_reducible apply i_yes)
  | (with_reducible apply i_ift)
  | (with_reducible apply i_iff)
  | (with_reducible apply i_nb))
local macro_rules | `(tactic| walk_at "go") => `(tactic| repeat (first | (with_reducible apply i_seq) | (with_reducible apply i_next) | walk_at "e"))
local macro_rules | `(tactic| walk_at "ge") => `(tactic| repeat walk_at "e")
local macro_rules | `(tactic| walk_at "sz") => `(tactic| first | decide | (rw [sizeLine_eq]; simp; done) | (rw [sizeLine_eq]; omega))
local macro_rules | `(tactic| walk_at "side") => `(tactic| (with_reducible exact WB.most_pos))
local macro_rules | `(tactic| walk_at "e") => `(tactic| first
  | ((with_reducible apply i_isT (b := true)); exact rfl)
  | ((with_reducible apply i_isT (b := false)); exact rfl)
  | (with_reducible apply i_fld)
  | ((with_reducible apply i_kFld); (case h => assumption); (case c1 => assumption); (case c2 => assumption); (case e => first | exact lk_number | exact lk_tail | exact lk_head | exact lk_load | exact lk_oneway | exact lk_points | exact lk_ties | exact lk_given))
  | (with_reducible apply i_sfld)
  | ((with_reducible apply i_kSFld); (case h => first | assumption | exact upd_same); (case c1 => assumption); (case c2 => assumption); (case e => exact Nat.le_of_ble_eq_true rfl))
  | (with_reducible apply i_methC)
  | (with_reducible apply i_make)
  | (with_reducible apply i_fldaug)
  | (with_reducible apply i_vals)
  | (with_reducible apply i_items)
  | (with_reducible apply i_dget)
  | (with_reducible apply i_dput)
  | (with_reducible apply i_din)
  | (with_reducible apply i_dnotin)
  | (with_reducible apply i_ddel)
  | (with_reducible apply i_dc)
  | (with_reducible apply i_enum)
  | (with_reducible apply i_ckw))
def shV : Option Str → V
  | none => .non
  | some z => .str z
theorem i_rNeSh {y : Str} {sh : Option Str} {H : Hp} {Q : VK} (q : Q (.bl (!decide (some y = sh))) H) : rNe (.str y) (shV sh) H Q := by
  cases sh with
  | none =>
    refine ⟨rfl, ?_⟩
    have e : decide (V.str y = shV none) = decide (some y = none) := decide_eq_decide.mpr ⟨fun h => (by cases h), fun h => (by cases h)⟩
    rw [e]; exact q
  | some z =>
    refine ⟨rfl, ?_⟩
    have e : decide (V.str y = shV (some z)) = decide (some y = some z) := decide_eq_decide.mpr ⟨fun h => (by cases h; rfl), fun h => (by cases h; rfl)⟩
    rw [e]; exact q
/-- one turn of the law's own going -/
def reach1 (g : Int) (sh : Option Str) (fs : List Str) (n : Int) (p : Str × Str) : List Str := if n ≠ g ∧ p.1 ∈ fs ∧ p.2 ∉ fs ∧ some p.2 ≠ sh then fs ++ [p.2] else fs
theorem reach1_sub {g : Int} {sh : Option Str} {fs : List Str} {n : Int} {p : Str × Str} : ∃ r, reach1 g sh fs n p = fs ++ r := by
  unfold reach1
  split
  · exact ⟨_, rfl⟩
  · exact ⟨[], by simp⟩
/-- what holds of the points seen -/
structure Seen (S : Steps) (one : Str) (fs : List Str) : Prop where
  nd : fs.Nodup
  hd : one ∈ fs
  rch : ∀ y ∈ fs, Rch S one y
theorem Seen.one {b : Bool} {g : Int} {sh : Option Str} {ts : Ts} {one : Str} {fs : List Str} (h : Seen (rowS b g sh ts) one fs) {n : Int} {t : Ti} (m : (n, t) ∈ ts) {p : Str × Str} (hp : p ∈ turnsOf b t) :
    Seen (rowS b g sh ts) one (reach1 g sh fs n p) ∧ (n ≠ g → some p.2 ≠ sh → p.1 ∈ fs → p.2 ∈ reach1 g sh fs n p) := by
  unfold reach1
  split
  · rename_i c
    obtain ⟨c1, c2, c3, c4⟩ := c
    refine ⟨⟨?_, List.mem_append.mpr (.inl h.hd), fun y hy => ?_⟩, fun _ _ _ => by simp⟩
    · exact List.nodup_append.mpr ⟨h.nd, by simp, fun x hx y hy e => c3 (by rw [← List.mem_singleton.mp hy, ← e]; exact hx)⟩
    · rcases List.mem_append.mp hy with hy | hy
      · exact h.rch y hy
      · rw [List.mem_singleton.mp hy]
        exact .step (n := n) (h.rch _ c2) (row_mem.mpr ⟨t, m, c1, hp, c4⟩)
  · rename_i c
    refine ⟨h, fun c1 c4 c2 => ?_⟩
    by_cases c3 : p.2 ∈ fs
    · exact c3
    · exact absurd ⟨c1, c2, c3, c4⟩ c
theorem seen_len {b : Bool} {g : Int} {sh : Option Str} {ts : Ts} {one : Str} {fs ps : List Str} (h : Seen (rowS b g sh ts) one fs) (h1 : one ∈ ps) (he : EndsIn ts ps) : fs.length ≤ ps.length :=
  nodup_len h.nd fun y hy => rch_in h1 (row_in he) (h.rch y hy)
section
variable {P : Program} {w : World} {K : PySem.W.Frag} {mg : Str → Option Value} {base : Heap}
def sp_reach : Sp := fun vs H Q _ => ∃ b rs ts ps one bb g sh, vs = [.ref b, .str one, .bl bb, .int g, shV sh] ∧ H b = some (.lst ((rs : List Addr).map V.ref)) ∧ RowsL H rs ts ∧ EndsIn ts ps ∧ one ∈ ps ∧ ps.length ≤ 16 ∧
  ∀ a fs H', Same H H' → H a = none → H' a = some (.lst ((fs : List Str).map V.str)) → fs.Nodup → (∀ y, y ∈ fs ↔ Rch (rowS bb g sh ts) one y) → Q (.ref a) H'
theorem ok_law_reach (T : Tx K mg) : FnOk P w K mg base CX0 2 (He.ga K "_law_reach") T.fd_law_reach ["_law_rows", "_law_start", "_law_is_ahead", "_law_gone", "_law_shunned"] sp_reach := by
  refine T.F_law_reach.ok sc_law_reach (fun vs H Q E h => ?_) (fun cdv A outer s H vs Q E hr h => ?_)
  · obtain ⟨_, _, _, _, _, _, _, _, rfl, _⟩ := h
    rfl
  · obtain ⟨b, rs, ts, ps, one, bb, g, sh, rfl, hb, hrs, he, h1, l16, q⟩ := h
    have hu := hu_of hr
    refine ⟨_, PSs.nox (pss_cons (ps_set (i := 5) sc_law_reach.nd rfl (Or.inl rfl) (pe_lst (pa_cons (pv 1) pa_nil)))
      (pss_cons (ps_set (i := 6) sc_law_reach.nd rfl (Or.inl rfl) pe_int)
      (pss_cons (ps_while PassesOwn.never (pt_cmpR op_lt (pv 6) (pe_callB x_lenL (by rfl) T.b_len (by decide +kernel) (pa_cons (pv 5) pa_nil)) (nomark _)) (pss_cons (ps_set (i := 6) sc_law_reach.nd rfl (Or.inl rfl) (pe_callB x_lenL (by rfl) T.b_len (by decide +kernel) (pa_cons (pv 5) pa_nil)))
      (pss_one (ps_for PassesOwn.never rfl (pi_list (pv 0)) (pg_name (i := 7) sc_law_reach.nd rfl (Or.inl rfl))
      (pss_one (ps_for PassesOwn.never rfl (pi_list (pe_call (ok_law_turns T) (hr.mono (by decide)) (by rfl) T.g_law_turns T.F_law_turns.kp T.k_law_turns .nil pass0 (pa_cons (pv 7) (pa_cons (pv 2) pa_nil)))) (pg_tup rfl (pgs_cons (pg_name (i := 8) sc_law_reach.nd rfl (Or.inl rfl)) (pgs_cons (pg_name (i := 9) sc_law_reach.nd rfl (Or.inl rfl)) pgs_nil)))
      (pss_one (ps_if (PW.pt (pw_and (pt_cmpR op_ne (pe_dget hu (pv 7) pe_str (fun _ _ => rfl)) (pv 3) (nomark _)) (pw_and (pt_cmpR op_in_seq (pv 8) (pv 5) (by rfl)) (pw_and (pt_cmpR op_notIn_seq (pv 9) (pv 5) (by rfl)) (pw_and1 (pt_cmpR op_ne (pv 9) (pv 4) (nomark _))))))) (pss_one (ps_expr (pe_bm PySem.F.plainAttrs_list PySem.F.slot_list_append PySem.F.type_list_append mt_append (pv 5) (pa_cons (pv 9) pa_nil)))) pss_nil))))))))
      (pss_one (ps_ret (pv 5)))))), ?_⟩
    have hln := Two.len hrs
    walk_at "go"
    refine ⟨by walk_at "sz", fun a ha => ?_⟩
    have s1 : Same H (upd H a (.lst [.str one])) := Same.new ha
    have ea : (upd H a (.lst [.str one])) a = some (.lst ([one].map V.str)) := upd_same
    generalize upd H a (.lst [.str one]) = H1 at s1 ea ⊢
    walk_at "go"
    refine ⟨fun m σ H' => ∃ M fs, m + M = 17 ∧ M ≤ fs.length ∧ Same H H' ∧ H' a = some (.lst ((fs : List Str).map V.str)) ∧ Seen (rowS bb g sh ts) one fs ∧ (M = fs.length → ∀ x ∈ fs, ∀ s ∈ rowS bb g sh ts x, s.2 ∈ fs) ∧
        ∃ v7 v8 v9, σ = [some (.ref b), some (.str one), some (.bl bb), some (.int g), some (shV sh), some (.ref a), some (.int (M : Nat)), v7, v8, v9],
      ⟨17, 0, [one], rfl, by simp, s1, ea, ⟨by simp, by simp, fun y hy => by rw [List.mem_singleton.mp hy]; exact .here⟩, fun e => by simp at e, none, none, none, rfl⟩, ?_⟩
    rintro m σ H2 ⟨M, fs, em, ml, s2, ea2, sn, cl, v7, v8, v9, rfl⟩
    have fl := seen_len sn h1 he
    walk_at "go"
    refine i_lenL (SqL.of ea2) ?_
    rw [List.length_map]
    walk_at "go"
    refine i_dec (fun hlt => ?_) (fun hge => ?_)
    · have hlt : M < fs.length := by omega
      refine ⟨fun σ' H' => ∃ m', m' < m ∧ ∃ M fs, m' + M = 17 ∧ M ≤ fs.length ∧ Same H H' ∧ H' a = some (.lst ((fs : List Str).map V.str)) ∧ Seen (rowS bb g sh ts) one fs ∧ (M = fs.length → ∀ x ∈ fs, ∀ s ∈ rowS bb g sh ts x, s.2 ∈ fs) ∧
        ∃ v7 v8 v9, σ' = [some (.ref b), some (.str one), some (.bl bb), some (.int g), some (shV sh), some (.ref a), some (.int (M : Nat)), v7, v8, v9], fun _ _ h => h, ?_⟩
      walk_at "go"
      refine i_lenL (SqL.of ea2) ?_
      rw [List.length_map]
      walk_at "go"
      refine i_kListI (SqL.of (s2 _ _ hb)) ?_
      refine for_it walk_list (fun i σ H' => Same H H' ∧ ∃ r, H' a = some (.lst ((fs ++ r).map V.str)) ∧ Seen (rowS bb g sh ts) one (fs ++ r) ∧ (∀ n t, (n, t) ∈ ts.take i → n ≠ g → ∀ p ∈ turnsOf bb t, some p.2 ≠ sh → p.1 ∈ fs → p.2 ∈ fs ++ r) ∧
          ∃ v7 v8 v9, σ = [some (.ref b), some (.str one), some (.bl bb), some (.int g), some (shV sh), some (.ref a), some (.int (fs.length : Nat)), v7, v8, v9])
        ⟨s2, [], by simpa using ea2, by simpa using sn, by simp, v7, v8, v9, rfl⟩ (fun i σ H' _ h => SqL.of (h.1 _ _ hb)) ?_ ?_
      · rintro i v σ H3 H4 hi ⟨s3, r, ea3, sn3, cl3, v7, v8, v9, rfl⟩ ⟨rfl, hv⟩
        rw [List.length_map] at hi
        rw [List.getElem?_map, List.getElem?_eq_getElem hi] at hv
        cases hv
        obtain ⟨⟨n, t⟩, et, ra⟩ := Two.get hrs (List.getElem?_eq_getElem hi)
        have mt := List.mem_of_getElem? et
        have tk : ts.take (i + 1) = ts.take i ++ [(n, t)] := by rw [List.take_add_one, et]; rfl
        generalize rs[i] = ri at ra
        obtain ⟨kvs, ek, rk⟩ := ra
        have k1 : valV kvs (Sum.inr "number") = some (.int n) := rk.number
        walk_at "go"
        refine ⟨ri, n, t, bb, rfl, ⟨kvs, s3 _ _ ek, rk⟩, fun c as H5 s5 hc ec hps => ?_⟩
        have ea5 := s5 _ _ ea3
        have s35 := s3.trans s5
        have hpl := Two.len hps
        have nca : c ≠ a := fun e => by rw [e, ea3] at hc; cases hc
        walk_at "go"
        refine i_kListI (SqL.of ec) ?_
        refine for_it walk_list (fun j σ H' => Same H H' ∧ (∀ x o, x ≠ a → H5 x = some o → H' x = some o) ∧ ∃ r2, H' a = some (.lst ((fs ++ r2).map V.str)) ∧ Seen (rowS bb g sh ts) one (fs ++ r2) ∧ (∀ x ∈ fs ++ r, x ∈ fs ++ r2) ∧ (n ≠ g → ∀ p ∈ (turnsOf bb t).take j, some p.2 ≠ sh → p.1 ∈ fs → p.2 ∈ fs ++ r2) ∧
            ∃ v8 v9, σ = [some (.ref b), some (.str one), some (.bl bb), some (.int g), some (shV sh), some (.ref a), some (.int (fs.length : Nat)), some (.ref ri), v8, v9])
          ⟨s35, fun _ _ _ e => e, r, ea5, sn3, fun _ h => h, by simp, v8, v9, rfl⟩ (fun j σ H' _ h => SqL.of (h.2.1 _ _ nca ec)) ?_ ?_
        · rintro j v σ H6 H7 hj ⟨s6, kp, r2, ea6, sn6, up, cl6, v8, v9, rfl⟩ ⟨rfl, hv⟩
          rw [List.length_map] at hj
          rw [List.getElem?_map, List.getElem?_eq_getElem hj] at hv
          cases hv
          obtain ⟨⟨x, y⟩, ep, pt⟩ := Two.get hps (List.getElem?_eq_getElem hj)
          have mp := List.mem_of_getElem? ep
          have tk2 : (turnsOf bb t).take (j + 1) = (turnsOf bb t).take j ++ [(x, y)] := by rw [List.take_add_one, ep]; rfl
          have pt7 : H7 as[j] = some (.tup [.str x, .str y]) := kp _ _ (fun e => by have pt : H5 as[j] = some (.tup [.str x, .str y]) := pt; rw [e, ea5] at pt; cases pt) pt
          have ek7 := s6 _ _ ek
          have fl7 := seen_len sn6 h1 he
          obtain ⟨sn8, cl8⟩ := sn6.one mt mp
          have same : ∀ (c : ¬ (n ≠ g ∧ x ∈ fs ++ r2 ∧ y ∉ fs ++ r2 ∧ some y ≠ sh)), reach1 g sh (fs ++ r2) n (x, y) = fs ++ r2 := fun c => if_neg c
          have stay : ∀ (c : ¬ (n ≠ g ∧ x ∈ fs ++ r2 ∧ y ∉ fs ++ r2 ∧ some y ≠ sh)), n ≠ g → ∀ p ∈ (turnsOf bb t).take (j + 1), some p.2 ≠ sh → p.1 ∈ fs → p.2 ∈ fs ++ r2 := fun c hn p hp hs hf => by
            rw [tk2] at hp
            rcases List.mem_append.mp hp with hp | hp
            · exact cl6 hn p hp hs hf
            · rw [List.mem_singleton.mp hp] at hs hf ⊢
              have := cl8 hn hs (List.mem_append.mpr (.inl hf))
              rw [same c] at this
              exact this
          walk_at "go"
          refine i_gTup (SqT.of pt7) rfl ?_
          walk_at "go"
          refine i_kDGetS ek7 k1 ?_
          walk_at "go"
          refine i_dec (fun e0 => ?_) (fun e0 => ?_)
          · walk_at "go"
            exact ⟨s6, kp, r2, ea6, sn6, up, stay (fun c => c.1 e0), _, _, rfl⟩
          · walk_at "go"
            refine i_inS (SqL.of ea6) ?_
            walk_at "go"
            refine i_dec (fun e1 => ?_) (fun e1 => ?_)
            · walk_at "go"
              refine i_inS (SqL.of ea6) ?_
              show kB _ (.bl (!decide (y ∈ fs ++ r2))) _
              apply i_kB
              refine i_ndec (fun e2 => ?_) (fun e2 => ?_)
              · walk_at "go"
                refine i_rNeSh ?_
                apply i_kB
                refine i_ndec (fun e3 => ?_) (fun e3 => ?_)
                · have er : reach1 g sh (fs ++ r2) n (x, y) = fs ++ (r2 ++ [y]) := by
                    rw [← List.append_assoc]
                    exact if_pos ⟨e0, e1, e2, e3⟩
                  rw [er] at sn8 cl8
                  walk_at "go"
                  refine i_kTyL (SqL.of ea6) ?_
                  walk_at "go"
                  refine i_append ea6 ?_ (by rw [List.length_map, sizeLine_eq]; omega)
                  walk_at "go"
                  refine ⟨Same.mut s6 ha, fun z o hz e => (upd_ne hz).trans (kp z o hz e), r2 ++ [y], by rw [upd_same, ← List.append_assoc, List.map_append (l₁ := fs ++ r2)]; rfl, sn8, fun z hz => by rw [← List.append_assoc]; exact List.mem_append.mpr (.inl (up z hz)), fun hn p hp hs hf => ?_, _, _, rfl⟩
                  rw [tk2] at hp
                  rcases List.mem_append.mp hp with hp | hp
                  · rw [← List.append_assoc]
                    exact List.mem_append.mpr (.inl (cl6 hn p hp hs hf))
                  · rw [List.mem_singleton.mp hp]
                    simp
                · walk_at "go"
                  exact ⟨s6, kp, r2, ea6, sn6, up, stay (fun c => c.2.2.2 e3), _, _, rfl⟩
              · walk_at "go"
                exact ⟨s6, kp, r2, ea6, sn6, up, stay (fun c => c.2.2.1 e2), _, _, rfl⟩
            · walk_at "go"
              exact ⟨s6, kp, r2, ea6, sn6, up, stay (fun c => e1 c.2.1), _, _, rfl⟩
        · rintro σ H6 ⟨s6, kp, r2, ea6, sn6, up, cl6, v8, v9, rfl⟩
          rw [List.length_map, hpl, List.take_length] at cl6
          walk_at "go"
          refine ⟨s6, r2, ea6, sn6, fun n' t' hm hn p hp hs hf => ?_, _, _, _, rfl⟩
          rw [tk] at hm
          rcases List.mem_append.mp hm with hm | hm
          · exact up _ (cl3 n' t' hm hn p hp hs hf)
          · cases List.mem_singleton.mp hm
            exact cl6 hn p hp hs hf
      · rintro σ H3 ⟨s3, r, ea3, sn3, cl3, v7, v8, v9, rfl⟩
        rw [List.length_map, hln, List.take_length] at cl3
        walk_at "go"
        refine ⟨17 - fs.length, by omega, fs.length, fs ++ r, by omega, by rw [List.length_append]; omega, s3, ea3, sn3, fun e x hx s hs => ?_, _, _, _, rfl⟩
        have er : r = [] := by
          rw [List.length_append] at e
          exact List.length_eq_zero_iff.mp (by omega)
        rw [er, List.append_nil] at hx
        obtain ⟨n, y⟩ := s
        obtain ⟨u, m1, m2, m3, m4⟩ := row_mem.mp hs
        exact cl3 n u m1 m2 (x, y) m3 m4 hx
    · walk_at "go"
      have eM : M = fs.length := by omega
      have cl2 := cl eM
      exact q a fs H2 s2 ha ea2 sn.nd fun y => ⟨sn.rch y, fun r => Rch.of_closed sn.hd cl2 r⟩
end
end K20

set_option Elab.async false
set_option linter.all false
set_option maxRecDepth 100000
set_option maxHeartbeats 2000000
/-! KD: lists that are held against each other, deep. -/
namespace WB
open PySem PySem.Spec PyProof.Rows L2 HX
section
variable {K : PySem.W.Frag} {H : Hp} {Q : VK}
abbrev okS (z : Str) : Bool := PyData.strOk z
theorem dp_strs : ∀ ys : List Str, DpAll K H (ys.map V.str) (ys.map PyData.str)
  | [] => .nil
  | y :: r => .cons (.str y) (dp_strs r)
theorem depth_strs : ∀ ys : List Str, PyData.depthAll (ys.map PyData.str) = 0
  | [] => by simp [PyData.depthAll]
  | y :: r => by simp [PyData.depthAll, PyData.depth, depth_strs r]
theorem lay_strs : ∀ {ys : List Str}, (∀ y ∈ ys, okS y = true) → PyData.canLayAll0 (ys.map PyData.str) = true
  | [], _ => by simp [PyData.canLayAll0]
  | y :: r, h => by
    have h1 := h y (by simp)
    have h2 := lay_strs (ys := r) fun z hz => h z (by simp [hz])
    simp only [List.map_cons, PyData.canLayAll0, PyData.canLay0, h2, Bool.and_true]
    exact h1
theorem shaped_strs {ys : List Str} (h : ∀ y ∈ ys, okS y = true) : SeqAt.shaped (.list (ys.map PyData.str)) = true := by
  unfold SeqAt.shaped
  rw [PyData.canLay0, lay_strs h, PyData.depth, depth_strs]
  rfl
theorem dp_ints : ∀ ys : List Int, DpAll K H (ys.map V.int) (ys.map PyData.int)
  | [] => .nil
  | y :: r => .cons (.int y) (dp_ints r)
theorem depth_ints : ∀ ys : List Int, PyData.depthAll (ys.map PyData.int) = 0
  | [] => by simp [PyData.depthAll]
  | y :: r => by simp [PyData.depthAll, PyData.depth, depth_ints r]
theorem lay_ints : ∀ ys : List Int, PyData.canLayAll0 (ys.map PyData.int) = true
  | [] => by simp [PyData.canLayAll0]
  | y :: r => by
    have h2 := lay_ints r
    simp only [List.map_cons, PyData.canLayAll0, PyData.canLay0, h2, Bool.and_true]
theorem shaped_ints (ys : List Int) : SeqAt.shaped (.list (ys.map PyData.int)) = true := by
  unfold SeqAt.shaped
  rw [PyData.canLay0, lay_ints, PyData.depth, depth_ints]
  rfl
theorem eqvAll_nil (f : α → PyData) : ∀ ys : List α, PyData.eqv (.list (ys.map f)) (.list []) = ys.isEmpty
  | [] => by simp [PyData.eqv, PyData.eqvAll]
  | y :: r => by simp [PyData.eqv, PyData.eqvAll]
theorem i_eqNilI {D p : Addr} {ys : List Int} (h : SqL K H D (ys.map V.int)) (h2 : SqL K H p []) (q : Q (.bl ys.isEmpty) H) : rEqD K (.ref D) (.ref p) H Q :=
  ⟨_, _, .lst h (dp_ints ys), .lst h2 .nil, shaped_ints ys, by decide +kernel, by rw [eqvAll_nil]; exact q⟩
theorem i_eqSameI {D p : Addr} {ys : List Int} (h : SqL K H D (ys.map V.int)) (h2 : SqL K H p (ys.map V.int)) (q : Q (.bl true) H) : rEqD K (.ref D) (.ref p) H Q :=
  ⟨_, _, .lst h (dp_ints ys), .lst h2 (dp_ints ys), shaped_ints ys, shaped_ints ys, by rw [SeqAt.eqv_refl _ (by rw [PyData.canLay0]; exact lay_ints ys)]; exact q⟩
theorem i_eqNil {D p : Addr} {ys : List Str} (h : SqL K H D (ys.map V.str)) (h2 : SqL K H p []) (o : ∀ y ∈ ys, okS y = true) (q : Q (.bl ys.isEmpty) H) : rEqD K (.ref D) (.ref p) H Q :=
  ⟨_, _, .lst h (dp_strs ys), .lst h2 .nil, shaped_strs o, by decide +kernel, by rw [eqvAll_nil]; exact q⟩
theorem i_eq00 {D p : Addr} (h : SqL K H D []) (h2 : SqL K H p []) (q : Q (.bl true) H) : rEqD K (.ref D) (.ref p) H Q :=
  i_eqNilI (ys := []) h h2 q
theorem i_ne00 {D p : Addr} (h : SqL K H D []) (h2 : SqL K H p []) (q : Q (.bl false) H) : rNeD K (.ref D) (.ref p) H Q :=
  ⟨_, _, .lst (xs := [].map V.int) h (dp_ints []), .lst h2 .nil, shaped_ints [], by decide +kernel, by rw [eqvAll_nil]; exact q⟩
theorem i_neSame {D p : Addr} {ys : List Str} (h : SqL K H D (ys.map V.str)) (h2 : SqL K H p (ys.map V.str)) (o : ∀ y ∈ ys, okS y = true) (q : Q (.bl false) H) : rNeD K (.ref D) (.ref p) H Q :=
  ⟨_, _, .lst h (dp_strs ys), .lst h2 (dp_strs ys), shaped_strs o, shaped_strs o, by rw [SeqAt.eqv_refl _ (by rw [PyData.canLay0]; exact lay_strs o)]; exact q⟩
theorem nm_ok {z : Str} (h : isNm z = true) : okS z = true := by
  unfold isNm at h
  simp only [Bool.and_eq_true, decide_eq_true_eq, List.all_eq_true] at h
  show PyData.strOk z = true
  unfold PyData.strOk
  rw [Array.all_eq_true']
  intro c hc
  have := h.2 c (by simpa using hc)
  exact decide_eq_true (by omega)
/-! ### rows -/
def rowD (n : Int) (t : Ti) : PyData := .tuple [.int n, .str t.t, .str t.h, .int t.c, .bool t.o]
def RowAt (H : Hp) (n : Int) (t : Ti) (a : Addr) : Prop := H a = some (.tup [.int n, .str t.t, .str t.h, .int t.c, .bl t.o])
theorem RowAt.dp {n : Int} {t : Ti} {a : Addr} (h : RowAt H n t a) : Dp K H (.ref a) (rowD n t) := .tup (SqT.of h) (.cons (.int _) (.cons (.str _) (.cons (.str _) (.cons (.int _) (.cons (.bl _) .nil)))))
def RowsL (H : Hp) (as : List Addr) (ts : Ts) : Prop := Two (fun b nt => RowAt H nt.1 nt.2 b) as ts
theorem RowsL.dp {as : List Addr} {ts : Ts} (h : RowsL H as ts) : DpAll K H (as.map V.ref) (ts.map fun nt => rowD nt.1 nt.2) := by
  induction h with
  | nil => exact .nil
  | cons h _ ih => exact .cons (RowAt.dp h) ih
def rowOk (t : Ti) : Prop := okS t.t = true ∧ okS t.h = true
theorem row_lay {n : Int} {t : Ti} (o : rowOk t) : PyData.canLay0 (rowD n t) = true := by
  unfold rowD
  simp only [PyData.canLay0, PyData.canLayAll0, Bool.and_true, Bool.true_and]
  rw [show PyData.strOk t.t = true from o.1, show PyData.strOk t.h = true from o.2]
  rfl
theorem row_depth {n : Int} {t : Ti} : PyData.depth (rowD n t) = 1 := by
  unfold rowD
  simp [PyData.depth, PyData.depthAll]
theorem row_shaped {n : Int} {t : Ti} (o : rowOk t) : SeqAt.shaped (rowD n t) = true := by
  unfold SeqAt.shaped
  rw [row_lay o, row_depth]
  rfl
theorem rows_lay : ∀ {ts : Ts}, (∀ n t, (n, t) ∈ ts → rowOk t) → PyData.canLayAll0 (ts.map fun nt => rowD nt.1 nt.2) = true
  | [], _ => by simp [PyData.canLayAll0]
  | (n, t) :: r, o => by
    have h2 := rows_lay (ts := r) fun m u hu => o m u (List.mem_cons_of_mem _ hu)
    have h1 := row_lay (n := n) (o n t List.mem_cons_self)
    simp only [List.map_cons, PyData.canLayAll0, h1, h2, Bool.and_true]
theorem rows_depth : ∀ ts : Ts, PyData.depthAll (ts.map fun nt => rowD nt.1 nt.2) ≤ 1
  | [] => by simp [PyData.depthAll]
  | (n, t) :: r => by
    have h2 := rows_depth r
    simp only [List.map_cons, PyData.depthAll, row_depth]
    omega
theorem rows_shaped {ts : Ts} (o : ∀ n t, (n, t) ∈ ts → rowOk t) : SeqAt.shaped (.list (ts.map fun nt => rowD nt.1 nt.2)) = true := by
  have h := rows_depth ts
  unfold SeqAt.shaped
  rw [PyData.canLay0, rows_lay o, PyData.depth]
  simp
  omega
theorem i_neRows {D p : Addr} {as bs : List Addr} {ts : Ts} (h : SqL K H D (as.map V.ref)) (h2 : SqL K H p (bs.map V.ref)) (r1 : RowsL H as ts) (r2 : RowsL H bs ts) (o : ∀ n t, (n, t) ∈ ts → rowOk t) (q : Q (.bl false) H) : rNeD K (.ref D) (.ref p) H Q :=
  ⟨_, _, .lst h r1.dp, .lst h2 r2.dp, rows_shaped o, rows_shaped o, by rw [SeqAt.eqv_refl _ (by rw [PyData.canLay0]; exact rows_lay o)]; exact q⟩
theorem i_neRow {a b : Addr} {n : Int} {t : Ti} (r1 : RowAt H n t a) (r2 : RowAt H n t b) (o : rowOk t) (q : Q (.bl false) H) : rNeD K (.ref a) (.ref b) H Q :=
  ⟨_, _, r1.dp, r2.dp, row_shaped o, row_shaped o, by rw [SeqAt.eqv_refl _ (row_lay o)]; exact q⟩
theorem i_neRows0 {D p : Addr} {as : List Addr} {ts : Ts} (h : SqL K H D (as.map V.ref)) (h2 : SqL K H p []) (r1 : RowsL H as ts) (o : ∀ n t, (n, t) ∈ ts → rowOk t) (q : Q (.bl (!ts.isEmpty)) H) : rNeD K (.ref D) (.ref p) H Q :=
  ⟨_, _, .lst h r1.dp, .lst h2 .nil, rows_shaped o, by decide +kernel, by rw [eqvAll_nil]; exact q⟩
end
end WB

set_option Elab.async false
set_option linter.all false
set_option maxRecDepth 100000
set_option maxHeartbeats 4000000
namespace K20
open PySem PySem.Spec PyProof.Rows L2 HX WB
open TL (tl)
local macro_rules | `(tactic| walk_at "side") => `(tactic| first
  | assumption
  | rfl
  | (show (0 : Int) < _; omega)
  | (unfold CDiv; omega)
  | (unfold CMul; omega)
  | (unfold CPow; omega)
  | (rw [sizeLine_eq]; omega)
  | omega)
local macro_rules | `(tactic| walk_at "e") => `(tactic| first
  | ((with_reducible apply i_var); exact rfl)
  | (with_reducible apply i_c)
  | (with_reducible apply i_op)
  | (with_reducible apply i_un)
  | (with_reducible apply i_rI0)
  | ((with_reducible apply i_rI); (case c => walk_at "side"))
  | (with_reducible apply i_rGe)
  | (with_reducible apply i_rGt)
  | (with_reducible apply i_rU)
  | (with_reducible apply i_rEqI)
  | (with_reducible apply i_rNeI)
  | (with_reducible apply i_rEqS)
  | (with_reducible apply i_rNeS)
  | (with_reducible apply i_rEqB)
  | (with_reducible apply i_rNeB)
  | (with_reducible apply i_rIsN)
  | (with_reducible apply i_rNotN)
  | (with_reducible apply i_rInS)
  | (with_reducible apply i_rNotInS)
  | ((with_reducible apply i_catS); (case c => walk_at "side"))
  | (with_reducible apply i_tcb)
  | (with_reducible apply i_nil)
  | (with_reducible apply i_cons)
  | ((with_reducible apply i_lenS); (case c => walk_at "side"))
  | ((with_reducible apply i_lenL); assumption)
  | (with_reducible apply i_abs)
  | (with_reducible apply i_max2)
  | (with_reducible apply i_min2)
  | ((with_reducible apply i_strI); (case c => walk_at "side"))
  | (with_reducible apply i_intB)
  | (with_reducible apply i_test)
  | (with_reducible apply i_tB)
  | (with_reducible apply i_kB)
  | (with_reducible apply i_and)
  | (with_reducible apply i_or)
  | (with_reducible apply i_not)
  | (with_reducible apply i_if)
  | (with_reducible apply i_andV)
  | (with_reducible apply i_orV)
  | (with_reducible apply i_notV)
  | (with_reducible apply i_kAndV)
  | (with_reducible apply i_kOrV)
  | (with_reducible apply i_kNotV)
  | (with_reducible apply i_chain)
  | (with_reducible apply i_kChain)
  | (with_reducible apply i_drop)
  | (with_reducible apply i_ret)
  | (with_reducible apply i_retN)
  | (with_reducible apply i_ifS)
  | (with_reducible apply i_asg)
  | (with_reducible apply i_gName)
  | (with_reducible apply i_for)
  | (with_reducible apply i_lc)
  | (with_reducible apply i_iList)
  | (with_reducible apply i_iTup)
  | (with_reducible apply i_iStr)
  | (with_reducible apply i_kStrI)
  | (with_reducible apply i_lst)
  | (with_reducible apply i_tup)
  | (with_reducible apply i_call)
  | (with_reducible apply i_m1)
  | (with_reducible apply i_kStr)
  | (with_reducible apply i_bm)
  | (with_reducible apply i_bm0)
  | (with_reducible apply i_part)
  | (with_reducible apply i_kInt)
  | (with_reducible apply i_noPart)
  | (with_reducible apply i_sl)
  | (with_reducible apply i_range1)
  | (with_reducible apply i_range2)
  | ((with_reducible apply i_kRng1); (case c => walk_at "side"))
  | ((with_reducible apply i_kRng2); (case c => walk_at "side"))
  | (with_reducible apply i_gCons)
  | (with_reducible apply i_gNil)
  | (with_reducible apply i_gSub)
  | (with_reducible apply i_iZip)
  | (with_reducible apply i_yes)
  | (with_reducible apply i_ift)
  | (with_reducible apply i_iff)
  | (with_reducible apply i_nb))
local macro_rules | `(tactic| walk_at "go") => `(tactic| repeat (first | (with_reducible apply i_seq) | (with_reducible apply i_next) | walk_at "e"))
local macro_rules | `(tactic| walk_at "ge") => `(tactic| repeat walk_at "e")
local macro_rules | `(tactic| walk_at "sz") => `(tactic| first | decide | (rw [sizeLine_eq]; simp; done) | (rw [sizeLine_eq]; omega))
local macro_rules | `(tactic| walk_at "side") => `(tactic| (with_reducible exact WB.most_pos))
local macro_rules | `(tactic| walk_at "e") => `(tactic| first
  | ((with_reducible apply i_isT (b := true)); exact rfl)
  | ((with_reducible apply i_isT (b := false)); exact rfl)
  | (with_reducible apply i_fld)
  | ((with_reducible apply i_kFld); (case h => assumption); (case c1 => assumption); (case c2 => assumption); (case e => first | exact lk_number | exact lk_tail | exact lk_head | exact lk_load | exact lk_oneway | exact lk_points | exact lk_ties | exact lk_given))
  | (with_reducible apply i_sfld)
  | ((with_reducible apply i_kSFld); (case h => first | assumption | exact upd_same); (case c1 => assumption); (case c2 => assumption); (case e => exact Nat.le_of_ble_eq_true rfl))
  | (with_reducible apply i_methC)
  | (with_reducible apply i_make)
  | (with_reducible apply i_fldaug)
  | (with_reducible apply i_vals)
  | (with_reducible apply i_items)
  | (with_reducible apply i_dget)
  | (with_reducible apply i_dput)
  | (with_reducible apply i_din)
  | (with_reducible apply i_dnotin)
  | (with_reducible apply i_ddel)
  | (with_reducible apply i_dc)
  | (with_reducible apply i_enum)
  | (with_reducible apply i_ckw))
/-- a way, step by step -/
structure Path (S : Steps) (one : Str) (ns : List Int) (ps : List Str) (y : Str) : Prop where
  len : ps.length = ns.length + 1
  hd : ps[0]? = some one
  last : ps[ns.length]? = some y
  st : ∀ (i : Nat) (n : Int), ns[i]? = some n → ∃ a z, ps[i]? = some a ∧ ps[i + 1]? = some z ∧ (n, z) ∈ S a
theorem path_of {S : Steps} {one y : Str} {ns : List Int} {ps : List Str} (h : Leads S one ns ps y) : Path S one ns ps y := by
  induction h with
  | here => exact ⟨rfl, rfl, rfl, fun i n e => by simp at e⟩
  | @snoc a y ns ps n h s ih =>
    have l1 := ih.len
    refine ⟨by simp [l1], get_app ih.hd, ?_, fun i m e => ?_⟩
    · rw [List.length_append, List.length_singleton, ← l1, List.getElem?_append_right (Nat.le_refl _)]
      simp
    · rcases Nat.lt_or_ge i ns.length with c | c
      · rw [List.getElem?_append_left c] at e
        obtain ⟨b, z, e1, e2, e3⟩ := ih.st i m e
        exact ⟨b, z, get_app e1, get_app e2, e3⟩
      · rw [List.getElem?_append_right c] at e
        have hi : i - ns.length = 0 := by
          have := (List.getElem?_eq_some_iff.mp e).1
          simp at this; omega
        rw [hi] at e
        cases e
        have hi2 : i = ns.length := by omega
        subst hi2
        refine ⟨a, y, get_app ih.last, ?_, s⟩
        rw [← l1, List.getElem?_append_right (Nat.le_refl _)]
        simp
theorem i_eqSame {K : PySem.W.Frag} {H : Hp} {Q : VK} {D p : Addr} {ys : List Str} (h : SqL K H D (ys.map V.str)) (h2 : SqL K H p (ys.map V.str)) (o : ∀ y ∈ ys, okS y = true) (q : Q (.bl true) H) : rEqD K (.ref D) (.ref p) H Q :=
  ⟨_, _, .lst h (dp_strs ys), .lst h2 (dp_strs ys), shaped_strs o, shaped_strs o, by rw [SeqAt.eqv_refl _ (by rw [PyData.canLay0]; exact lay_strs o)]; exact q⟩
/-- the law's own steps, nothing left out -/
def ownS (b : Bool) (ts : Ts) : Steps := fun x => ts.flatMap fun nt => ((turnsOf b nt.2).filter fun p => decide (p.1 = x)).map fun p => (nt.1, p.2)
theorem own_mem {b : Bool} {n : Int} {ts : Ts} {x y : Str} : (n, y) ∈ ownS b ts x ↔ ∃ u, (n, u) ∈ ts ∧ (x, y) ∈ turnsOf b u := by
  unfold ownS
  rw [List.mem_flatMap]
  constructor
  · rintro ⟨⟨m, u⟩, hm, h⟩
    obtain ⟨⟨a, z⟩, hp, e⟩ := List.mem_map.mp h
    obtain ⟨h1, h2⟩ := List.mem_filter.mp hp
    have h2 : a = x := by simpa using h2
    cases e
    subst h2
    exact ⟨u, hm, h1⟩
  · rintro ⟨u, hu, h1⟩
    exact ⟨(n, u), hu, List.mem_map.mpr ⟨(x, y), List.mem_filter.mpr ⟨h1, by simp⟩, rfl⟩⟩
theorem own_plain {ts : Ts} (a : Str) (n : Int) (z : Str) : (n, z) ∈ plainS ts a ↔ (n, z) ∈ ownS false ts a := by
  rw [plain_mem, own_mem]
  constructor
  · rintro ⟨u, hu, c⟩
    exact ⟨u, hu, turns_mem.mpr (c.imp id fun c => ⟨rfl, c⟩)⟩
  · rintro ⟨u, hu, ht⟩
    exact ⟨u, hu, (turns_mem.mp ht).imp id fun c => c.2⟩
theorem own_free {ts : Ts} (a : Str) (n : Int) (z : Str) : (n, z) ∈ freeS ts a ↔ (n, z) ∈ ownS true ts a := by
  rw [free_mem, own_mem]
  constructor
  · rintro ⟨u, hu, c⟩
    refine ⟨u, hu, turns_mem.mpr (c.imp id fun c => ⟨by simpa using c.1, c.2⟩)⟩
  · rintro ⟨u, hu, ht⟩
    exact ⟨u, hu, (turns_mem.mp ht).imp id fun c => ⟨by simpa using c.1, c.2⟩⟩
/-- where a tie leads from a point: one end at the most -/
def endsOf (b : Bool) (t : Ti) (x : Str) : List Str := ((turnsOf b t).filter fun p => decide (p.1 = x)).map (·.2)
theorem ends_one {b : Bool} {t : Ti} {x y : Str} (h : (x, y) ∈ turnsOf b t) (ne : t.t ≠ t.h) : endsOf b t x = [y] := by
  unfold endsOf
  rcases turns_mem.mp h with ⟨rfl, rfl⟩ | ⟨c, rfl, rfl⟩
  · unfold turnsOf
    split
    · simp
    · simp [ne.symm]
  · unfold turnsOf
    rw [c]
    simp [ne]
section
variable {P : Program} {w : World} {K : PySem.W.Frag} {mg : Str → Option Value} {base : Heap}
def sp_whole : Sp := fun vs H Q _ => ∃ n : Int, vs = [.int n] ∧ Q (.bl true) H
theorem ok_law_whole (T : Tx K mg) : FnOk P w K mg base CX0 1 (He.ga K "_law_whole") T.fd_law_whole ["_law_thing"] sp_whole := by
  refine T.F_law_whole.ok sc_law_whole (fun vs H Q E h => ?_) (fun cdv A outer s H vs Q E hr h => ?_)
  · obtain ⟨_, rfl, _⟩ := h
    rfl
  · obtain ⟨n, rfl, q⟩ := h
    refine ⟨_, PSs.nox (pss_one (ps_ret (pe_and (pe_callB call_isi (by rfl) T.b_isinstance (by decide +kernel) (pa_cons (pv 0) (pa_cons (pe_bltn (v := .ty "int") rfl T.b_int (by decide +kernel) rfl) pa_nil))) (pe_one (pe_not (pe_callB call_isi (by rfl) T.b_isinstance (by decide +kernel) (pa_cons (pv 0) (pa_cons (pe_bltn (v := .ty "bool") rfl T.b_bool (by decide +kernel) rfl) pa_nil)))))))), ?_⟩
    walk_at "go"
    exact q
def sp_way : Sp := fun vs H Q _ => ∃ b rs ts nl ns one other bb ps, vs = [.ref b, .ref nl, .str one, .str other, .bl bb] ∧ H b = some (.lst ((rs : List Addr).map V.ref)) ∧ RowsL H rs ts ∧ Rise ts ∧ (∀ n t, (n, t) ∈ ts → t.t ≠ t.h) ∧ H nl = some (.lst ((ns : List Int).map V.int)) ∧ Path (ownS bb ts) one ns ps other ∧ ps.Nodup ∧ (∀ x ∈ ps, okS x = true) ∧ ns.length ≤ 64 ∧ ∀ H', Same H H' → Q (.bl true) H'
theorem ok_law_way (T : Tx K mg) : FnOk P w K mg base CX0 2 (He.ga K "_law_way") T.fd_law_way ["_law_rows", "_law_numbers", "_law_one", "_law_other", "_law_is_ahead"] sp_way := by
  refine T.F_law_way.ok sc_law_way (fun vs H Q E h => ?_) (fun cdv A outer s H vs Q E hr h => ?_)
  · obtain ⟨_, _, _, _, _, _, _, _, _, rfl, _⟩ := h
    rfl
  · obtain ⟨b, rs, ts, nl, ns, one, other, bb, ps, rfl, hb, hrs, rise, hne, hnl, pth, nd, oks, l64, q⟩ := h
    have hu := hu_of hr
    refine ⟨_, PSs.nox (pss_cons (ps_if (pt_not (pt_val (pe_callB call_isi (by rfl) T.b_isinstance (by decide +kernel) (pa_cons (pv 1) (pa_cons (pe_bltn (v := .ty "list") rfl T.b_list (by decide +kernel) rfl) pa_nil))))) (pss_one (ps_ret pe_bl)) pss_nil)
      (pss_cons (ps_set (i := 5) sc_law_way.nd rfl (Or.inr rfl) (pe_lst (pa_cons (pv 2) pa_nil)))
      (pss_cons (ps_for PassesOwn.never rfl (pi_list (pv 1)) (pg_name (i := 6) sc_law_way.nd rfl (Or.inl rfl))
      (pss_cons (ps_if (pt_not (pt_val (pe_call (ok_law_whole T) (hr.mono (by decide)) (by rfl) T.g_law_whole T.F_law_whole.kp T.k_law_whole .nil pass0 (pa_cons (pv 6) pa_nil)))) (pss_one (ps_ret pe_bl)) pss_nil)
      (pss_cons (ps_set (i := 7) sc_law_way.nd rfl (Or.inl rfl) (pe_lst pa_nil))
      (pss_cons (ps_for PassesOwn.never rfl (pi_list (pv 0)) (pg_name (i := 8) sc_law_way.nd rfl (Or.inl rfl))
      (pss_one (ps_if (pt_cmpR op_eq (pe_dget hu (pv 8) pe_str (fun _ _ => rfl)) (pv 6) (nomark _)) (pss_one (ps_setLc (i := 7) (own := [("_law_begin", 9), ("_law_end", 10)]) (by rfl) sc_law_way.nd rfl rfl (sw_true rfl rfl rfl (by decide +kernel)) (pi_list (pe_call (ok_law_turns T) (hr.mono (by decide)) (by rfl) T.g_law_turns T.F_law_turns.kp T.k_law_turns .nil pass0 (pa_cons (pv 8) (pa_cons (pv 4) pa_nil)))) (blkOk_by (own := [("_law_begin", 9), ("_law_end", 10)]) (N := N_law_way) (sc := defScope s_law_way) (by decide +kernel)) (fun _ _ _ _ _ => (pg_tupK (n := 2) K rfl rfl (pgs_cons (pg_name (i := 9) sc_law_way.nd rfl (Or.inl rfl)) (pgs_cons (pg_name (i := 10) sc_law_way.nd rfl (Or.inl rfl)) pgs_nil)))) (fun _ _ _ _ _ => (pts_one (pt_cmpR op_eq (pv 9) (pe_ix (ix_listK K rfl) (pv 5) (pe_un un_neg pe_int) (fun _ _ => rfl)) (nomark _)))) (fun _ _ _ _ _ => (pv 10)))) pss_nil)))
      (pss_cons (ps_if (PW.pt (pw_or (pt_cmpR (op_eqD hr.units) (pv 7) (pe_lst pa_nil) (nomark _)) (pw_or1 (pt_cmpR op_in_seq (pe_ix ix_list (pv 7) pe_int (fun _ _ => rfl)) (pv 5) (by rfl))))) (pss_one (ps_ret pe_bl)) pss_nil)
      (pss_one (ps_expr (pe_bm PySem.F.plainAttrs_list PySem.F.slot_list_append PySem.F.type_list_append mt_append (pv 5) (pa_cons (pe_ix ix_list (pv 7) pe_int (fun _ _ => rfl)) pa_nil)))))))))
      (pss_one (ps_ret (pe_cmpR op_eq (pe_ix ix_list (pv 5) (pe_un un_neg pe_int) (fun _ _ => rfl)) (pv 3) (nomark _))))))), ?_⟩
    have hln := Two.len hrs
    have pln := pth.len
    walk_at "go"
    refine i_isL hnl ?_
    walk_at "go"
    refine ⟨by walk_at "sz", fun a ha => ?_⟩
    have s1 : Same H (upd H a (.lst [.str one])) := Same.new ha
    have ea : (upd H a (.lst [.str one])) a = some (.lst ((ps.take (0 + 1)).map V.str)) := by
      rw [upd_same, List.take_add_one, pth.hd]; rfl
    generalize upd H a (.lst [.str one]) = H1 at s1 ea ⊢
    walk_at "go"
    refine i_kListI (SqL.of (s1 _ _ hnl)) ?_
    refine for_it walk_list (fun i σ H' => Same H H' ∧ H' a = some (.lst ((ps.take (i + 1)).map V.str)) ∧ ∃ v6 v7 v8, σ = [some (.ref b), some (.ref nl), some (.str one), some (.str other), some (.bl bb), some (.ref a), v6, v7, v8, none, none])
      ⟨s1, ea, none, none, none, rfl⟩ (fun i σ H' _ h => SqL.of (h.1 _ _ hnl)) ?_ ?_
    · rintro i v σ H2 H3 hi ⟨s2, ea2, v6, v7, v8, rfl⟩ ⟨rfl, hv⟩
      rw [List.length_map] at hi
      rw [List.getElem?_map, List.getElem?_eq_getElem hi] at hv
      cases hv
      obtain ⟨x, y, ex, ey, hs⟩ := pth.st i ns[i] (List.getElem?_eq_getElem hi)
      obtain ⟨u, hu1, hu2⟩ := own_mem.mp hs
      have eo := ends_one hu2 (hne _ _ hu1)
      generalize ns[i] = n at hs hu1 ⊢
      have tkx : ps.take (i + 1) = ps.take i ++ [x] := by rw [List.take_add_one, ex]; rfl
      have tky : ps.take (i + 1 + 1) = ps.take (i + 1) ++ [y] := by rw [List.take_add_one, ey]; rfl
      have atx : atI ((ps.take (i + 1)).map V.str) (-1) = some (.str x) := by
        rw [tkx, List.map_append]
        exact atI_last _ _
      have ny : y ∉ ps.take (i + 1) := fun m => by
        obtain ⟨k, hk, e⟩ := List.mem_take_iff_getElem.mp m
        obtain ⟨h1, h2⟩ := List.getElem?_eq_some_iff.mp ey
        have := (List.getElem_inj nd (h₀ := by omega) (h₁ := h1)).mp (e.trans h2.symm)
        omega
      have tl3 : (ps.take (i + 1)).length = i + 1 := by rw [List.length_take]; omega
      walk_at "go"
      refine ⟨n, rfl, ?_⟩
      walk_at "go"
      refine ⟨by walk_at "sz", fun f hf => ?_⟩
      have s3 : Same H3 (upd H3 f (.lst [])) := Same.new hf
      have ef : (upd H3 f (.lst [])) f = some (.lst []) := upd_same
      have ea3 := s3 _ _ ea2
      generalize upd H3 f (.lst []) = H4 at s3 ef ea3 ⊢
      have s4 := s2.trans s3
      walk_at "go"
      refine i_kListI (SqL.of (s4 _ _ hb)) ?_
      refine for_it walk_list (fun j σ H' => Same H H' ∧ H' a = some (.lst ((ps.take (i + 1)).map V.str)) ∧ ∃ g, H' g = some (.lst ((if n ∈ (ts.take j).map (·.1) then [y] else []).map V.str)) ∧ ∃ v8, σ = [some (.ref b), some (.ref nl), some (.str one), some (.str other), some (.bl bb), some (.ref a), some (.int n), some (.ref g), v8, none, none])
        ⟨s4, ea3, f, by rw [ef]; rfl, v8, rfl⟩ (fun j σ H' _ h => SqL.of (h.1 _ _ hb)) ?_ ?_
      · rintro j v σ H5 H6 hj ⟨s5, ea5, g, eg, v8, rfl⟩ ⟨rfl, hv⟩
        rw [List.length_map] at hj
        rw [List.getElem?_map, List.getElem?_eq_getElem hj] at hv
        cases hv
        obtain ⟨⟨m, t⟩, et, ra⟩ := Two.get hrs (List.getElem?_eq_getElem hj)
        generalize rs[j] = rj at ra
        obtain ⟨kvs, ek, rk⟩ := ra
        have k1 : valV kvs (Sum.inr "number") = some (.int m) := rk.number
        have mt := List.mem_of_getElem? et
        have tk : (ts.take (j + 1)).map (·.1) = (ts.take j).map (·.1) ++ [m] := by rw [List.take_add_one, et, List.map_append]; rfl
        rw [tk]
        walk_at "go"
        refine i_kDGetS (s5 _ _ ek) k1 ?_
        walk_at "go"
        refine i_dec (fun em => ?_) (fun em => ?_)
        · subst em
          have tu : t = u := by
            have h1 := tget_of rise mt
            rw [tget_of rise hu1] at h1
            exact (Option.some.inj h1).symm
          subst tu
          walk_at "go"
          refine ⟨rj, m, t, bb, rfl, ⟨kvs, s5 _ _ ek, rk⟩, fun c as H7 s7 hc ec hps => ?_⟩
          have hpl := Two.len hps
          have ea7 := s7 _ _ ea5
          walk_at "go"
          refine i_kListI (SqL.of ec) ?_
          intro D hD
          refine lc_it walk_list (fun k H' => Same H7 H' ∧ H' D = some (.lst ((((turnsOf bb t).take k).filter fun p => decide (p.1 = x)).map fun p => V.str p.2)))
            ⟨Same.new hD, by rw [upd_same]; rfl⟩ (fun k H' _ h => SqL.of (h.1 _ _ ec)) ?_ ?_
          · rintro k v H8 H9 hk ⟨s8, eD⟩ ⟨rfl, hv⟩
            rw [List.length_map] at hk
            rw [List.getElem?_map, List.getElem?_eq_getElem hk] at hv
            cases hv
            obtain ⟨⟨p1, p2⟩, ep, pt⟩ := Two.get hps (List.getElem?_eq_getElem hk)
            have tk2 : (turnsOf bb t).take (k + 1) = (turnsOf bb t).take k ++ [(p1, p2)] := by rw [List.take_add_one, ep]; rfl
            have pt9 : H9 as[k] = some (.tup [.str p1, .str p2]) := s8 _ _ pt
            have l2 : (turnsOf bb t).length ≤ 2 := by unfold turnsOf; split <;> simp
            have ea9 := s8 _ _ ea7
            rw [tk2]
            walk_at "go"
            refine i_gTup (SqT.of pt9) rfl ?_
            walk_at "go"
            refine ⟨rfl, ?_⟩
            walk_at "go"
            refine i_ixL (SqL.of ea9) atx ?_
            walk_at "go"
            refine i_dec (fun ex1 => ?_) (fun ex1 => ?_)
            · walk_at "go"
              refine ⟨_, eD, ?_, Same.mut s8 hD, ?_⟩
              · have l3 := List.length_filter_le (fun p : Str × Str => decide (p.1 = x)) ((turnsOf bb t).take k)
                rw [List.length_take] at l3
                rw [List.length_map, sizeLine_eq]; omega
              · rw [upd_same, List.filter_append, List.map_append, List.filter_cons, if_pos (decide_eq_true ex1)]
                rfl
            · refine ⟨s8, ?_⟩
              rw [eD, List.filter_append, List.filter_cons, if_neg (by simpa using ex1), List.filter_nil, List.append_nil]
          · rintro H8 ⟨s8, eD⟩
            rw [List.length_map, hpl, List.take_length] at eD
            walk_at "go"
            have e2 : ((turnsOf bb t).filter fun p => decide (p.1 = x)).map (fun p => V.str p.2) = [V.str y] := by
              have := congrArg (List.map V.str) eo
              unfold endsOf at this
              rw [List.map_map] at this
              exact this
            rw [e2] at eD
            refine ⟨(s5.trans s7).trans s8, s8 _ _ ea7, D, ?_, _, rfl⟩
            rw [eD, if_pos (List.mem_append.mpr (.inr (by simp)))]
            rfl
        · walk_at "go"
          refine ⟨s5, ea5, g, ?_, _, rfl⟩
          rw [eg]
          have : (n ∈ (ts.take j).map (·.1) ++ [m]) ↔ n ∈ (ts.take j).map (·.1) := by
            rw [List.mem_append]
            exact ⟨fun h => h.elim id fun h => absurd (List.mem_singleton.mp h).symm em, .inl⟩
          simp only [this]
      · rintro σ H5 ⟨s5, ea5, g, eg, v8, rfl⟩
        have mem : n ∈ (ts.take (rs.map V.ref).length).map (·.1) := by
          rw [List.length_map, hln, List.take_length]
          exact List.mem_map.mpr ⟨(n, u), hu1, rfl⟩
        rw [if_pos mem] at eg
        have oy : okS y = true := oks y (List.mem_of_getElem? ey)
        walk_at "go"
        refine ⟨by walk_at "sz", fun z hz => ?_⟩
        have s6 : Same H5 (upd H5 z (.lst [])) := Same.new hz
        have eg6 := s6 _ _ eg
        have ea6 := s6 _ _ ea5
        refine i_eqNil (SqL.of eg6) (SqL.of upd_same) (fun w hw => by rw [List.mem_singleton.mp hw]; exact oy) ?_
        generalize upd H5 z (.lst []) = H6 at s6 eg6 ea6 ⊢
        have s56 := s5.trans s6
        walk_at "go"
        refine i_b (fun c => (by cases c)) (fun _ => ?_)
        walk_at "go"
        refine i_ixL (SqL.of eg6) (j := 0) (v := .str y) rfl ?_
        walk_at "go"
        refine i_inS (SqL.of ea6) ?_
        rw [decide_eq_false ny]
        show kB _ (.bl false) _
        walk_at "go"
        refine i_kTyL (SqL.of ea6) ?_
        walk_at "go"
        refine i_ixL (SqL.of eg6) (j := 0) (v := .str y) rfl ?_
        walk_at "go"
        refine i_append ea6 ?_ (by rw [List.length_map, tl3, sizeLine_eq]; omega)
        walk_at "go"
        refine ⟨Same.mut s56 ha, ?_, _, _, _, rfl⟩
        rw [upd_same, tky, List.map_append]
        rfl
    · rintro σ H2 ⟨s2, ea2, v6, v7, v8, rfl⟩
      rw [List.length_map] at ea2
      have lst : atI ((ps.take (ns.length + 1)).map V.str) (-1) = some (.str other) := by
        rw [List.take_add_one, pth.last, List.map_append]
        exact atI_last _ _
      walk_at "go"
      refine i_ixL (SqL.of ea2) lst ?_
      walk_at "go"
      rw [decide_eq_true rfl]
      exact q H2 s2
end
end K20

set_option Elab.async false
set_option linter.all false
set_option maxRecDepth 100000
set_option maxHeartbeats 4000000
namespace K20
open PySem PySem.Spec PyProof.Rows L2 HX WB
open TL (tl)
local macro_rules | `(tactic| walk_at "side") => `(tactic| first
  | assumption
  | rfl
  | (show (0 : Int) < _; omega)
  | (unfold CDiv; omega)
  | (unfold CMul; omega)
  | (unfold CPow; omega)
  | (rw [sizeLine_eq]; omega)
  | omega)
local macro_rules | `(tactic| walk_at "e") => `(tactic| first
  | ((with_reducible apply i_var); exact rfl)
  | (with_reducible apply i_c)
  | (with_reducible apply i_op)
  | (with_reducible apply i_un)
  | (with_reducible apply i_rI0)
  | ((with_reducible apply i_rI); (case c => walk_at "side"))
  | (with_reducible apply i_rGe)
  | (with_reducible apply i_rGt)
  | (with_reducible apply i_rU)
  | (with_reducible apply i_rEqI)
  | (with_reducible apply i_rNeI)
  | (with_reducible apply i_rEqS)
  | (with_reducible apply i_rNeS)
  | (with_reducible apply i_rEqB)
  | (with_reducible apply i_rNeB)
  | (with_reducible apply i_rIsN)
  | (with_reducible apply i_rNotN)
  | (with_reducible apply i_rInS)
  | (with_reducible apply i_rNotInS)
  | ((with_reducible apply i_catS); (case c => walk_at "side"))
  | (with_reducible apply i_tcb)
  | (with_reducible apply i_nil)
  | (with_reducible apply i_cons)
  | ((with_reducible apply i_lenS); (case c => walk_at "side"))
  | ((with_reducible apply i_lenL); assumption)
  | (with_reducible apply i_abs)
  | (with_reducible apply i_max2)
  | (with_reducible apply i_min2)
  | ((with_reducible apply i_strI); (case c => walk_at "side"))
  | (with_reducible apply i_intB)
  | (with_reducible apply i_test)
  | (with_reducible apply i_tB)
  | (with_reducible apply i_kB)
  | (with_reducible apply i_and)
  | (with_reducible apply i_or)
  | (with_reducible apply i_not)
  | (with_reducible apply i_if)
  | (with_reducible apply i_andV)
  | (with_reducible apply i_orV)
  | (with_reducible apply i_notV)
  | (with_reducible apply i_kAndV)
  | (with_reducible apply i_kOrV)
  | (with_reducible apply i_kNotV)
  | (with_reducible apply i_chain)
  | (with_reducible apply i_kChain)
  | (with_reducible apply i_drop)
  | (with_reducible apply i_ret)
  | (with_reducible apply i_retN)
  | (with_reducible apply i_ifS)
  | (with_reducible apply i_asg)
  | (with_reducible apply i_gName)
  | (with_reducible apply i_for)
  | (with_reducible apply i_lc)
  | (with_reducible apply i_iList)
  | (with_reducible apply i_iTup)
  | (with_reducible apply i_iStr)
  | (with_reducible apply i_kStrI)
  | (with_reducible apply i_lst)
  | (with_reducible apply i_tup)
  | (with_reducible apply i_call)
  | (with_reducible apply i_m1)
  | (with_reducible apply i_kStr)
  | (with_reducible apply i_bm)
  | (with_reducible apply i_bm0)
  | (with_reducible apply i_part)
  | (with_reducible apply i_kInt)
  | (with_reducible apply i_noPart)
  | (with_reducible apply i_sl)
  | (with_reducible apply i_range1)
  | (with_reducible apply i_range2)
  | ((with_reducible apply i_kRng1); (case c => walk_at "side"))
  | ((with_reducible apply i_kRng2); (case c => walk_at "side"))
  | (with_reducible apply i_gCons)
  | (with_reducible apply i_gNil)
  | (with_reducible apply i_gSub)
  | (with_reducible apply i_iZip)
  | (with_reducible apply i_yes)
  | (with_reducible apply i_ift)
  | (with_reducible apply i_iff)
  | (with_reducible apply i_nb))
local macro_rules | `(tactic| walk_at "go") => `(tactic| repeat (first | (with_reducible apply i_seq) | (with_reducible apply i_next) | walk_at "e"))
local macro_rules | `(tactic| walk_at "ge") => `(tactic| repeat walk_at "e")
local macro_rules | `(tactic| walk_at "sz") => `(tactic| first | decide | (rw [sizeLine_eq]; simp; done) | (rw [sizeLine_eq]; omega))
local macro_rules | `(tactic| walk_at "side") => `(tactic| (with_reducible exact WB.most_pos))
local macro_rules | `(tactic| walk_at "e") => `(tactic| first
  | ((with_reducible apply i_isT (b := true)); exact rfl)
  | ((with_reducible apply i_isT (b := false)); exact rfl)
  | (with_reducible apply i_fld)
  | ((with_reducible apply i_kFld); (case h => assumption); (case c1 => assumption); (case c2 => assumption); (case e => first | exact lk_number | exact lk_tail | exact lk_head | exact lk_load | exact lk_oneway | exact lk_points | exact lk_ties | exact lk_given))
  | (with_reducible apply i_sfld)
  | ((with_reducible apply i_kSFld); (case h => first | assumption | exact upd_same); (case c1 => assumption); (case c2 => assumption); (case e => exact Nat.le_of_ble_eq_true rfl))
  | (with_reducible apply i_methC)
  | (with_reducible apply i_make)
  | (with_reducible apply i_fldaug)
  | (with_reducible apply i_vals)
  | (with_reducible apply i_items)
  | (with_reducible apply i_dget)
  | (with_reducible apply i_dput)
  | (with_reducible apply i_din)
  | (with_reducible apply i_dnotin)
  | (with_reducible apply i_ddel)
  | (with_reducible apply i_dc)
  | (with_reducible apply i_enum)
  | (with_reducible apply i_ckw))
/-! ### what an instance is -/
theorem i_isTo {K : PySem.W.Frag} {H : Hp} {a dx : Addr} {fs : List (Str × V)} {Q : VK} {x y : Str} {b : Bool} (h1 : isA K x = true) (h2 : PySem.W.specialIn K (.builtin "object.__class__") "__get__" = some (some (.builtin "getset_descriptor.__get__"))) (h3 : PySem.W.takesIn K (.builtin "object.__class__") = some true) (h4 : isTo K x y b = true)
    (c : Cls K (He.ga K x)) (h : H a = some (.ins (He.ga K x) dx fs)) (q : Q (.bl b) H) : rIsi K [.ref a, .ref (He.ga K y)] H Q := by
  unfold isA at h1
  unfold isTo at h4
  simp only [Bool.and_eq_true, decide_eq_true_eq] at h1 h4
  exact ⟨_, _, _, _, _, rfl, .own _, .base (.ins h c h1.1 h2 h3 h1.2), h4, q⟩
/-- what is told, plainly: a tuple of a word and a list -/
structure Told (H : Hp) (t z : Addr) (q : Str × List V) : Prop where
  tup : H t = some (.tup [.str q.1, .ref z])
  lst : H z = some (.lst q.2)
theorem Told.same {H H' : Hp} {t z : Addr} {q : Str × List V} (h : Told H t z q) (m : Same H H') : Told H' t z q := ⟨m _ _ h.tup, m _ _ h.lst⟩
/-- plain data in a list -/
def Flat (xs : List V) : Prop := ∃ ds, (∀ K H, DpAll K H xs ds) ∧ PyData.canLayAll0 ds = true ∧ PyData.depthAll ds = 0
theorem flat_ints (ns : List Int) : Flat (ns.map V.int) := ⟨_, fun _ _ => dp_ints ns, lay_ints ns, depth_ints ns⟩
theorem flat_names {xs : List Str} (h : ∀ x ∈ xs, isNm x = true) : Flat (xs.map V.str) := ⟨_, fun _ _ => dp_strs xs, lay_strs fun x hx => nm_ok (h x hx), depth_strs xs⟩
section
variable {K : PySem.W.Frag} {H : Hp} {Q : VK} {t z t2 z2 : Addr} {q : Str × List V}
theorem told_dp (h : Told H t z q) {ds : List PyData} (d : DpAll K H q.2 ds) : Dp K H (.ref t) (.tuple [.str q.1, .list ds]) := .tup (SqT.of h.tup) (.cons (.str _) (.cons (.lst (SqL.of h.lst) d) .nil))
theorem told_lay {x : Str} {ds : List PyData} (hx : okS x = true) (l : PyData.canLayAll0 ds = true) : PyData.canLay0 (.tuple [.str x, .list ds]) = true := by
  simp only [PyData.canLay0, PyData.canLayAll0, l, Bool.and_true]
  exact hx
theorem told_shaped {x : Str} {ds : List PyData} (hx : okS x = true) (l : PyData.canLayAll0 ds = true) (d : PyData.depthAll ds = 0) : SeqAt.shaped (.tuple [.str x, .list ds]) = true := by
  unfold SeqAt.shaped
  rw [told_lay hx l]
  simp [PyData.depth, PyData.depthAll, d]
theorem i_eqTold (h : Told H t z q) (h2 : Told H t2 z2 q) (f : Flat q.2) (o : okS q.1 = true) (k : Q (.bl true) H) : rEqD K (.ref t) (.ref t2) H Q := by
  obtain ⟨ds, d, l, dp⟩ := f
  exact ⟨_, _, told_dp h (d K H), told_dp h2 (d K H), told_shaped o l dp, told_shaped o l dp, by rw [SeqAt.eqv_refl _ (told_lay o l)]; exact k⟩
theorem i_neTold (h : Told H t z q) (h2 : Told H t2 z2 q) (f : Flat q.2) (o : okS q.1 = true) (k : Q (.bl false) H) : rNeD K (.ref t) (.ref t2) H Q := by
  obtain ⟨ds, d, l, dp⟩ := f
  exact ⟨_, _, told_dp h (d K H), told_dp h2 (d K H), told_shaped o l dp, told_shaped o l dp, by rw [SeqAt.eqv_refl _ (told_lay o l)]; exact k⟩
end
theorem okS_nm {x : Str} (h : isNm x = true) : okS x = true := nm_ok h
section
variable {P : Program} {w : World} {K : PySem.W.Frag} {mg : Str → Option Value} {base : Heap}
def sp_in_order : Sp := fun vs H Q _ => ∃ a b c ps fs, vs = [.ref a, .ref b, .ref c] ∧ H a = some (.lst ((ps : List Str).map V.str)) ∧ H b = some (.lst ((ps.filter fun x => decide (x ∈ fs)).map V.str)) ∧ H c = some (.lst ((fs : List Str).map V.str)) ∧ (∀ x ∈ ps, isNm x = true) ∧ ps.length ≤ 16 ∧ ∀ H', Same H H' → Q (.bl true) H'
theorem ok_law_in_order (T : Tx K mg) : FnOk P w K mg base CX0 1 (He.ga K "_law_in_order") T.fd_law_in_order ["_law_names_here", "_law_found", "_law_due"] sp_in_order := by
  refine T.F_law_in_order.ok sc_law_in_order (fun vs H Q E h => ?_) (fun cdv A outer s H vs Q E hr h => ?_)
  · obtain ⟨_, _, _, _, _, rfl, _⟩ := h
    rfl
  · obtain ⟨a, b, c, ps, fs, rfl, ha, hb, hc, nm, l16, q⟩ := h
    refine ⟨_, PSs.nox (pss_one (ps_ret (pe_and (pe_callB call_isi (by rfl) T.b_isinstance (by decide +kernel) (pa_cons (pv 1) (pa_cons (pe_bltn (v := .ty "list") rfl T.b_list (by decide +kernel) rfl) pa_nil))) (pe_one (pe_cmpR (op_eqD hr.units) (pv 1) (pe_lc (own := [("_law_name", 3)]) (by rfl) sc_law_in_order.nd (pi_list (pv 0)) (blkOk_by (own := [("_law_name", 3)]) (N := N_law_in_order) (sc := defScope s_law_in_order) (by decide +kernel)) (fun _ _ _ _ _ => (pg_name (i := 3) sc_law_in_order.nd rfl (Or.inl rfl))) (fun _ _ _ _ _ => (pts_one (pt_cmpR (op_in_seqK K rfl) (pv 3) (pv 2) (by rfl)))) (fun _ _ _ _ _ => (pv 3))) (nomark _)))))), ?_⟩
    walk_at "go"
    refine i_isL hb ?_
    walk_at "go"
    refine i_kListI (SqL.of ha) ?_
    intro D hD
    refine lc_it walk_list (fun i H' => Same H H' ∧ H' D = some (.lst (((ps.take i).filter fun x => decide (x ∈ fs)).map V.str)))
      ⟨Same.new hD, by rw [upd_same]; rfl⟩ (fun i H' _ h => SqL.of (h.1 _ _ ha)) ?_ ?_
    · rintro i v H2 H3 hi ⟨s2, eD⟩ ⟨rfl, hv⟩
      rw [List.length_map] at hi
      rw [List.getElem?_map, List.getElem?_eq_getElem hi] at hv
      cases hv
      have tk : ps.take (i + 1) = ps.take i ++ [ps[i]] := by rw [List.take_add_one, List.getElem?_eq_getElem hi]; rfl
      rw [tk]
      generalize ps[i] = x
      walk_at "go"
      refine ⟨rfl, ?_⟩
      walk_at "go"
      refine i_inS (SqL.of (s2 _ _ hc)) ?_
      walk_at "go"
      refine i_dec (fun e => ?_) (fun e => ?_)
      · walk_at "go"
        refine ⟨_, eD, ?_, Same.mut s2 hD, ?_⟩
        · have l3 := List.length_filter_le (fun x : Str => decide (x ∈ fs)) (ps.take i)
          rw [List.length_take] at l3
          rw [List.length_map, sizeLine_eq]; omega
        · rw [upd_same, List.filter_append, List.map_append, List.filter_cons, if_pos (decide_eq_true e)]
          rfl
      · refine ⟨s2, ?_⟩
        rw [eD, List.filter_append, List.filter_cons, if_neg (by simpa using e), List.filter_nil, List.append_nil]
    · rintro H2 ⟨s2, eD⟩
      rw [List.length_map, List.take_length] at eD
      refine i_eqSame (SqL.of (s2 _ _ hb)) (SqL.of eD) (fun y hy => okS_nm (nm y (List.mem_filter.mp hy).1)) ?_
      exact q H2 s2
/-- what is told of a tie -/
def toldM (w : Wb) (n : Int) (t : Ti) : Str × List V :=
  if t.h ∈ keysC (came (plainS (less w.ts n)) t.t) then ("around", (back (came (plainS (less w.ts n)) t.t) 17 t.h).reverse.map V.int) else ("parted", (namesIn w.ps (came (plainS (less w.ts n)) t.t)).map V.str)
end
end K20

set_option Elab.async false
set_option linter.all false
set_option maxRecDepth 100000
set_option maxHeartbeats 2000000
/-! HXsd: sorted(d) of a dict whose keys are texts. -/
namespace SDX
open PySem PySem.Spec PyProof.Rows L2 HX
section
variable {X : Cx}
def rSortedDS : List V → Hp → VK → Prop := fun xs H Q => ∃ (a : Addr) (kvs : List (Key × V)) (ks : List Str), xs = [.ref a] ∧ Rd H a (.dK kvs) ∧ kvs.map (·.1) = ks.map Sum.inr ∧ ks.length < 64 ∧
    ∀ (ys : List Str) (p : Addr), ys.Perm ks → sortedS ys = true → H p = none → Q (.ref p) (upd H p (.lst (ys.map V.str)))
theorem call_sortedDS (hcalm : X.calm = true) : CallR X (.builtin "sorted") rSortedDS := by
  intro pins s σ H xs us Q I r q
  obtain ⟨a, kvs, ks, ex, hd, hks, h64, q⟩ := q
  subst ex
  obtain ⟨u, eu, rx⟩ := vals1 r
  subst eu
  cases rx
  obtain ⟨z, lo, vs, rel, dd⟩ := dk_rd I.hok hd
  obtain ⟨ep, hat⟩ := dd.dictAt
  have hkeys : vs.map (·.1) = ks.map Sum.inr := rel.keys.symm.trans hks
  have hl : vs.length = ks.length := by
    have e := congrArg List.length hkeys
    rw [List.length_map, List.length_map] at e
    exact e
  have h16 : vs.length ≤ sizeLine := by rw [hl, sizeLine_eq]; omega
  refine Calls.call_function_entry PyProof.Rows.kind_sorted PyProof.Rows.plain_sorted PyProof.Rows.entry_sorted (PyProof.Rows.args_sorted1 _) ?_
  unfold Builtin.«sorted»
  refine wpAny_bind (m := checkCount "sorted" 1 1 _) (wpAny_pure ?_)
  refine wpAny_bind (PySem.W.kdu_collect (A := X.A.in1) (PySem.W.kdl_dict (knd := mixKind X.prog X.w) (kvs := vs) (ep := ep) lo) (I.ok.hd hcalm) hat h16 fun h' tk acc hk hacc => ?_)
  have hal : acc.toList.length = ks.length := by rw [Array.length_toList, hacc.1, hl]
  have hS : StrsAre acc.toList ks := L2.strs_at hal fun j v e => by
    obtain ⟨k, x, e1, e2⟩ := hacc.2 j v (by rw [← Array.getElem?_toList]; exact e)
    have e3 : (vs.map (·.1))[j]? = some k := by rw [List.getElem?_map, e1]; rfl
    rw [hkeys, List.getElem?_map] at e3
    cases e4 : ks[j]? with
    | none => rw [e4] at e3; cases e3
    | some y =>
      rw [e4] at e3
      have e5 : Sum.inr y = k := Option.some.inj e3
      subst e5
      rcases keyIs_shape (show keyIs (Sum.inr y) v = true from e2) with ⟨i, t, ek, ev⟩ | ⟨z, t, ek, ev⟩
      · cases ek
      · cases ek
        exact ⟨y, t, rfl, ev⟩
  have I1 : Inv X pins σ H { s with heap := h', toks := tk } := I.kept hk
  refine wpAny_bind (wpAny_newList ?_ (by rw [hal, sizeLine_eq]; omega))
  have hoL : (h'.push (seqObj "list" acc.toList.toArray 0)).get? h'.objs.size = some (seqObj "list" acc.toList.toArray 0) := Heap.get?_push_size _ rfl
  show wpAny _ _ _ _ _ { s with heap := h'.push (seqObj "list" acc.toList.toArray 0), toks := tk }
  refine wpAny_bind (wpAny_holding (wpAny_call_entry PyProof.Rows.slot_list_sort ⟨_, hoL, rfl⟩ PyProof.Rows.entry_list_sort
    (list_sort_treeK (s := { s with heap := h'.push (seqObj "list" acc.toList.toArray 0), toks := tk }) strKind_oneLt hoL hS.keysOf (fun v₁ v₂ rest e => keyKind_strs (by rw [← e]; exact hS)) (by rw [hal]; exact h64) fun st' hp hs => ?_) (PyProof.Rows.args_list_sort _)))
  obtain ⟨ys, g1, g2, g3⟩ := sorted_out_str hS hp hs
  obtain ⟨e', he'⟩ := PyProof.Rows.sortedHeap_at (vs := acc.toList) (out := (arrOf st').map (·.2)) hoL
  have hlen : (ys.map V.str).length ≤ sizeLine := by
    rw [List.length_map, g2.length_eq]
    exact Nat.le_trans (Nat.le_of_lt h64) (by decide)
  refine ⟨_, rfl, ?_⟩
  refine wpAny_pure ⟨_, rfl, .ref h'.objs.size, upd H h'.objs.size (.lst (ys.map V.str)), I1.laid (t' := tk) (fun b u e => ?_) (Nat.le_refl _)
    (show ObjOk X.prog X.w _ _ _ (.lst (ys.map V.str)) from ⟨hlen, ((arrOf st').map (·.2)).toList, e', vals_of_strs g1, by rw [Array.toArray_toList]; exact he'⟩), rfl, q ys _ g2 g3 (I1.hok.fresh (Nat.le_refl _))⟩
  have hb : b < h'.objs.size := Heap.lt_size e
  rw [PyProof.Rows.sortedHeap_old (Nat.ne_of_lt hb) (by rw [size_push']; exact Nat.lt_succ_of_lt hb)]
  exact Heap.get?_push_of_some _ e
end
/-! ### texts in order: the order is one -/
theorem rising_pw : ∀ (p : Str) (l : List Str), risingS p l = true → (p :: l).Pairwise fun a b => a.cps.toList ≤ b.cps.toList
  | p, [], _ => by simp
  | p, x :: r, h => by
    have h : (!ltCps x.cps.toList p.cps.toList && risingS x r) = true := h
    rw [Bool.and_eq_true, ltCps_eq] at h
    have h1 : p.cps.toList ≤ x.cps.toList := by
      have : ¬ x.cps.toList < p.cps.toList := by simpa using h.1
      exact List.not_lt.mp this
    have ih := rising_pw x r h.2
    refine List.pairwise_cons.mpr ⟨fun y hy => ?_, ih⟩
    rcases List.mem_cons.mp hy with rfl | hy
    · exact h1
    · exact List.le_trans h1 ((List.pairwise_cons.mp ih).1 y hy)
theorem sorted_same {xs ys : List Str} (p : xs.Perm ys) (h1 : sortedS xs = true) (h2 : sortedS ys = true) : xs = ys := by
  have pw : ∀ l : List Str, sortedS l = true → l.Pairwise fun a b => a.cps.toList ≤ b.cps.toList := fun l h => by
    cases l with
    | nil => exact .nil
    | cons x r => exact rising_pw x r h
  refine List.Perm.eq_of_pairwise (fun a b _ _ h1 h2 => ?_) (pw xs h1) (pw ys h2) p
  have e : a.cps.toList = b.cps.toList := List.le_antisymm h1 h2
  obtain ⟨a⟩ := a
  obtain ⟨b⟩ := b
  simpa using e
theorem units65 {k : Nat} {A : Around} (r : Room k A) : A.units + 65 < cLine := by have := r.un; omega
end SDX

set_option Elab.async false
set_option linter.all false
set_option maxRecDepth 100000
set_option maxHeartbeats 4000000
namespace K20
open PySem PySem.Spec PyProof.Rows L2 HX WB LamK
open TL (tl)
local macro_rules | `(tactic| walk_at "side") => `(tactic| first
  | assumption
  | rfl
  | (show (0 : Int) < _; omega)
  | (unfold CDiv; omega)
  | (unfold CMul; omega)
  | (unfold CPow; omega)
  | (rw [sizeLine_eq]; omega)
  | omega)
local macro_rules | `(tactic| walk_at "e") => `(tactic| first
  | ((with_reducible apply i_var); exact rfl)
  | (with_reducible apply i_c)
  | (with_reducible apply i_op)
  | (with_reducible apply i_un)
  | (with_reducible apply i_rI0)
  | ((with_reducible apply i_rI); (case c => walk_at "side"))
  | (with_reducible apply i_rGe)
  | (with_reducible apply i_rGt)
  | (with_reducible apply i_rU)
  | (with_reducible apply i_rEqI)
  | (with_reducible apply i_rNeI)
  | (with_reducible apply i_rEqS)
  | (with_reducible apply i_rNeS)
  | (with_reducible apply i_rEqB)
  | (with_reducible apply i_rNeB)
  | (with_reducible apply i_rIsN)
  | (with_reducible apply i_rNotN)
  | (with_reducible apply i_rInS)
  | (with_reducible apply i_rNotInS)
  | ((with_reducible apply i_catS); (case c => walk_at "side"))
  | (with_reducible apply i_tcb)
  | (with_reducible apply i_nil)
  | (with_reducible apply i_cons)
  | ((with_reducible apply i_lenS); (case c => walk_at "side"))
  | ((with_reducible apply i_lenL); assumption)
  | (with_reducible apply i_abs)
  | (with_reducible apply i_max2)
  | (with_reducible apply i_min2)
  | ((with_reducible apply i_strI); (case c => walk_at "side"))
  | (with_reducible apply i_intB)
  | (with_reducible apply i_test)
  | (with_reducible apply i_tB)
  | (with_reducible apply i_kB)
  | (with_reducible apply i_and)
  | (with_reducible apply i_or)
  | (with_reducible apply i_not)
  | (with_reducible apply i_if)
  | (with_reducible apply i_andV)
  | (with_reducible apply i_orV)
  | (with_reducible apply i_notV)
  | (with_reducible apply i_kAndV)
  | (with_reducible apply i_kOrV)
  | (with_reducible apply i_kNotV)
  | (with_reducible apply i_chain)
  | (with_reducible apply i_kChain)
  | (with_reducible apply i_drop)
  | (with_reducible apply i_ret)
  | (with_reducible apply i_retN)
  | (with_reducible apply i_ifS)
  | (with_reducible apply i_asg)
  | (with_reducible apply i_gName)
  | (with_reducible apply i_for)
  | (with_reducible apply i_lc)
  | (with_reducible apply i_iList)
  | (with_reducible apply i_iTup)
  | (with_reducible apply i_iStr)
  | (with_reducible apply i_kStrI)
  | (with_reducible apply i_lst)
  | (with_reducible apply i_tup)
  | (with_reducible apply i_call)
  | (with_reducible apply i_m1)
  | (with_reducible apply i_kStr)
  | (with_reducible apply i_bm)
  | (with_reducible apply i_bm0)
  | (with_reducible apply i_part)
  | (with_reducible apply i_kInt)
  | (with_reducible apply i_noPart)
  | (with_reducible apply i_sl)
  | (with_reducible apply i_range1)
  | (with_reducible apply i_range2)
  | ((with_reducible apply i_kRng1); (case c => walk_at "side"))
  | ((with_reducible apply i_kRng2); (case c => walk_at "side"))
  | (with_reducible apply i_gCons)
  | (with_reducible apply i_gNil)
  | (with_reducible apply i_gSub)
  | (with_reducible apply i_iZip)
  | (with_reducible apply i_yes)
  | (with_reducible apply i_ift)
  | (with_reducible apply i_iff)
  | (with_reducible apply i_nb))
local macro_rules | `(tactic| walk_at "go") => `(tactic| repeat (first | (with_reducible apply i_seq) | (with_reducible apply i_next) | walk_at "e"))
local macro_rules | `(tactic| walk_at "ge") => `(tactic| repeat walk_at "e")
local macro_rules | `(tactic| walk_at "sz") => `(tactic| first | decide | (rw [sizeLine_eq]; simp; done) | (rw [sizeLine_eq]; omega))
local macro_rules | `(tactic| walk_at "side") => `(tactic| (with_reducible exact WB.most_pos))
local macro_rules | `(tactic| walk_at "e") => `(tactic| first
  | ((with_reducible apply i_isT (b := true)); exact rfl)
  | ((with_reducible apply i_isT (b := false)); exact rfl)
  | (with_reducible apply i_fld)
  | ((with_reducible apply i_kFld); (case h => assumption); (case c1 => assumption); (case c2 => assumption); (case e => first | exact lk_number | exact lk_tail | exact lk_head | exact lk_load | exact lk_oneway | exact lk_points | exact lk_ties | exact lk_given))
  | (with_reducible apply i_sfld)
  | ((with_reducible apply i_kSFld); (case h => first | assumption | exact upd_same); (case c1 => assumption); (case c2 => assumption); (case e => exact Nat.le_of_ble_eq_true rfl))
  | (with_reducible apply i_methC)
  | (with_reducible apply i_make)
  | (with_reducible apply i_fldaug)
  | (with_reducible apply i_vals)
  | (with_reducible apply i_items)
  | (with_reducible apply i_dget)
  | (with_reducible apply i_dput)
  | (with_reducible apply i_din)
  | (with_reducible apply i_dnotin)
  | (with_reducible apply i_ddel)
  | (with_reducible apply i_dc)
  | (with_reducible apply i_enum)
  | (with_reducible apply i_ckw))
section
variable {K : PySem.W.Frag} {H : Hp} {Q : VK} {a dx : Addr} {fs : List (Str × V)}
theorem xk_of (xk : extra K = true) : (isA K "Border" = true ∧ isA K "Least" = true) ∧ PySem.W.specialIn K (.builtin "object.__class__") "__get__" = some (some (.builtin "getset_descriptor.__get__")) ∧
    PySem.W.takesIn K (.builtin "object.__class__") = some true ∧ isTo K "Border" "Border" true = true ∧ isTo K "Least" "Border" false = true ∧ isTo K "Least" "Least" true = true := by
  unfold extra at xk
  simpa only [Bool.and_eq_true, decide_eq_true_eq] using xk
theorem i_borBor (xk : extra K = true) (c : Cls K (He.ga K "Border")) (h : H a = some (.ins (He.ga K "Border") dx fs)) (q : Q (.bl true) H) : rIsi K [.ref a, .ref (He.ga K "Border")] H Q :=
  have x := xk_of xk; i_isTo x.1.1 x.2.1 x.2.2.1 x.2.2.2.1 c h q
theorem i_leaBor (xk : extra K = true) (c : Cls K (He.ga K "Least")) (h : H a = some (.ins (He.ga K "Least") dx fs)) (q : Q (.bl false) H) : rIsi K [.ref a, .ref (He.ga K "Border")] H Q :=
  have x := xk_of xk; i_isTo x.1.2 x.2.1 x.2.2.1 x.2.2.2.2.1 c h q
theorem i_leaLea (xk : extra K = true) (c : Cls K (He.ga K "Least")) (h : H a = some (.ins (He.ga K "Least") dx fs)) (q : Q (.bl true) H) : rIsi K [.ref a, .ref (He.ga K "Least")] H Q :=
  have x := xk_of xk; i_isTo x.1.2 x.2.1 x.2.2.1 x.2.2.2.2.2 c h q
theorem i_isDct {kvs : List (Key × V)} (h : H a = some (.dK kvs)) (q : Q (.bl true) H) : rIsi K [.ref a, .ty "dict"] H Q := ⟨_, _, _, _, _, rfl, .ty _, .base (.dK h), kit_ty (by decide +kernel), q⟩
end
theorem inV_int {x : Int} {ys : List Int} : inV (.int x) (ys.map V.int) = decide (x ∈ ys) := by
  unfold inV
  induction ys with
  | nil => simp
  | cons y r ih =>
    rw [List.map_cons, List.any_cons, ih]
    have e : eqV (.int y) (.int x) = decide (x = y) := by
      by_cases c : x = y
      · subst c; simp [eqV]
      · simp [eqV, c]; exact fun h => c h.symm
    rw [e]
    by_cases c : x = y
    · simp [c]
    · simp [c]
theorem flat_int {ys : List Int} : (ys.map V.int).all flatV = true := by
  rw [List.all_eq_true]
  intro v hv
  obtain ⟨y, _, rfl⟩ := List.mem_map.mp hv
  rfl
theorem i_inI {K : PySem.W.Frag} {H : Hp} {Q : VK} {l : Addr} {x : Int} {ys : List Int} {b : Bool} (h : SqL K H l (ys.map V.int)) (q : Q (.bl (if b = true then !decide (x ∈ ys) else decide (x ∈ ys))) H) : rIn K b (.int x) (.ref l) H Q :=
  i_rIn h rfl flat_int (by rw [inV_int]; exact q)
theorem rowF {ts : Ts} (lo : ∀ n t, (n, t) ∈ ts → 1 ≤ n) (a : Str) (n : Int) (z : Str) : (n, z) ∈ rowS true 0 none ts a ↔ (n, z) ∈ freeS ts a := by
  rw [own_free, own_mem, row_mem]
  constructor
  · rintro ⟨u, h1, _, h2, _⟩
    exact ⟨u, h1, h2⟩
  · rintro ⟨u, h1, h2⟩
    exact ⟨u, h1, by have := lo n u h1; omega, h2, by simp⟩
theorem dOf_keys {w : Wb} (ok : Wok w) {one y : Str} (h1 : one ∈ w.ps) : y ∈ (dOf w one).keys ↔ Rch (freeS w.ts) one y := by
  obtain ⟨dok, dL⟩ := dOf_ok ok h1
  refine ⟨dok.rch y, fun r => Rch.of_closed dok.hd (fun a ha s hs => ?_) r⟩
  have aF : a ∈ (dOf w one).F := by
    rcases (dok.part a).mp ha with z | z
    · exact z
    · rw [dL] at z; cases z
  exact (dok.feas a aF s hs (fun z => z)).1
theorem dOf_feas {w : Wb} (ok : Wok w) {one a y : Str} {n : Int} {u : Ti} (h1 : one ∈ w.ps) (ha : a ∈ (dOf w one).keys) (hu : (n, u) ∈ w.ts) (ht : (a, y) ∈ turnsOf true u) : y ∈ (dOf w one).keys ∧ (dOf w one).ht y ≤ (dOf w one).ht a + u.c := by
  obtain ⟨dok, dL⟩ := dOf_ok ok h1
  have aF : a ∈ (dOf w one).F := by
    rcases (dok.part a).mp ha with z | z
    · exact z
    · rw [dL] at z; cases z
  have := dok.feas a aF (n, y) ((own_free _ _ _).mpr (own_mem.mpr ⟨u, hu, ht⟩)) (fun z => z)
  rw [ldOf_mem ok.rise hu] at this
  exact this
theorem seenP_mem {w : Wb} (ok : Wok w) {one y : Str} (h1 : one ∈ w.ps) : y ∈ seenP w one ↔ y ∈ (dOf w one).keys := by
  unfold seenP
  rw [List.mem_filter, decide_eq_true_iff]
  exact ⟨fun c => c.2, fun c => ⟨(dOf_in ok h1).2.2 y c, c⟩⟩
theorem perm_sumI {a b : List Int} (h : a.Perm b) : a.sum = b.sum := by
  induction h with
  | nil => rfl
  | cons x _ ih => rw [List.sum_cons, List.sum_cons, ih]
  | swap x y l => rw [List.sum_cons, List.sum_cons, List.sum_cons, List.sum_cons]; omega
  | trans _ _ h1 h2 => exact h1.trans h2
theorem rise_nd {ts : Ts} (h : Rise ts) : (ts.map (·.1)).Nodup := by
  rw [List.nodup_iff_pairwise_ne, List.pairwise_map]
  exact h.imp fun {a b} c => Int.ne_of_lt c
/-- the way that is found -/
theorem way_found {w : Wb} (ok : Wok w) {one two : Str} (h1 : one ∈ w.ps) (h2 : two ∈ (dOf w one).keys) :
    ∃ ps, Path (ownS true w.ts) one (wayN w one two) ps two ∧ ps.Nodup ∧ (∀ x ∈ ps, x ∈ w.ps) ∧ (wayN w one two).Nodup ∧ ((w.ts.filter fun e => decide (e.1 ∈ wayN w one two)).map (·.2.c)).sum = (dOf w one).ht two ∧ (wayN w one two).length ≤ 64 := by
  obtain ⟨dok, dL⟩ := dOf_ok ok h1
  obtain ⟨k16, f16, kin⟩ := dOf_in ok h1
  have twoF : two ∈ (dOf w one).F := by
    rcases (dok.part two).mp h2 with z | z
    · exact z
    · rw [dL] at z; cases z
  obtain ⟨ps, l, nd, inn, sum⟩ := dok.back dL 17 two h2 (by have := List.idxOf_lt_length_of_mem twoF; omega)
  have l : Leads (freeS w.ts) one (wayN w one two) ps two := l
  have lo : Leads (ownS true w.ts) one (wayN w one two) ps two := l.congr fun a n z m => (own_free a n z).mp m
  have lp : Leads (plainS w.ts) one (wayN w one two) ps two := l.congr fun a n z m => by
    obtain ⟨u, hu, c⟩ := free_mem.mp m
    exact plain_mem.mpr ⟨u, hu, c.imp id fun c => ⟨c.2.1, c.2.2⟩⟩
  have nn := lp.nd ok.rise nd
  have pin : ∀ x ∈ ps, x ∈ w.ps := fun x hx => kin x (inn x hx).1
  have nin : ∀ n ∈ wayN w one two, ∃ u, (n, u) ∈ w.ts := fun n hn => by
    obtain ⟨t, ht, _⟩ := lp.ends n hn
    exact ⟨t, ht⟩
  refine ⟨ps, path_of lo, nd, pin, nn, ?_, ?_⟩
  · have e1 : ((w.ts.filter fun e => decide (e.1 ∈ wayN w one two)).map (·.1)).Perm (wayN w one two) := by
      refine (List.perm_ext_iff_of_nodup (((List.filter_sublist).map _).nodup (rise_nd ok.rise)) nn).mpr fun n => ?_
      rw [List.mem_map]
      constructor
      · rintro ⟨e, he, rfl⟩
        exact of_decide_eq_true (List.mem_filter.mp he).2
      · intro hn
        obtain ⟨u, hu⟩ := nin n hn
        exact ⟨(n, u), List.mem_filter.mpr ⟨hu, decide_eq_true hn⟩, rfl⟩
    have e2 : (w.ts.filter fun e => decide (e.1 ∈ wayN w one two)).map (·.2.c) = ((w.ts.filter fun e => decide (e.1 ∈ wayN w one two)).map (·.1)).map (ldOf w.ts) := by
      rw [List.map_map]
      refine List.map_congr_left fun e he => ?_
      exact (ldOf_mem ok.rise (n := e.1) (t := e.2) (List.mem_filter.mp he).1).symm
    rw [e2, perm_sumI (e1.map _), ← sum]
    unfold wayN
    exact perm_sumI ((List.reverse_perm _).map _)
  · have h3 := nodup_len nd pin
    have h4 := (path_of lo).len
    have := ok.le
    omega
section
variable {P : Program} {w : World} {K : PySem.W.Frag} {mg : Str → Option Value} {base : Heap}
def sp_right (K : PySem.W.Frag) : Sp := fun vs H Q _ => ∃ a b rs r w one two, vs = [.ref a, .ref b, .ref r, .str one, .str two] ∧ H a = some (.lst (w.ps.map V.str)) ∧ H b = some (.lst ((rs : List Addr).map V.ref)) ∧ RowsL H rs w.ts ∧ Wok w ∧ one ∈ w.ps ∧ two ∈ w.ps ∧
  ((two ∉ (dOf w one).keys ∧ ∃ nl, HasL K H "Border" "names" r nl ((seenP w one).map V.str)) ∨ (two ∈ (dOf w one).keys ∧ ∃ nl hd, LeastAt K H r nl (wayN w one two) ((dOf w one).ht two) hd (ordD w one))) ∧ ∀ H', Same H H' → Q (.bl true) H'
theorem ok_law_right (T : Tx K mg) (xk : extra K = true) : FnOk P w K mg base CX0 3 (He.ga K "_law_right") T.fd_law_right ["_law_names_here", "_law_rows", "_law_found", "_law_one", "_law_other"] (sp_right K) := by
  refine T.F_law_right.ok sc_law_right (fun vs H Q E h => ?_) (fun cdv A outer s H vs Q E hr h => ?_)
  · obtain ⟨_, _, _, _, _, _, _, rfl, _⟩ := h
    rfl
  · obtain ⟨a, b, rs, r, w, one, two, rfl, ha, hb, hrs, ok, h1, h2, fnd, q⟩ := h
    have hu := hu_of hr
    refine ⟨_, PSs.nox (pss_cons (ps_set (i := 5) sc_law_right.nd rfl (Or.inl rfl) (pe_call (ok_law_reach T) (hr.mono (by decide)) (by rfl) T.g_law_reach T.F_law_reach.kp T.k_law_reach .nil pass0 (pa_cons (pv 1) (pa_cons (pv 3) (pa_cons pe_bl (pa_cons pe_int (pa_cons pe_non pa_nil)))))))
      (pss_cons (ps_if (pt_cmpR op_notIn_seq (pv 4) (pv 5) (by rfl)) (pss_one (ps_ret (pe_and (pe_callB call_isi (by rfl) T.b_isinstance (by decide +kernel) (pa_cons (pv 2) (pa_cons (pe_glob (v := .ref (He.ga K "Border")) rfl T.g_Border rfl) pa_nil))) (pe_one (pe_call (ok_law_in_order T) (hr.mono (by decide)) (by rfl) T.g_law_in_order T.F_law_in_order.kp T.k_law_in_order .nil pass0 (pa_cons (pv 0) (pa_cons (pe_fld (pv 2) rfl) (pa_cons (pv 5) pa_nil)))))))) pss_nil)
      (pss_cons (ps_if (PW.pt (pw_or (pt_not (pt_val (pe_callB call_isi (by rfl) T.b_isinstance (by decide +kernel) (pa_cons (pv 2) (pa_cons (pe_glob (v := .ref (He.ga K "Least")) rfl T.g_Least rfl) pa_nil))))) (pw_or (pt_not (pt_val (pe_callB call_isi (by rfl) T.b_isinstance (by decide +kernel) (pa_cons (pe_fld (pv 2) rfl) (pa_cons (pe_bltn (v := .ty "dict") rfl T.b_dict (by decide +kernel) rfl) pa_nil))))) (pw_or1 (pt_not (pt_val (pe_call (ok_law_whole T) (hr.mono (by decide)) (by rfl) T.g_law_whole T.F_law_whole.kp T.k_law_whole .nil pass0 (pa_cons (pe_fld (pv 2) rfl) pa_nil)))))))) (pss_one (ps_ret pe_bl)) pss_nil)
      (pss_cons (ps_set (i := 6) sc_law_right.nd rfl (Or.inr rfl) (pe_fld (pv 2) rfl))
      (pss_cons (ps_if (PW.pt (pw_or (pt_cmpR (op_neD hr.units) (pe_callB (SDX.call_sortedDS rfl) (by rfl) T.b_sorted (by decide +kernel) (pa_cons (pv 6) pa_nil)) (pe_callB cr_sortedS (by rfl) T.b_sorted (by decide +kernel) (pa_cons (pv 5) pa_nil)) (nomark _)) (pw_or1 (pt_cmpR (op_neD hr.units) (pe_lc (own := [("_law_name", 10)]) (by rfl) sc_law_right.nd (pi_list (pv 5)) (blkOk_by (own := [("_law_name", 10)]) (N := N_law_right) (sc := defScope s_law_right) (by decide +kernel)) (fun _ _ _ _ _ => (pg_name (i := 10) sc_law_right.nd rfl (Or.inl rfl))) (fun _ _ _ _ _ => (pts_one (pt_not (pt_val (pe_call (ok_law_whole T) (hr.mono (by decide)) (by rfl) T.g_law_whole T.F_law_whole.kp T.k_law_whole .nil pass0 (pa_cons (pe_dget hu (pv 6) (pv 10) (fun _ _ => rfl)) pa_nil)))))) (fun _ _ _ _ _ => (pv 10))) (pe_lst pa_nil) (nomark _))))) (pss_one (ps_ret pe_bl)) pss_nil)
      (pss_cons (ps_for PassesOwn.never rfl (pi_list (pv 1)) (pg_name (i := 7) sc_law_right.nd rfl (Or.inl rfl))
      (pss_one (ps_for PassesOwn.never rfl (pi_list (pe_call (ok_law_turns T) (hr.mono (by decide)) (by rfl) T.g_law_turns T.F_law_turns.kp T.k_law_turns .nil pass0 (pa_cons (pv 7) (pa_cons pe_bl pa_nil)))) (pg_tup rfl (pgs_cons (pg_name (i := 8) sc_law_right.nd rfl (Or.inl rfl)) (pgs_cons (pg_name (i := 9) sc_law_right.nd rfl (Or.inl rfl)) pgs_nil)))
      (pss_one (ps_if (PW.pt (pw_and (pt_cmpR op_in_seq (pv 8) (pv 5) (by rfl)) (pw_and1 (pt_cmpR op_gt (pe_dget hu (pv 6) (pv 9) (fun _ _ => rfl)) (pe_op op_add (pe_dget hu (pv 6) (pv 8) (fun _ _ => rfl)) (pe_dget hu (pv 7) pe_str (fun _ _ => rfl))) (nomark _))))) (pss_one (ps_ret pe_bl)) pss_nil)))))
      (pss_cons (ps_if (PW.pt (pw_or (pt_cmpR op_ne (pe_dget hu (pv 6) (pv 3) (fun _ _ => rfl)) pe_int (nomark _)) (pw_or (pt_cmpR op_ne (pe_dget hu (pv 6) (pv 4) (fun _ _ => rfl)) (pe_fld (pv 2) rfl) (nomark _)) (pw_or1 (pt_not (pt_val (pe_call (ok_law_way T) (hr.mono (by decide)) (by rfl) T.g_law_way T.F_law_way.kp T.k_law_way .nil pass0 (pa_cons (pv 1) (pa_cons (pe_fld (pv 2) rfl) (pa_cons (pv 3) (pa_cons (pv 4) (pa_cons pe_bl pa_nil)))))))))))) (pss_one (ps_ret pe_bl)) pss_nil)
      (pss_one (ps_ret (pe_cmpR op_eq (pe_fld (pv 2) rfl) (pe_callB (cr_sum rfl) (by rfl) T.b_sum (by decide +kernel) (pa_cons (pe_lc (own := [("_law_row_here", 7)]) (by rfl) sc_law_right.nd (pi_list (pv 1)) (blkOk_by (own := [("_law_row_here", 7)]) (N := N_law_right) (sc := defScope s_law_right) (by decide +kernel)) (fun _ _ _ _ _ => (pg_name (i := 7) sc_law_right.nd rfl (Or.inl rfl))) (fun _ _ _ _ _ => (pts_one (pt_cmpR (op_in_seqK K rfl) (pe_dget hu (pv 7) pe_str (fun _ _ => rfl)) (pe_fldK K rfl (pv 2) rfl) (by rfl)))) (fun _ _ _ _ _ => (pe_dget hu (pv 7) pe_str (fun _ _ => rfl)))) pa_nil)) (nomark _))))))))))), ?_⟩
    have hln := Two.len hrs
    have l48 := ok.tl
    have cB := T.cl_Border
    have nB := T.na_Border_names
    have cL := T.cl_Least
    have n1 := T.na_Least_numbers
    have n2 := T.na_Least_load
    have n3 := T.na_Least_heights
    obtain ⟨dok, dL⟩ := dOf_ok ok h1
    have lo : ∀ n t, (n, t) ∈ w.ts → 1 ≤ n := fun n t m => (ok.ok n t m).lo
    walk_at "go"
    refine ⟨b, rs, w.ts, w.ps, one, true, 0, none, rfl, hb, hrs, ok.ends, h1, ok.le, fun f fs H1 s1 hf ef fnd2 hfs => ?_⟩
    have keys : ∀ y, y ∈ fs ↔ y ∈ (dOf w one).keys := fun y => by
      rw [hfs y, dOf_keys ok h1]
      exact Rch.congr fun x n z => rowF lo x n z
    walk_at "go"
    refine i_inS (SqL.of ef) ?_
    show kB _ (.bl (!decide (two ∈ fs))) _
    apply i_kB
    have snd : (seenP w one).Nodup := ok.nd.filter _
    have spm : (seenP w one).Perm fs := (List.perm_ext_iff_of_nodup snd fnd2).mpr fun y => by rw [seenP_mem ok h1, keys y]
    have fl16 : fs.length ≤ 16 := by
      rw [← spm.length_eq]
      exact Nat.le_trans (List.length_filter_le _ _) ok.le
    have hb1 := s1 _ _ hb
    have hrs1 := RowsLsame hrs s1
    refine i_ndec (p := two ∈ fs) (fun c => ?_) (fun c => ?_)
    · have nk : two ∉ (dOf w one).keys := fun z => c ((keys two).mpr z)
      rcases fnd with ⟨_, nl, hl⟩ | ⟨z, _⟩
      · obtain ⟨dx, er⟩ := (hl.same s1).self
        have en := (hl.same s1).lst
        walk_at "go"
        refine i_borBor xk cB er ?_
        walk_at "go"
        refine i_kFld er cB nB rfl ?_
        walk_at "go"
        have e2 : (seenP w one) = w.ps.filter fun x => decide (x ∈ fs) := List.filter_congr fun x _ => decide_eq_decide.mpr (keys x).symm
        refine ⟨a, nl, f, w.ps, fs, rfl, s1 _ _ ha, by rw [← e2]; exact en, ef, ok.nm, ok.le, fun H2 s2 => ?_⟩
        walk_at "go"
        exact q _ (s1.trans s2)
      · exact absurd z nk
    · rcases fnd with ⟨z, _⟩ | ⟨hk, nl, hd, hl⟩
      · exact absurd ((keys two).mp c) z
      · obtain ⟨ps, pth, pnd, pin, nn, sum, l64⟩ := way_found ok h1 hk
        obtain ⟨dx, er⟩ := (hl.same s1).self
        have en := (hl.same s1).nums
        have eh := (hl.same s1).hts
        have get : ∀ {x}, x ∈ (dOf w one).keys → valV (ordD w one) (Sum.inr x) = some (.int ((dOf w one).ht x)) := fun hx => mapD_get (f := fun x => V.int ((dOf w one).ht x)) ((seenP_mem ok h1).mpr hx)
        have fld : ∀ {H' : Hp} {g : Str} {v : V} {Q' : VK}, Same H1 H' → NoAttr K (He.ga K "Least") g → List.lookup g [(("numbers" : Str), V.ref nl), ("load", .int ((dOf w one).ht two)), ("heights", .ref hd)] = some v → Q' v H' → kFld K g Q' (.ref r) H' := fun s n e qq => i_kFld (s _ _ er) cL n e qq
        have R : Same H1 H1 := fun _ _ e => e
        walk_at "go"
        refine i_leaLea xk cL er ?_
        walk_at "go"
        refine fld R n3 rfl ?_
        walk_at "go"
        refine i_isDct eh ?_
        walk_at "go"
        refine fld R n2 rfl ?_
        walk_at "go"
        refine ⟨_, rfl, ?_⟩
        walk_at "go"
        refine fld R n3 rfl ?_
        walk_at "go"
        refine ⟨hd, ordD w one, seenP w one, rfl, .inl eh, by unfold ordD mapD; rw [List.map_map]; rfl, by rw [spm.length_eq]; omega, fun ys p2 pm so h2' => ?_⟩
        have s2 : Same H1 (upd H1 p2 (.lst (ys.map V.str))) := Same.new h2'
        have e2 : (upd H1 p2 (.lst (ys.map V.str))) p2 = some (.lst (ys.map V.str)) := upd_same
        generalize upd H1 p2 (.lst (ys.map V.str)) = H2 at s2 e2 ⊢
        walk_at "go"
        refine ⟨f, fs, rfl, SqL.of (s2 _ _ ef), by omega, fun zs p3 pm3 so3 h3' => ?_⟩
        have ez : zs = ys := SDX.sorted_same (pm3.trans (spm.symm.trans pm.symm)) so3 so
        subst ez
        have s3 : Same H2 (upd H2 p3 (.lst (zs.map V.str))) := Same.new h3'
        have oks : ∀ y ∈ zs, okS y = true := fun y hy => nm_ok (ok.nm y (List.mem_filter.mp (pm.mem_iff.mp hy)).1)
        refine i_neSame (SqL.of (s3 _ _ e2)) (SqL.of upd_same) oks ?_
        generalize upd H2 p3 (.lst (zs.map V.str)) = H3 at s3 ⊢
        have s13 := s2.trans s3
        walk_at "go"
        refine i_kListI (SqL.of (s13 _ _ ef)) ?_
        intro D hD
        refine lc_it walk_list (fun m H' => Same H3 H' ∧ H' D = some (.lst []))
          ⟨Same.new hD, upd_same⟩ (fun i H' _ h => SqL.of (h.1 _ _ (s13 _ _ ef))) ?_ ?_
        · rintro i v H4 H5 hi ⟨s4, eD⟩ ⟨rfl, hv⟩
          rw [List.length_map] at hi
          rw [List.getElem?_map, List.getElem?_eq_getElem hi] at hv
          cases hv
          have yk : fs[i] ∈ (dOf w one).keys := (keys _).mp (List.getElem_mem hi)
          generalize fs[i] = y at yk ⊢
          walk_at "go"
          refine ⟨rfl, ?_⟩
          walk_at "go"
          refine i_kDGetS ((s13.trans s4) _ _ eh) (get yk) ?_
          walk_at "go"
          refine ⟨_, rfl, ?_⟩
          walk_at "go"
          exact ⟨s4, eD⟩
        rintro H4 ⟨s4, eD⟩
        have s14 := s13.trans s4
        walk_at "go"
        refine ⟨by walk_at "sz", fun z5 hz5 => ?_⟩
        have s5 : Same H4 (upd H4 z5 (.lst [])) := Same.new hz5
        refine i_ne00 (SqL.of (s5 _ _ eD)) (SqL.of upd_same) ?_
        generalize upd H4 z5 (.lst []) = H5 at s5 ⊢
        have s15 := s14.trans s5
        walk_at "go"
        refine i_kListI (SqL.of (s15 _ _ hb1)) ?_
        refine for_it walk_list (fun i σ H' => Same H1 H' ∧ ∃ v7 v8 v9, σ = [some (.ref a), some (.ref b), some (.ref r), some (.str one), some (.str two), some (.ref f), some (.ref hd), v7, v8, v9, none])
          ⟨s15, none, none, none, rfl⟩ (fun i σ H' _ h => SqL.of (h.1 _ _ hb1)) ?_ ?_
        · rintro i v σ H6 H7 hi ⟨s6, v7, v8, v9, rfl⟩ ⟨rfl, hv⟩
          rw [List.length_map] at hi
          rw [List.getElem?_map, List.getElem?_eq_getElem hi] at hv
          cases hv
          obtain ⟨⟨n, t⟩, et, ra⟩ := Two.get hrs1 (List.getElem?_eq_getElem hi)
          have mt := List.mem_of_getElem? et
          generalize rs[i] = ri at ra ⊢
          obtain ⟨kvr, ekr, rk⟩ := ra
          have k4 : valV kvr (Sum.inr "load") = some (.int t.c) := rk.load
          walk_at "go"
          refine ⟨ri, n, t, true, rfl, ⟨kvr, s6 _ _ ekr, rk⟩, fun g as H8 s8 hg eg hps => ?_⟩
          have s18 := s6.trans s8
          have hpl := Two.len hps
          walk_at "go"
          refine i_kListI (SqL.of eg) ?_
          refine for_it walk_list (fun j σ H' => Same H8 H' ∧ ∃ v8 v9, σ = [some (.ref a), some (.ref b), some (.ref r), some (.str one), some (.str two), some (.ref f), some (.ref hd), some (.ref ri), v8, v9, none])
            ⟨fun _ _ e => e, v8, v9, rfl⟩ (fun j σ H' _ h => SqL.of (h.1 _ _ eg)) ?_ ?_
          · rintro j v σ H9 H10 hj ⟨s9, v8, v9, rfl⟩ ⟨rfl, hv⟩
            rw [List.length_map] at hj
            rw [List.getElem?_map, List.getElem?_eq_getElem hj] at hv
            cases hv
            obtain ⟨⟨x, y⟩, ep2, pt⟩ := Two.get hps (List.getElem?_eq_getElem hj)
            have mp := List.mem_of_getElem? ep2
            have pt10 : H10 as[j] = some (.tup [.str x, .str y]) := s9 _ _ pt
            have s110 := s18.trans s9
            walk_at "go"
            refine i_gTup (SqT.of pt10) rfl ?_
            walk_at "go"
            refine i_inS (SqL.of (s110 _ _ ef)) ?_
            rw [if_neg Bool.false_ne_true]
            apply i_kB
            refine i_dec (fun hx => ?_) (fun hx => ?_)
            · obtain ⟨yk, le⟩ := dOf_feas ok h1 ((keys x).mp hx) mt mp
              walk_at "go"
              refine i_kDGetS (s110 _ _ eh) (get yk) ?_
              walk_at "go"
              refine i_kDGetS (s110 _ _ eh) (get ((keys x).mp hx)) ?_
              walk_at "go"
              refine i_kDGetS (s110 _ _ ekr) k4 ?_
              walk_at "go"
              refine i_dec (fun c => absurd c (by omega)) (fun _ => ?_)
              walk_at "go"
              exact ⟨s9, _, _, rfl⟩
            · walk_at "go"
              exact ⟨s9, _, _, rfl⟩
          · rintro σ H9 ⟨s9, v8, v9, rfl⟩
            walk_at "go"
            exact ⟨s18.trans s9, _, _, _, rfl⟩
        · rintro σ H6 ⟨s6, v7, v8, v9, rfl⟩
          walk_at "go"
          refine i_kDGetS (s6 _ _ eh) (get dok.hd) ?_
          rw [dok.h1]
          walk_at "go"
          refine i_dec (fun _ => ?_) (fun c => absurd rfl c)
          walk_at "go"
          refine i_kDGetS (s6 _ _ eh) (get hk) ?_
          walk_at "go"
          refine fld s6 n2 rfl ?_
          walk_at "go"
          refine i_dec (fun _ => ?_) (fun c => absurd rfl c)
          walk_at "go"
          refine fld s6 n1 rfl ?_
          walk_at "go"
          refine ⟨b, rs, w.ts, nl, wayN w one two, one, two, true, ps, rfl, s6 _ _ hb1, RowsLsame hrs1 s6, ok.rise, fun n t m => (ok.ok n t m).ne, s6 _ _ en, pth, pnd, fun x hx => nm_ok (ok.nm x (pin x hx)), l64, fun H7 s7 => ?_⟩
          have s17 := s6.trans s7
          walk_at "go"
          refine fld s17 n2 rfl ?_
          walk_at "go"
          refine i_kListI (SqL.of (s17 _ _ hb1)) ?_
          intro D2 hD2
          refine lc_it walk_list (fun i H' => Same H7 H' ∧ H' D2 = some (.lst (((w.ts.take i).filter fun e => decide (e.1 ∈ wayN w one two)).map fun e => V.int e.2.c)))
            ⟨Same.new hD2, by rw [upd_same]; rfl⟩ (fun i H' _ h => SqL.of ((s17.trans h.1) _ _ hb1)) ?_ ?_
          · rintro i v H8 H9 hi ⟨s8, e8⟩ ⟨rfl, hv⟩
            rw [List.length_map] at hi
            rw [List.getElem?_map, List.getElem?_eq_getElem hi] at hv
            cases hv
            obtain ⟨⟨n, u⟩, et, ra⟩ := Two.get hrs1 (List.getElem?_eq_getElem hi)
            generalize rs[i] = ri at ra
            obtain ⟨kv2, ek2, rk2⟩ := ra
            have m1 : valV kv2 (Sum.inr "number") = some (.int n) := rk2.number
            have m4 : valV kv2 (Sum.inr "load") = some (.int u.c) := rk2.load
            have tk : ((w.ts.take (i + 1)).filter (fun e => decide (e.1 ∈ wayN w one two))).map (fun e => V.int e.2.c) = ((w.ts.take i).filter (fun e => decide (e.1 ∈ wayN w one two))).map (fun e => V.int e.2.c) ++ (if n ∈ wayN w one two then [V.int u.c] else []) := by
              rw [List.take_add_one, et, List.filter_append, List.map_append]
              by_cases c : n ∈ wayN w one two <;> simp [c]
            have l3 : ((w.ts.take i).filter fun e => decide (e.1 ∈ wayN w one two)).length ≤ (w.ts.take i).length := List.length_filter_le _ _
            rw [List.length_take] at l3
            have s18 := s17.trans s8
            walk_at "go"
            refine ⟨rfl, ?_⟩
            walk_at "go"
            refine i_kDGetS (s18 _ _ ek2) m1 ?_
            walk_at "go"
            refine fld s18 n1 rfl ?_
            refine i_inI (SqL.of (s18 _ _ en)) ?_
            rw [if_neg Bool.false_ne_true]
            apply i_kB
            refine i_dec (fun c => ?_) (fun c => ?_)
            · rw [if_pos c] at tk
              walk_at "go"
              refine i_kDGetS (s18 _ _ ek2) m4 ?_
              walk_at "go"
              rw [tk]
              exact ⟨_, e8, by rw [List.length_map, sizeLine_eq]; omega, Same.mut s8 hD2, upd_same⟩
            · rw [if_neg c, List.append_nil] at tk
              walk_at "go"
              rw [tk]
              exact ⟨s8, e8⟩
          rintro H8 ⟨s8, e8⟩
          rw [List.length_map, hln, List.take_length] at e8
          have e8 : H8 D2 = some (.lst (((w.ts.filter fun e => decide (e.1 ∈ wayN w one two)).map (·.2.c)).map V.int)) := by rw [e8, List.map_map]; rfl
          walk_at "go"
          refine ⟨D2, _, rfl, SqL.of e8, ?_⟩
          rw [sum]
          walk_at "go"
          show Q (.bl (decide ((dOf w one).ht two = (dOf w one).ht two))) H8
          rw [decide_eq_true rfl]
          exact q _ (s1.trans (s17.trans s8))
end
end K20

/-! HXc: `in` over a list or a dict, dicts compared whose values are the same objects. -/
set_option Elab.async false
set_option linter.all false
set_option maxRecDepth 100000
set_option maxHeartbeats 2000000
namespace HX
open PySem PySem.Spec PyProof.Rows L2
section
variable {X : Cx}
/-- y in xs, xs a list, a tuple or a dict -/
def rInLD (K : PySem.W.Frag) : R2 := fun x y H Q => rIn K false x y H Q ∨ ∃ a o, y = .ref a ∧ DGet H a x o ∧ Q (.bl o.isSome) H
theorem op_inLD (K : PySem.W.Frag) (hK : X.K = K) (hu : X.A.units + 1 < cLine) : OpR X (compareOp .In) (rInLD K) := by
  subst hK
  intro pins s σ H x y v u Q I rx ry h
  rcases h with h | ⟨a, o, rfl, g, q⟩
  · exact op_in_seq pins s σ H x y v u Q I rx ry h
  · obtain rfl : u = Value.ref a := ry
    exact d_in hu I g rx fun s3 I3 => ⟨.bl o.isSome, H, I3, rfl, q⟩
/-- the same object, or plain -/
def sameB : V → Bool
  | .ref _ => true
  | v => flatB v
theorem hits_same {κ : Type} [DecidableEq κ] {A : Around} {s : Shared} {kvs : List (κ × V)} {vb : List (κ × Value)} (rb : KV kvs vb) {ks : List (κ × V)} {va : List (κ × Value)} (ra : KV ks va) :
    (∀ p ∈ ks, valV kvs p.1 = some p.2 ∧ sameB p.2 = true) → PySem.W.KeqHits A s vb va true := by
  unfold KV at ra
  induction ra with
  | nil => intro _; exact .nil
  | @cons p q ps qs h t ih =>
    intro hp
    obtain ⟨h1, h2⟩ := h
    obtain ⟨e, f⟩ := hp p List.mem_cons_self
    have rr : RelO (some p.2) (valueAt vb p.1) := by rw [← e]; exact rb.val p.1
    obtain ⟨y, hy, ry⟩ := rr.some_of
    obtain ⟨k, v⟩ := q
    have h1' : p.1 = k := h1
    rw [h1'] at hy
    show PySem.W.KeqHits A s vb ((k, v) :: qs) (true && true)
    refine .hit hy ?_ (ih fun p' hm => hp p' (List.mem_cons_of_mem _ hm))
    cases hv : p.2 with
    | ref a =>
      rw [hv] at h2 ry
      obtain rfl : v = Value.ref a := h2
      obtain rfl : y = Value.ref a := ry
      exact SeqAt.EqAt.same _
    | _ => exact eqAt_same h2 ry (by rw [hv] at f ⊢; exact f)
def rEqDI : R2 := fun x y H Q => ∃ a b ks ls, x = .ref a ∧ y = .ref b ∧ H a = some (.dK ks) ∧ H b = some (.dK ls) ∧ ks.length = ls.length ∧ (∀ p ∈ ks, valV ls p.1 = some p.2 ∧ sameB p.2 = true) ∧ Q (.bl true) H
theorem op_eqDI (hu : X.A.units < cLine) : OpR X (compareOp .Eq) rEqDI := by
  intro pins s σ H x y v u Q I rx ry h
  obtain ⟨a, b, ks, ls, rfl, rfl, ea, eb, hlen, hp, q⟩ := h
  obtain rfl : v = Value.ref a := rx
  obtain rfl : u = Value.ref b := ry
  obtain ⟨_, ya, va, ra, da⟩ := (show ObjOk X.prog X.w H s.heap a (.dK ks) from I.hok a _ ea)
  obtain ⟨_, yb, vb, rb, db⟩ := (show ObjOk X.prog X.w H s.heap b (.dK ls) from I.hok b _ eb)
  have hl : va.length = vb.length := by rw [← ra.length, ← rb.length]; exact hlen
  exact PySem.W.keq_eq (knd := mixKind X.prog X.w) (r := true) ya yb da db hu (fun _ => hits_same rb ra hp) (fin_bl I q (by simp [hl]))
end
/-! ### a dict's keys, the dict locked -/
section
variable {H : Hp} {a : Addr} {kvs : List (Key × V)} {o : Obj} {σ : L2.St} {td : TE} {R : It → Hp → Prop} {Q : VK} {v : V}
def kKeys (R : It → Hp → Prop) : VK := fun x H1 => ∃ d o, x = .ref d ∧ ((∃ kvs, H1 d = some (.frz o (.dK kvs)) ∧ R (Itk d o kvs) H1) ∨ ∃ kvs, H1 d = some (.frz o (.dT kvs)) ∧ R (Itkt d o kvs) H1)
theorem i_keys (q : td σ H (kKeys R)) : iKeys td σ H R := q
theorem i_kKeys (h : H a = some (.frz o (.dK kvs))) (q : R (Itk a o kvs) H) : kKeys R (.ref a) H := ⟨a, o, rfl, .inl ⟨kvs, h, q⟩⟩
theorem i_kDGetF {j : Str} (h : H a = some (.frz o (.dK kvs))) (e : valV kvs (Sum.inr j) = some v) (q : Q v H) : kDGet (.ref a) Q (.str j) H := ⟨a, v, rfl, .inl ⟨kvs, Sum.inr j, .inr ⟨o, h⟩, rfl, e.symm⟩, q⟩
end
end HX

set_option Elab.async false
set_option linter.all false
set_option maxRecDepth 100000
set_option maxHeartbeats 4000000
/-! HXnd: two lists are not unequal whose items are the same, dicts among them. -/
namespace NDX
open PySem PySem.SeqAt PySem.MeetsSeq PySem.MeetsSeq2 PySem.MeetsSeq3 PySem.SeqRoads2
section
variable {prog : Program} {w : World}
/-- the loop of list.__ne__ over items that are all the same -/
theorem same_loop {l b : Addr} {xs ys : Array Value} {n n2 : Nat} {dd dd2 : Option Addr} {sl sl2 : Array (Option Value)} (sz : xs.size = ys.size) : ∀ (k i : Nat), xs.size - i = k →
    MeetsIn prog w (Builtin.«list.__eq__.loop» ⟨[.ref l, .ref b, rawInt i, rawInt 3], []⟩) fun A R s =>
      s.heap.get? l = some { cls := .type "list", dict := dd, data := .seq xs n, slots := sl } ∧ s.heap.get? b = some { cls := .type "list", dict := dd2, data := .seq ys n2, slots := sl2 } ∧
      (∀ j (h1 : j < xs.size) (h2 : j < ys.size), EqIn prog w A.in1 s xs[j] ys[j] true) ∧ R (.ok (.ret (.bool false))) s
  | 0, i, hk => by
    rintro A R ⟨hp, g, d, tk, os⟩ ⟨hl, hb, he, q⟩
    wp_walk using AutoSeq1.wpAny_loadPart' hl, AutoSeq1.wpAny_loadPart' hb
    rw [show xs[((i : Nat) : Int).toNat]? = none by simp; omega, show ys[((i : Nat) : Int).toNat]? = none by simp; omega]
    wp_walk using AutoSeq1.wpAny_loadPart' hl, AutoSeq1.wpAny_loadPart' hb
    show R (.ok (.ret (.bool (xs.size != ys.size)))) _
    rw [sz]
    simpa using q
  | k + 1, i, hk => by
    rintro A R ⟨hp, g, d, tk, os⟩ ⟨hl, hb, he, q⟩
    have i1 : i < xs.size := by omega
    have i2 : i < ys.size := by omega
    wp_walk using AutoSeq1.wpAny_loadPart' hl, AutoSeq1.wpAny_loadPart' hb
    rw [show xs[((i : Nat) : Int).toNat]? = some xs[i] by simp [i1], show ys[((i : Nat) : Int).toNat]? = some ys[i] by simp [i2]]
    refine wpAny_bind (he i i1 i2 _ _ ?_)
    wp_walk
    rw [show ((i : Int) + 1) = ((i + 1 : Nat) : Int) by push_cast; rfl]
    refine ⟨plainId_quiet plain_eq_loop _, codeAny_builtin entry_eq_loop ?_⟩
    rw [Around.under_plainId plain_eq_loop _]
    exact same_loop sz k (i + 1) (by omega) A R _ ⟨hl, hb, he, q⟩
theorem same_ne {l b : Addr} {xs ys : Array Value} {n n2 : Nat} {dd dd2 : Option Addr} {sl sl2 : Array (Option Value)} (sz : xs.size = ys.size) :
    MeetsIn prog w (Builtin.«list.__ne__» ⟨[.ref l, .ref b], []⟩) fun A R s =>
      s.heap.get? l = some { cls := .type "list", dict := dd, data := .seq xs n, slots := sl } ∧ s.heap.get? b = some { cls := .type "list", dict := dd2, data := .seq ys n2, slots := sl2 } ∧
      (∀ j (h1 : j < xs.size) (h2 : j < ys.size), EqIn prog w A.in1 s xs[j] ys[j] true) ∧ R (.ok (.ret (.bool false))) s := by
  rintro A R ⟨hp, g, d, tk, os⟩ ⟨hl, hb, he, q⟩
  have two := AutoSeq1.sub_list_list
  have no : ¬ (xs.size != ys.size) = true := by simp [sz]
  wp_walk using AutoSeq1.wpAny_loadPart' hl, AutoSeq1.wpAny_loadPart' hb
  refine ⟨plainId_quiet plain_eq_loop _, codeAny_builtin entry_eq_loop ?_⟩
  rw [Around.under_plainId plain_eq_loop _]
  exact same_loop sz _ 0 rfl A R _ ⟨hl, hb, he, q⟩
theorem ne_same {A : Around} {s : Shared} {E Q : Value → Shared → Prop} {l b : Addr} {xs ys : Array Value} (hl : s.heap.IsList l xs) (hb : s.heap.IsList b ys) (sz : xs.size = ys.size) (hu : A.units < cLine)
    (he : ∀ j (h1 : j < xs.size) (h2 : j < ys.size), EqIn prog w A.in1 s xs[j] ys[j] true) (q : Q (.bool false) s) : wpAny (model prog w) A (richCompare .NotEq (.ref l) (.ref b)) Q E s := by
  obtain ⟨⟨c1, d1, t1, s1⟩, e1, k1, n1, m1⟩ := id hl
  obtain ⟨⟨c2, d2, t2, s2⟩, e2, k2, n2, m2⟩ := id hb
  simp only at k1 m1 k2 m2
  subst k1 m1 k2 m2
  exact wpAny_richCompare_same_room (T := "list") (op := .NotEq) ⟨_, e1, rfl⟩ ⟨_, e2, rfl⟩ F.slot_list_ne (call_meetsIn F.slot_list_ne ⟨_, e1, rfl⟩ F.entry_list_ne (F.args_list_ne_2 _ _) (same_ne sz)
    ⟨e1, e2, he, show Value.bool false ≠ Value.notImplemented ∧ Q (.bool false) s from ⟨(fun z => nomatch z), q⟩⟩) hu
end
end NDX
namespace NDX
open PySem PySem.Spec PyProof.Rows L2 HX
/-- the same data, or dicts whose values are the same -/
def Same2 (K : PySem.W.Frag) (H : Hp) (x y : V) : Prop := (∃ d, Dp K H x d ∧ Dp K H y d ∧ SeqAt.shaped d = true) ∨
  ∃ (a b : Addr) (ks ls : List (Key × V)), x = .ref a ∧ y = .ref b ∧ H a = some (.dK ks) ∧ H b = some (.dK ls) ∧ ks.length = ls.length ∧ ∀ p ∈ ks, valV ls p.1 = some p.2 ∧ sameB p.2 = true
def rNeX (K : PySem.W.Frag) : R2 := fun x y H Q => rNeD K x y H Q ∨ ∃ (a b : Addr) (xs ys : List V), x = .ref a ∧ y = .ref b ∧ H a = some (.lst xs) ∧ H b = some (.lst ys) ∧ xs.length = ys.length ∧
  (∀ (j : Nat) (u v : V), xs[j]? = some u → ys[j]? = some v → Same2 K H u v) ∧ Q (.bl false) H
section
variable {X : Cx} {pins : List (Addr × Obj)} {σ : L2.St} {H : Hp} {s : Shared}
theorem same2_eq {A : Around} {x y : V} {u v : Value} (I : Inv X pins σ H s) (hu : A.units + 64 < cLine) (r1 : RelV x u) (r2 : RelV y v) (h : Same2 X.K H x y) : SeqAt.EqIn X.prog X.w A s u v true := by
  rcases h with ⟨d, h1, h2, sh⟩ | ⟨a, b, ks, ls, rfl, rfl, ea, eb, hl, hp⟩
  · obtain ⟨as, q1⟩ := Dp.reads I d x u h1 r1
    obtain ⟨bs, q2⟩ := Dp.reads I d y v h2 r2
    have pl := PyData.plain_of_canLay0 d (SeqAt.canLay_of_shaped sh)
    have e := SeqAt.eqAt_plain d d A s u v as bs q1 q2 pl pl (SeqAt.room_of_shaped sh hu)
    rw [SeqAt.eqv_refl d (SeqAt.canLay_of_shaped sh)] at e
    exact e.inModel _ _
  · obtain rfl : u = Value.ref a := r1
    obtain rfl : v = Value.ref b := r2
    by_cases c : a = b
    · subst c
      exact (SeqAt.EqAt.same _).inModel _ _
    · obtain ⟨_, ya, va, ra, da⟩ := (show ObjOk X.prog X.w H s.heap a (.dK ks) from I.hok a _ ea)
      obtain ⟨_, yb, vb, rb, db⟩ := (show ObjOk X.prog X.w H s.heap b (.dK ls) from I.hok b _ eb)
      have hl2 : va.length = vb.length := by rw [← ra.length, ← rb.length]; exact hl
      exact SeqAt.EqIn.of_refs c fun E Q q => PySem.W.keq_eq (knd := mixKind X.prog X.w) (r := true) ya yb da db (by omega) (fun _ => hits_same rb ra hp) (by simpa [hl2] using q)
end
theorem op_neX {X : Cx} (hu : X.A.units + 65 < cLine) : OpR X (compareOp .NotEq) (rNeX X.K) := by
  intro pins s σ H x y v u Q I rx ry h
  rcases h with h | ⟨a, b, xs, ys, rfl, rfl, ha, hb, hl, hs, q⟩
  · exact op_neD (by omega) pins s σ H x y v u Q I rx ry h
  · obtain rfl : v = Value.ref a := rx
    obtain rfl : u = Value.ref b := ry
    obtain ⟨its, r1, p1, _⟩ := I.list (SqL.of ha)
    obtain ⟨its2, r2, p2, _⟩ := I.list (SqL.of hb)
    have z : wpAny (model X.prog X.w) X.A (richCompare .NotEq (.ref a) (.ref b)) (EP X pins σ Q) X.xe s := by
      refine ne_same p1.isList p2.isList (by rw [List.size_toArray, List.size_toArray, ← r1.length, ← r2.length]; exact hl) (by omega) (fun j h1 h2 => ?_) ⟨.bl false, H, I, rfl, q⟩
      rw [List.size_toArray] at h1 h2
      have k1 : j < xs.length := by rw [r1.length]; exact h1
      have k2 : j < ys.length := by rw [r2.length]; exact h2
      obtain ⟨u1, e1, w1⟩ := r1.get (List.getElem?_eq_getElem k1)
      obtain ⟨u2, e2, w2⟩ := r2.get (List.getElem?_eq_getElem k2)
      have f1 : its.toArray[j]'(by simpa using h1) = u1 := by
        rw [List.getElem?_eq_getElem h1] at e1
        simpa using e1
      have f2 : its2.toArray[j]'(by simpa using h2) = u2 := by
        rw [List.getElem?_eq_getElem h2] at e2
        simpa using e2
      rw [f1, f2]
      exact same2_eq I (by show X.A.units + 1 + 64 < cLine; omega) w1 w2 (hs j _ _ (List.getElem?_eq_getElem k1) (List.getElem?_eq_getElem k2))
    exact z
end NDX

set_option Elab.async false
set_option linter.all false
set_option maxRecDepth 100000
set_option maxHeartbeats 2000000
/-! HXu: d.update(e), e a dict. -/
namespace HX
open PySem PySem.Spec PyProof.Rows L2
theorem mergeK_len : ∀ (more kvs : List (Key × V)), (mergeK kvs more).length ≤ kvs.length + more.length
  | [], kvs => by simp [mergeK]
  | kv :: r, kvs => by
    have h := mergeK_len r (putK kvs kv.1 kv.2)
    have h2 : (putK kvs kv.1 kv.2).length ≤ kvs.length + 1 := by
      unfold putK
      split
      · simp
      · simp
    show (mergeK (putK kvs kv.1 kv.2) r).length ≤ _
    simp only [List.length_cons]
    omega
def rDUpd : V → List V → Hp → VK → Prop := fun x vs H Q => ∃ (d o : Addr) (ks os : List (Key × V)), x = .ref d ∧ vs = [.ref o] ∧ H d = some (.dK ks) ∧ H o = some (.dK os) ∧ d ≠ o ∧ ks.length + os.length ≤ sizeLine ∧ Q .non (upd H d (.dK (mergeK ks os)))
section
variable {X : Cx}
theorem mt_dupd : MtR X "dict.update" rDUpd := by
  intro pins s σ H x xs v us Q I rx rxs h
  obtain ⟨d, o, ks, os, rfl, rfl, hd, ho, hne, hl, q⟩ := h
  cases rx
  obtain ⟨u, rfl, ru⟩ := rxs.one
  cases ru
  obtain ⟨_, yd, vd, rd, dd⟩ := (show ObjOk X.prog X.w H s.heap d (.dK ks) from I.hok d _ hd)
  obtain ⟨_, yo, vo, ro, d2⟩ := (show ObjOk X.prog X.w H s.heap o (.dK os) from I.hok o _ ho)
  refine call_meetsIn PySem.F.slot_dict_update dd.typeIs PySem.F.entry_dict_update (PySem.F.args_dict_update_2 _ _) (meets_dict_update (mixKind X.prog X.w) d o hne yo)
    ⟨vd, vo, dd, d2, (by rw [← rd.length, ← ro.length]; exact hl), fun h' hm _ hs => ?_⟩
  have ml := mergeK_len os ks
  obtain ⟨ob, es, ep, e1, e2⟩ := id hm
  exact ⟨.non, _, I.write (x := d) (e := d) (o := .dK (mergeK ks os)) (t' := s.toks) (by rw [hd]; trivial) (.inl rfl) (fun b u hb e => (hs.2 b hb).trans e) ⟨_, e1⟩ ⟨by omega, yd, _, ro.merge rd, hm⟩, rfl, q⟩
end
theorem i_kTyD {K : PySem.W.Frag} {H : Hp} {p : Addr} {ks : List (Key × V)} {Q : VK} (h : H p = some (.dK ks)) (q : Q (.ref p) H) : kTy K "dict" Q (.ref p) H := ⟨.inr (.inr (.inl ⟨rfl, .inl ⟨ks, h⟩⟩)), q⟩
end HX

set_option Elab.async false
set_option linter.all false
set_option maxRecDepth 100000
set_option maxHeartbeats 4000000
namespace K20
open PySem PySem.Spec PyProof.Rows L2 HX WB LamK NDX
open TL (tl)
local macro_rules | `(tactic| walk_at "side") => `(tactic| first
  | assumption
  | rfl
  | (show (0 : Int) < _; omega)
  | (unfold CDiv; omega)
  | (unfold CMul; omega)
  | (unfold CPow; omega)
  | (rw [sizeLine_eq]; omega)
  | omega)
local macro_rules | `(tactic| walk_at "e") => `(tactic| first
  | ((with_reducible apply i_var); exact rfl)
  | (with_reducible apply i_c)
  | (with_reducible apply i_op)
  | (with_reducible apply i_un)
  | (with_reducible apply i_rI0)
  | ((with_reducible apply i_rI); (case c => walk_at "side"))
  | (with_reducible apply i_rGe)
  | (with_reducible apply i_rGt)
  | (with_reducible apply i_rU)
  | (with_reducible apply i_rEqI)
  | (with_reducible apply i_rNeI)
  | (with_reducible apply i_rEqS)
  | (with_reducible apply i_rNeS)
  | (with_reducible apply i_rEqB)
  | (with_reducible apply i_rNeB)
  | (with_reducible apply i_rIsN)
  | (with_reducible apply i_rNotN)
  | (with_reducible apply i_rInS)
  | (with_reducible apply i_rNotInS)
  | ((with_reducible apply i_catS); (case c => walk_at "side"))
  | (with_reducible apply i_tcb)
  | (with_reducible apply i_nil)
  | (with_reducible apply i_cons)
  | ((with_reducible apply i_lenS); (case c => walk_at "side"))
  | ((with_reducible apply i_lenL); assumption)
  | (with_reducible apply i_abs)
  | (with_reducible apply i_max2)
  | (with_reducible apply i_min2)
  | ((with_reducible apply i_strI); (case c => walk_at "side"))
  | (with_reducible apply i_intB)
  | (with_reducible apply i_test)
  | (with_reducible apply i_tB)
  | (with_reducible apply i_kB)
  | (with_reducible apply i_and)
  | (with_reducible apply i_or)
  | (with_reducible apply i_not)
  | (with_reducible apply i_if)
  | (with_reducible apply i_andV)
  | (with_reducible apply i_orV)
  | (with_reducible apply i_notV)
  | (with_reducible apply i_kAndV)
  | (with_reducible apply i_kOrV)
  | (with_reducible apply i_kNotV)
  | (with_reducible apply i_chain)
  | (with_reducible apply i_kChain)
  | (with_reducible apply i_drop)
  | (with_reducible apply i_ret)
  | (with_reducible apply i_retN)
  | (with_reducible apply i_ifS)
  | (with_reducible apply i_asg)
  | (with_reducible apply i_gName)
  | (with_reducible apply i_for)
  | (with_reducible apply i_lc)
  | (with_reducible apply i_iList)
  | (with_reducible apply i_iTup)
  | (with_reducible apply i_iStr)
  | (with_reducible apply i_kStrI)
  | (with_reducible apply i_lst)
  | (with_reducible apply i_tup)
  | (with_reducible apply i_call)
  | (with_reducible apply i_m1)
  | (with_reducible apply i_kStr)
  | (with_reducible apply i_bm)
  | (with_reducible apply i_bm0)
  | (with_reducible apply i_part)
  | (with_reducible apply i_kInt)
  | (with_reducible apply i_noPart)
  | (with_reducible apply i_sl)
  | (with_reducible apply i_range1)
  | (with_reducible apply i_range2)
  | ((with_reducible apply i_kRng1); (case c => walk_at "side"))
  | ((with_reducible apply i_kRng2); (case c => walk_at "side"))
  | (with_reducible apply i_gCons)
  | (with_reducible apply i_gNil)
  | (with_reducible apply i_gSub)
  | (with_reducible apply i_iZip)
  | (with_reducible apply i_yes)
  | (with_reducible apply i_ift)
  | (with_reducible apply i_iff)
  | (with_reducible apply i_nb))
local macro_rules | `(tactic| walk_at "go") => `(tactic| repeat (first | (with_reducible apply i_seq) | (with_reducible apply i_next) | walk_at "e"))
local macro_rules | `(tactic| walk_at "ge") => `(tactic| repeat walk_at "e")
local macro_rules | `(tactic| walk_at "sz") => `(tactic| first | decide | (rw [sizeLine_eq]; simp; done) | (rw [sizeLine_eq]; omega))
local macro_rules | `(tactic| walk_at "side") => `(tactic| (with_reducible exact WB.most_pos))
local macro_rules | `(tactic| walk_at "e") => `(tactic| first
  | ((with_reducible apply i_isT (b := true)); exact rfl)
  | ((with_reducible apply i_isT (b := false)); exact rfl)
  | (with_reducible apply i_fld)
  | ((with_reducible apply i_kFld); (case h => assumption); (case c1 => assumption); (case c2 => assumption); (case e => first | exact lk_number | exact lk_tail | exact lk_head | exact lk_load | exact lk_oneway | exact lk_points | exact lk_ties | exact lk_given))
  | (with_reducible apply i_sfld)
  | ((with_reducible apply i_kSFld); (case h => first | assumption | exact upd_same); (case c1 => assumption); (case c2 => assumption); (case e => exact Nat.le_of_ble_eq_true rfl))
  | (with_reducible apply i_methC)
  | (with_reducible apply i_make)
  | (with_reducible apply i_fldaug)
  | (with_reducible apply i_vals)
  | (with_reducible apply i_items)
  | (with_reducible apply i_dget)
  | (with_reducible apply i_dput)
  | (with_reducible apply i_din)
  | (with_reducible apply i_dnotin)
  | (with_reducible apply i_ddel)
  | (with_reducible apply i_dc)
  | (with_reducible apply i_enum)
  | (with_reducible apply i_ckw))
/-- what is found -/
def FoundAt (K : PySem.W.Frag) (H : Hp) (r nl hd : Addr) (w : Wb) (one two : Str) : Prop :=
  (two ∉ (dOf w one).keys ∧ hd = nl ∧ HasL K H "Border" "names" r nl ((seenP w one).map V.str)) ∨ (two ∈ (dOf w one).keys ∧ LeastAt K H r nl (wayN w one two) ((dOf w one).ht two) hd (ordD w one))
/-- what is told of it -/
def TellAt (H : Hp) (a : Addr) (w : Wb) (one two : Str) : Prop :=
  (two ∉ (dOf w one).keys ∧ H a = some (.lst ((seenP w one).map V.str))) ∨ (two ∈ (dOf w one).keys ∧ ∃ a1 a2, H a = some (.lst [.ref a1, .int ((dOf w one).ht two), .ref a2]) ∧ H a1 = some (.lst ((wayN w one two).map V.int)) ∧ H a2 = some (.dK (ordD w one)))
theorem TellAt.same {H H' : Hp} {a : Addr} {w : Wb} {one two : Str} (h : TellAt H a w one two) (s : ∀ b o, (∀ φ, o ≠ .ext φ) → H b = some o → H' b = some o) : TellAt H' a w one two := by
  rcases h with ⟨h1, h2⟩ | ⟨h1, a1, a2, h2, h3, h4⟩
  · exact .inl ⟨h1, s _ _ (fun _ => by simp) h2⟩
  · exact .inr ⟨h1, a1, a2, s _ _ (fun _ => by simp) h2, s _ _ (fun _ => by simp) h3, s _ _ (fun _ => by simp) h4⟩
theorem tell_congr {H : Hp} {a : Addr} {w w2 : Wb} {one two : Str} (e1 : dOf w2 one = dOf w one) (e2 : seenP w2 one = seenP w one) (h : TellAt H a w2 one two) : TellAt H a w one two := by
  unfold TellAt wayN ordD at h ⊢
  rw [e1, e2] at h
  exact h
theorem dOf_beside {w w2 : Wb} (ok : Wok w) (ok2 : Wok w2) (b : Beside w w2) {one : Str} (h1 : one ∈ w.ps) : dOf w2 one = dOf w one ∧ seenP w2 one = seenP w one := by
  have fr : ∀ a ∈ w.ps, freeS w2.ts a = freeS w.ts a := fun a ha => by
    have := b.free (fun _ => true) ha
    have e : ∀ ts : Ts, ts.filter (fun _ => true) = ts := fun ts => List.filter_eq_self.mpr fun _ _ => rfl
    rwa [e, e] at this
  have e1 : dOf w2 one = dOf w one := dij_congr (ld_nn ok) fun a ra => by
    have ha := (dOf_in ok h1).2.2 a ((dOf_keys ok h1).mpr ra)
    refine ⟨fr a ha, fun p hp => ?_⟩
    obtain ⟨u, hu, _⟩ := free_mem.mp (show (p.1, p.2) ∈ freeS w.ts a from hp)
    rw [ldOf_mem ok.rise hu, ldOf_mem ok2.rise (b.mem hu)]
  refine ⟨e1, ?_⟩
  unfold seenP
  rw [e1]
  exact b.names (dOf_in ok h1).2.2
theorem dp_same_ints {K : PySem.W.Frag} {H : Hp} {a b : Addr} {ns : List Int} (h1 : H a = some (.lst (ns.map V.int))) (h2 : H b = some (.lst (ns.map V.int))) : Same2 K H (.ref a) (.ref b) :=
  .inl ⟨_, .lst (SqL.of h1) (dp_ints ns), .lst (SqL.of h2) (dp_ints ns), shaped_ints ns⟩
theorem i_neTell {K : PySem.W.Frag} {H : Hp} {Q : VK} {a b : Addr} {w : Wb} {one two : Str} (ok : Wok w) (h1 : TellAt H a w one two) (h2 : TellAt H b w one two) (q : Q (.bl false) H) : rNeX K (.ref a) (.ref b) H Q := by
  rcases h1 with ⟨k1, e1⟩ | ⟨k1, a1, a2, e1, e2, e3⟩
  · rcases h2 with ⟨_, f1⟩ | ⟨k2, _⟩
    · exact .inl (i_neSame (SqL.of e1) (SqL.of f1) (fun y hy => nm_ok (ok.nm y (List.mem_filter.mp hy).1)) q)
    · exact absurd k2 k1
  · rcases h2 with ⟨k2, _⟩ | ⟨_, b1, b2, f1, f2, f3⟩
    · exact absurd k1 k2
    · refine .inr ⟨a, b, _, _, rfl, rfl, e1, f1, rfl, fun j u v hj1 hj2 => ?_, q⟩
      match j, hj1, hj2 with
      | 0, hj1, hj2 =>
        cases hj1; cases hj2
        exact dp_same_ints e2 f2
      | 1, hj1, hj2 =>
        cases hj1; cases hj2
        exact .inl ⟨_, .int _, .int _, rfl⟩
      | 2, hj1, hj2 =>
        cases hj1; cases hj2
        refine .inr ⟨a2, b2, _, _, rfl, rfl, e3, f3, rfl, fun p hp => ?_⟩
        obtain ⟨x, hx, rfl⟩ := List.mem_map.mp hp
        exact ⟨mapD_get (f := fun x => V.int ((dOf w one).ht x)) hx, rfl⟩
      | j + 3, hj1, _ => simp at hj1
section
variable {P : Program} {w : World} {K : PySem.W.Frag} {mg : Str → Option Value} {base : Heap}
def sp_told (K : PySem.W.Frag) : Sp := fun vs H Q _ => ∃ r nl hd w one two, vs = [.ref r] ∧ FoundAt K H r nl hd w one two ∧ w.ps.length ≤ 16 ∧ (two ∈ (dOf w one).keys → (wayN w one two).length ≤ 64) ∧
  ∀ a H', H a = none → TellAt H' a w one two → (∀ b o, b ≠ nl → b ≠ hd → H b = some o → H' b = some o) → Q (.ref a) H'
theorem ok_law_told (T : Tx K mg) (xk : extra K = true) : FnOk P w K mg base CX0 1 (He.ga K "_law_told") T.fd_law_told ["_law_found"] (sp_told K) := by
  refine T.F_law_told.ok sc_law_told (fun vs H Q E h => ?_) (fun cdv A outer s H vs Q E hr h => ?_)
  · obtain ⟨_, _, _, _, _, _, rfl, _⟩ := h
    rfl
  · obtain ⟨r, nl, hd, w, one, two, rfl, fnd, l16, l64, q⟩ := h
    have hu := hu_of hr
    refine ⟨_, PSs.nox (pss_cons (ps_if (pt_val (pe_callB call_isi (by rfl) T.b_isinstance (by decide +kernel) (pa_cons (pv 0) (pa_cons (pe_glob (v := .ref (He.ga K "Border")) rfl T.g_Border rfl) pa_nil)))) (pss_cons (ps_set (i := 1) sc_law_told.nd rfl (Or.inl rfl) (pe_callTy x_list (by rfl) T.b_list (by decide +kernel) (pa_cons (pe_fld (pv 0) rfl) pa_nil)))
      (pss_cons (ps_expr (pe_bm PySem.F.plainAttrs_list PySem.F.slot_list_append PySem.F.type_list_append mt_append (pe_fld (pv 0) rfl) (pa_cons pe_str pa_nil)))
      (pss_one (ps_ret (pv 1))))) pss_nil)
      (pss_cons (ps_set (i := 1) sc_law_told.nd rfl (Or.inl rfl) (pe_lst (pa_cons (pe_callTy x_list (by rfl) T.b_list (by decide +kernel) (pa_cons (pe_fld (pv 0) rfl) pa_nil)) (pa_cons (pe_fld (pv 0) rfl) (pa_cons (pe_callTy x_dict (by rfl) T.b_dict (by decide +kernel) (pa_cons (pe_fld (pv 0) rfl) pa_nil)) pa_nil)))))
      (pss_cons (ps_expr (pe_bm PySem.F.plainAttrs_list PySem.F.slot_list_append PySem.F.type_list_append mt_append (pe_fld (pv 0) rfl) (pa_cons pe_int pa_nil)))
      (pss_cons (ps_expr (pe_dclear (pe_fld (pv 0) rfl)))
      (pss_one (ps_ret (pv 1))))))), ?_⟩
    have cB := T.cl_Border
    have nB := T.na_Border_names
    have cL := T.cl_Least
    have n1 := T.na_Least_numbers
    have n2 := T.na_Least_load
    have n3 := T.na_Least_heights
    have sl : (seenP w one).length ≤ 16 := Nat.le_trans (List.length_filter_le _ _) l16
    walk_at "go"
    rcases fnd with ⟨k, _, hl⟩ | ⟨k, hl⟩
    · obtain ⟨dx, er⟩ := hl.self
      have en := hl.lst
      refine i_borBor xk cB er ?_
      walk_at "go"
      refine i_kFld er cB nB rfl ?_
      walk_at "go"
      refine ⟨nl, _, rfl, .inl (SqL.of en), fun a ha => ?_⟩
      have s1 : Same H (upd H a (.lst ((seenP w one).map V.str))) := Same.new ha
      have ea : (upd H a (.lst ((seenP w one).map V.str))) a = some (.lst ((seenP w one).map V.str)) := upd_same
      have na : a ≠ nl := fun z => by rw [← z, ha] at en; cases en
      generalize upd H a (.lst ((seenP w one).map V.str)) = H1 at s1 ea ⊢
      walk_at "go"
      refine i_kFld (s1 _ _ er) cB nB rfl ?_
      refine i_kTyL (SqL.of (s1 _ _ en)) ?_
      walk_at "go"
      refine i_append (s1 _ _ en) ?_ (by rw [List.length_map, sizeLine_eq]; omega)
      walk_at "go"
      exact q a _ ha (.inl ⟨k, (upd_ne na).trans ea⟩) fun b o h1 _ e => (upd_ne h1).trans (s1 _ _ e)
    · have l64 := l64 k
      obtain ⟨dx, er⟩ := hl.self
      have en := hl.nums
      have eh := hl.hts
      refine i_leaBor xk cL er ?_
      walk_at "go"
      refine i_kFld er cL n1 rfl ?_
      walk_at "go"
      refine ⟨nl, _, rfl, .inl (SqL.of en), fun a1 ha1 => ?_⟩
      have s1 : Same H (upd H a1 (.lst ((wayN w one two).map V.int))) := Same.new ha1
      have e1 : (upd H a1 (.lst ((wayN w one two).map V.int))) a1 = some (.lst ((wayN w one two).map V.int)) := upd_same
      have m1 : a1 ≠ nl := fun z => by rw [← z, ha1] at en; cases en
      have m2 : a1 ≠ hd := fun z => by rw [← z, ha1] at eh; cases eh
      generalize upd H a1 (.lst ((wayN w one two).map V.int)) = H1 at s1 e1 ⊢
      walk_at "go"
      refine i_kFld (s1 _ _ er) cL n2 rfl ?_
      walk_at "go"
      refine i_kFld (s1 _ _ er) cL n3 rfl ?_
      walk_at "go"
      refine ⟨hd, ordD w one, rfl, .inl (s1 _ _ eh), fun a2 ha2 => ?_⟩
      have s2 : Same H1 (upd H1 a2 (.dK (ordD w one))) := Same.new ha2
      have e2 : (upd H1 a2 (.dK (ordD w one))) a2 = some (.dK (ordD w one)) := upd_same
      have m3 : a2 ≠ nl := fun z => by have := s1 _ _ en; rw [← z, ha2] at this; cases this
      have m4 : a2 ≠ hd := fun z => by have := s1 _ _ eh; rw [← z, ha2] at this; cases this
      generalize upd H1 a2 (.dK (ordD w one)) = H2 at s2 e2 ⊢
      walk_at "go"
      refine ⟨by walk_at "sz", fun a ha => ?_⟩
      have s3 : Same H2 (upd H2 a (.lst [.ref a1, .int ((dOf w one).ht two), .ref a2])) := Same.new ha
      have e3 : (upd H2 a (.lst [.ref a1, .int ((dOf w one).ht two), .ref a2])) a = some (.lst [.ref a1, .int ((dOf w one).ht two), .ref a2]) := upd_same
      have s12 := s1.trans s2
      have m5 : a ≠ nl := fun z => by have := s12 _ _ en; rw [← z, ha] at this; cases this
      have m6 : a ≠ hd := fun z => by have := s12 _ _ eh; rw [← z, ha] at this; cases this
      have fa : H a = none := s12.free ha
      generalize upd H2 a (.lst [.ref a1, .int ((dOf w one).ht two), .ref a2]) = H3 at s3 e3 ⊢
      have s13 := s12.trans s3
      have e23 := s3 _ _ e2
      have e13 := (s2.trans s3) _ _ e1
      walk_at "go"
      refine i_kFld (s13 _ _ er) cL n1 rfl ?_
      refine i_kTyL (SqL.of (s13 _ _ en)) ?_
      walk_at "go"
      refine i_append (s13 _ _ en) ?_ (by rw [List.length_map, sizeLine_eq]; omega)
      have nrn : r ≠ nl := fun z => by rw [z, en] at er; cases er
      have nhn : hd ≠ nl := fun z => by rw [z, en] at eh; cases eh
      have er4 := (upd_ne nrn (o := .lst ((wayN w one two).map V.int ++ [.int 0]))).trans (s13 _ _ er)
      have eh4 := (upd_ne nhn (o := .lst ((wayN w one two).map V.int ++ [.int 0]))).trans (s13 _ _ eh)
      walk_at "go"
      refine i_kFld er4 cL n3 rfl ?_
      refine i_kTyD eh4 ?_
      refine ⟨hd, _, rfl, rfl, eh4, ?_⟩
      walk_at "go"
      refine q a _ fa (.inr ⟨k, a1, a2, (upd_ne m6).trans ((upd_ne m5).trans e3), (upd_ne m2).trans ((upd_ne m1).trans e13), (upd_ne m4).trans ((upd_ne m3).trans e23)⟩) fun b o h1 h2 e => (upd_ne h2).trans ((upd_ne h1).trans (s13 _ _ e))
end
end K20

set_option Elab.async false
set_option linter.all false
set_option maxRecDepth 100000
set_option maxHeartbeats 4000000
namespace K20
open PySem PySem.Spec PyProof.Rows L2 HX WB LamK NDX
open TL (tl)
local macro_rules | `(tactic| walk_at "side") => `(tactic| first
  | assumption
  | rfl
  | (show (0 : Int) < _; omega)
  | (unfold CDiv; omega)
  | (unfold CMul; omega)
  | (unfold CPow; omega)
  | (rw [sizeLine_eq]; omega)
  | omega)
local macro_rules | `(tactic| walk_at "e") => `(tactic| first
  | ((with_reducible apply i_var); exact rfl)
  | (with_reducible apply i_c)
  | (with_reducible apply i_op)
  | (with_reducible apply i_un)
  | (with_reducible apply i_rI0)
  | ((with_reducible apply i_rI); (case c => walk_at "side"))
  | (with_reducible apply i_rGe)
  | (with_reducible apply i_rGt)
  | (with_reducible apply i_rU)
  | (with_reducible apply i_rEqI)
  | (with_reducible apply i_rNeI)
  | (with_reducible apply i_rEqS)
  | (with_reducible apply i_rNeS)
  | (with_reducible apply i_rEqB)
  | (with_reducible apply i_rNeB)
  | (with_reducible apply i_rIsN)
  | (with_reducible apply i_rNotN)
  | (with_reducible apply i_rInS)
  | (with_reducible apply i_rNotInS)
  | ((with_reducible apply i_catS); (case c => walk_at "side"))
  | (with_reducible apply i_tcb)
  | (with_reducible apply i_nil)
  | (with_reducible apply i_cons)
  | ((with_reducible apply i_lenS); (case c => walk_at "side"))
  | ((with_reducible apply i_lenL); assumption)
  | (with_reducible apply i_abs)
  | (with_reducible apply i_max2)
  | (with_reducible apply i_min2)
  | ((with_reducible apply i_strI); (case c => walk_at "side"))
  | (with_reducible apply i_intB)
  | (with_reducible apply i_test)
  | (with_reducible apply i_tB)
  | (with_reducible apply i_kB)
  | (with_reducible apply i_and)
  | (with_reducible apply i_or)
  | (with_reducible apply i_not)
  | (with_reducible apply i_if)
  | (with_reducible apply i_andV)
  | (with_reducible apply i_orV)
  | (with_reducible apply i_notV)
  | (with_reducible apply i_kAndV)
  | (with_reducible apply i_kOrV)
  | (with_reducible apply i_kNotV)
  | (with_reducible apply i_chain)
  | (with_reducible apply i_kChain)
  | (with_reducible apply i_drop)
  | (with_reducible apply i_ret)
  | (with_reducible apply i_retN)
  | (with_reducible apply i_ifS)
  | (with_reducible apply i_asg)
  | (with_reducible apply i_gName)
  | (with_reducible apply i_for)
  | (with_reducible apply i_lc)
  | (with_reducible apply i_iList)
  | (with_reducible apply i_iTup)
  | (with_reducible apply i_iStr)
  | (with_reducible apply i_kStrI)
  | (with_reducible apply i_lst)
  | (with_reducible apply i_tup)
  | (with_reducible apply i_call)
  | (with_reducible apply i_m1)
  | (with_reducible apply i_kStr)
  | (with_reducible apply i_bm)
  | (with_reducible apply i_bm0)
  | (with_reducible apply i_part)
  | (with_reducible apply i_kInt)
  | (with_reducible apply i_noPart)
  | (with_reducible apply i_sl)
  | (with_reducible apply i_range1)
  | (with_reducible apply i_range2)
  | ((with_reducible apply i_kRng1); (case c => walk_at "side"))
  | ((with_reducible apply i_kRng2); (case c => walk_at "side"))
  | (with_reducible apply i_gCons)
  | (with_reducible apply i_gNil)
  | (with_reducible apply i_gSub)
  | (with_reducible apply i_iZip)
  | (with_reducible apply i_yes)
  | (with_reducible apply i_ift)
  | (with_reducible apply i_iff)
  | (with_reducible apply i_nb))
local macro_rules | `(tactic| walk_at "go") => `(tactic| repeat (first | (with_reducible apply i_seq) | (with_reducible apply i_next) | walk_at "e"))
local macro_rules | `(tactic| walk_at "ge") => `(tactic| repeat walk_at "e")
local macro_rules | `(tactic| walk_at "sz") => `(tactic| first | decide | (rw [sizeLine_eq]; simp; done) | (rw [sizeLine_eq]; omega))
local macro_rules | `(tactic| walk_at "side") => `(tactic| (with_reducible exact WB.most_pos))
local macro_rules | `(tactic| walk_at "e") => `(tactic| first
  | ((with_reducible apply i_isT (b := true)); exact rfl)
  | ((with_reducible apply i_isT (b := false)); exact rfl)
  | (with_reducible apply i_fld)
  | ((with_reducible apply i_kFld); (case h => assumption); (case c1 => assumption); (case c2 => assumption); (case e => first | exact lk_number | exact lk_tail | exact lk_head | exact lk_load | exact lk_oneway | exact lk_points | exact lk_ties | exact lk_given))
  | (with_reducible apply i_sfld)
  | ((with_reducible apply i_kSFld); (case h => first | assumption | exact upd_same); (case c1 => assumption); (case c2 => assumption); (case e => exact Nat.le_of_ble_eq_true rfl))
  | (with_reducible apply i_methC)
  | (with_reducible apply i_make)
  | (with_reducible apply i_fldaug)
  | (with_reducible apply i_vals)
  | (with_reducible apply i_items)
  | (with_reducible apply i_dget)
  | (with_reducible apply i_dput)
  | (with_reducible apply i_din)
  | (with_reducible apply i_dnotin)
  | (with_reducible apply i_ddel)
  | (with_reducible apply i_dc)
  | (with_reducible apply i_enum)
  | (with_reducible apply i_ckw))
theorem i_par {i j : Nat} {ta : TA} {D : Ends} {σ : L2.St} {H : Hp} (q : ta σ H fun vs H1 => ∃ v w, vs = [v, w] ∧ D.nx ((σ.set i (some v)).set j (some w)) H1) : tPar i j ta D σ H := q
local macro_rules | `(tactic| walk_at "e") => `(tactic| (with_reducible apply i_par))
theorem texts_ok {w : Wb} (ok : Wok w) (hg : w.g ≤ most) : ∀ y ∈ textsOf w, okS y = true := fun y hy => by
  obtain ⟨l, hl, rfl⟩ := List.mem_map.mp hy
  exact Ln.text_ok (lines_fine ok hg l hl)
/-- rows as they are made -/
structure Made (ps : List Str) (ts : Ts) (i : Nat) : Prop where
  rise : Rise ts
  len : ts.length = i
  ok : ∀ n t, (n, t) ∈ ts → 1 ≤ n ∧ n ≤ 2 * (i : Int) ∧ n % 2 = 0 ∧ t.t ∈ ps ∧ t.h ∈ ps ∧ t.t ≠ t.h ∧ 0 ≤ t.c ∧ t.c ≤ most
theorem Made.nil {ps : List Str} : Made ps [] 0 := ⟨List.Pairwise.nil, rfl, by simp⟩
theorem Made.add {ps : List Str} {ts : Ts} {i : Nat} {t : Ti} (h : Made ps ts i) (h1 : t.t ∈ ps) (h2 : t.h ∈ ps) (h3 : t.t ≠ t.h) (h4 : 0 ≤ t.c) (h5 : t.c ≤ most) : Made ps (ts ++ [(2 * (i : Int) + 2, t)]) (i + 1) := by
  refine ⟨List.pairwise_append.mpr ⟨h.rise, by simp, fun a ha b hb => ?_⟩, by rw [List.length_append, h.len]; rfl, fun n u hm => ?_⟩
  · rw [List.mem_singleton.mp hb]
    have := (h.ok a.1 a.2 ha).2.1
    show a.1 < 2 * (i : Int) + 2
    omega
  · rcases List.mem_append.mp hm with hm | hm
    · obtain ⟨a1, a2, a3⟩ := h.ok n u hm
      exact ⟨a1, by omega, a3⟩
    · cases List.mem_singleton.mp hm
      exact ⟨by omega, by omega, by omega, h1, h2, h3, h4, h5⟩
theorem Made.wok {ps : List Str} {ts : Ts} {i : Nat} (h : Made ps ts i) (nd : ps.Nodup) (nm : ∀ x ∈ ps, isNm x = true) (l16 : ps.length ≤ 16) (hi : i ≤ 40) : Wok ⟨ps, ts, lastN ts⟩ ∧ lastN ts ≤ most ∧ Even ts := by
  have hm : (1000 : Int) ≤ most := by decide +kernel
  have lst : 0 ≤ lastN ts ∧ lastN ts ≤ 80 := by
    unfold lastN
    cases q : ts.getLast? with
    | none => exact ⟨by decide, by decide⟩
    | some x =>
      obtain ⟨n, t⟩ := x
      have := h.ok n t (List.mem_of_getLast? q)
      show 0 ≤ n ∧ n ≤ 80
      omega
  refine ⟨⟨nd, nm, l16, by show ts.length ≤ 48; rw [h.len]; omega, h.rise, fun n t m => ?_, lst.1⟩, by omega, fun n t m => (h.ok n t m).2.2.1⟩
  obtain ⟨a1, a2, a3, a4, a5, a6, a7, a8⟩ := h.ok n t m
  exact ⟨a1, rise_last h.rise m, a4, a5, a6, a7, a8⟩
section
variable {K : PySem.W.Frag} {H H' : Hp} {P : Addr} {q : Str}
theorem rows_off {rs : List Addr} {ts : Ts} (t : TabL H P q) (h : RowsL H rs ts) : RowsL (off P H) rs ts := h.mono fun _ _ ⟨kvs, e, r⟩ => ⟨kvs, off_at t (fun _ => by simp) e, r⟩
/-- what is kept throughout -/
structure Kp (K : PySem.W.Frag) (H : Hp) (a na D p l d ln : Addr) (ns : List Int) (rs : List Addr) (w : Wb) : Prop where
  s : SqL K H a (ns.map V.int)
  na : H na = some (.lst (w.ps.map V.str))
  D : H D = some (.lst (rs.map V.ref))
  rows : RowsL H rs w.ts
  web : WebAt K H p l d w
  ln : H ln = some (.lst ((textsOf w).map V.str))
variable {a na D p l d ln : Addr} {ns : List Int} {rs : List Addr} {w : Wb}
theorem Kp.same (h : Kp K H a na D p l d ln ns rs w) (s : Same H H') : Kp K H' a na D p l d ln ns rs w := ⟨SqL.same h.s s, s _ _ h.na, s _ _ h.D, RowsLsame h.rows s, h.web.same s, s _ _ h.ln⟩
theorem Kp.off (h : Kp K H a na D p l d ln ns rs w) (t : TabL H P q) : Kp K (off P H) a na D p l d ln ns rs w := ⟨sqL_off t h.s, off_at t (fun _ => by simp) h.na, off_at t (fun _ => by simp) h.D, rows_off t h.rows, webAt_off t h.web, off_at t (fun _ => by simp) h.ln⟩
end
section
variable {P : Program} {w : World} {K : PySem.W.Frag} {mg : Str → Option Value} {base : Heap}
theorem lw_found {H : Hp} {p l d : Addr} {w : Wb} {one two : Str} {Q : VK} {E : XK} (hw : WebAt K (off (tb K) H) p l d w) (ok : Wok w) (h1 : one ∈ w.ps) (h2 : two ∈ w.ps) (t : TabL H (tb K) lamQ)
    (q : ∀ r nl hd H', Same (off (tb K) H) H' → TabL H' (tb K) lamQ → H r = none → H nl = none → H hd = none → FoundAt K H' r nl hd w one two → Q (.ref r) H') : sp_least_way K [.ref p, .str one, .str two] H Q E :=
  ⟨p, l, d, w, one, two, rfl, hw, ok, h1, h2, t, fun k r nl H' o t' a b hl => q r nl nl H' o t' a b b (.inl ⟨k, rfl, hl⟩), fun k r nl hd H' o t' a b c hl => q r nl hd H' o t' a b c (.inr ⟨k, hl⟩)⟩
theorem found_right {H : Hp} {r nl hd : Addr} {w : Wb} {one two : Str} (h : FoundAt K H r nl hd w one two) : (two ∉ (dOf w one).keys ∧ ∃ nl, HasL K H "Border" "names" r nl ((seenP w one).map V.str)) ∨ (two ∈ (dOf w one).keys ∧ ∃ nl hd, LeastAt K H r nl (wayN w one two) ((dOf w one).ht two) hd (ordD w one)) := by
  rcases h with ⟨k, _, hl⟩ | ⟨k, hl⟩
  · exact .inl ⟨k, nl, hl⟩
  · exact .inr ⟨k, nl, hd, hl⟩
theorem found_at {H : Hp} {r nl hd : Addr} {w : Wb} {one two : Str} (h : FoundAt K H r nl hd w one two) : (∃ o, H nl = some o ∧ ∀ φ, o ≠ .ext φ) ∧ ∃ o, H hd = some o ∧ ∀ φ, o ≠ .ext φ := by
  rcases h with ⟨_, rfl, hl⟩ | ⟨_, hl⟩
  · exact ⟨⟨_, hl.lst, fun _ => by simp⟩, ⟨_, hl.lst, fun _ => by simp⟩⟩
  · exact ⟨⟨_, hl.nums, fun _ => by simp⟩, ⟨_, hl.hts, fun _ => by simp⟩⟩
theorem told_tab {H H' : Hp} {r nl hd : Addr} {w : Wb} {one two : Str} {q : Str} (t : TabL H (tb K) q) (h : FoundAt K H r nl hd w one two) (k : ∀ b o, b ≠ nl → b ≠ hd → H b = some o → H' b = some o) : TabL H' (tb K) q := by
  obtain ⟨⟨o1, e1, x1⟩, o2, e2, x2⟩ := found_at h
  obtain ⟨C, c1, c2⟩ := t
  have ne : ∀ {x : Addr} {φ}, H x = some (.ext φ) → H' x = some (.ext φ) := fun {x φ} h => k _ _ (fun z => by
    rw [z, e1] at h
    exact x1 φ (Option.some.inj h)) (fun z => by
    rw [z, e2] at h
    exact x2 φ (Option.some.inj h)) h
  exact ⟨C, ne c1, fun c hc => ⟨(c2 c hc).1, ne (c2 c hc).2⟩⟩
/-- what a finding and a telling leave as it was -/
theorem step_keep {H H1 H2 : Hp} {nl hd : Addr} {q : Str} (t : TabL H (tb K) q) (o : Same (off (tb K) H) H1) (f1 : H nl = none) (f2 : H hd = none) (k : ∀ b o, b ≠ nl → b ≠ hd → H1 b = some o → H2 b = some o) : ∀ b o, (∀ φ, o ≠ .ext φ) → H b = some o → H2 b = some o := fun b ob n e =>
  k b ob (ne_of_none e f1) (ne_of_none e f2) (o _ _ (off_at t n e))
theorem step_G {G H H1 H2 : Hp} {nl hd : Addr} (ntb : ∀ {b : Addr} {o : HO}, G b = some o → b ≠ tb K) (g : Same G H) (o : Same (off (tb K) H) H1) (f1 : H nl = none) (f2 : H hd = none) (k : ∀ b o, b ≠ nl → b ≠ hd → H1 b = some o → H2 b = some o) : Same G H2 := fun b ob e =>
  k b ob (ne_of_none (g _ _ e) f1) (ne_of_none (g _ _ e) f2) (o _ _ (by rw [off_ne (ntb e)]; exact g _ _ e))
def sp_kept : Sp := fun vs H Q _ => vs = [] ∧ ∀ H', Same H H' → Q (.bl true) H'
theorem ok_law_kept (T : Tx K mg) : FnOk P w K mg base CX0 3 (He.ga K "_law_kept") T.fd_law_kept [] sp_kept := by
  refine T.F_law_kept.ok sc_law_kept (fun vs H Q E h => ?_) (fun cdv A outer s H vs Q E hr h => ?_)
  · obtain ⟨rfl, _⟩ := h
    rfl
  · obtain ⟨rfl, q⟩ := h
    have hu := hu_of hr
    refine ⟨_, PSs.nox (pss_cons (ps_par (i := 0) (j := 1) (by rfl) sc_law_kept.nd rfl rfl (by decide) rfl rfl (pa_cons (pe_lst (pa_cons pe_int (pa_cons pe_int pa_nil))) (pa_cons (pe_disp (pps_cons pe_str pe_int (pps_cons pe_str pe_int pps_nil)) (by rfl) (by rfl) (fun z => by cases z) (by decide)) pa_nil)) (by rfl))
      (pss_cons (ps_set (i := 2) sc_law_kept.nd rfl (Or.inl rfl) (pe_make T.mk_Least (ok_Least_init T) (hr.mono (by decide)) (by rfl) T.g_Least T.k_Least_init .nil pass0 (pa_cons (pv 0) (pa_cons pe_int (pa_cons (pv 1) pa_nil)))))
      (pss_cons (ps_expr (pe_bm PySem.F.plainAttrs_list PySem.F.slot_list_append PySem.F.type_list_append mt_append (pv 0) (pa_cons pe_int pa_nil)))
      (pss_cons (ps_dput hu (pv 1) pe_str pe_int rfl)
      (pss_one (ps_ret (pe_and (pe_cmpR (op_eqD hr.units) (pe_fld (pv 2) rfl) (pe_lst (pa_cons pe_int (pa_cons pe_int pa_nil))) (nomark _)) (pe_and (pe_cmpR op_eq (pe_fld (pv 2) rfl) pe_int (nomark _)) (pe_one (pe_cmpR (op_eqDI hr.units0) (pe_fld (pv 2) rfl) (pe_disp (pps_cons pe_str pe_int (pps_cons pe_str pe_int pps_nil)) (by rfl) (by rfl) (fun z => by cases z) (by decide)) (nomark _))))))))))), ?_⟩
    have cL := T.cl_Least
    have n1 := T.na_Least_numbers
    have n2 := T.na_Least_load
    have n3 := T.na_Least_heights
    walk_at "go"
    refine ⟨by walk_at "sz", fun a ha => ?_⟩
    have s1 : Same H (upd H a (.lst [.int 1, .int 2])) := Same.new ha
    have ea : (upd H a (.lst [.int 1, .int 2])) a = some (.lst [.int 1, .int 2]) := upd_same
    generalize upd H a (.lst [.int 1, .int 2]) = H1 at s1 ea ⊢
    walk_at "go"
    intro b hb
    have e0 : (upd H1 b (.dK [])) b = some (.dK []) := upd_same
    apply i_pairs
    walk_at "go"
    apply i_pairs
    walk_at "go"
    apply i_pairs0
    refine ⟨e0, [(Sum.inr "a", .int 0), (Sum.inr "b", .int 4)], rfl, (show 2 ≤ 15 by decide), ?_⟩
    rw [upd_upd]
    have em : mergeK [] [((Sum.inr "a" : Key), V.int 0), (Sum.inr "b", .int 4)] = [((Sum.inr "a" : Key), V.int 0), (Sum.inr "b", .int 4)] := rfl
    rw [em]
    have s2 : Same H1 (upd H1 b (.dK [((Sum.inr "a" : Key), V.int 0), (Sum.inr "b", .int 4)])) := Same.new hb
    have eb : (upd H1 b (.dK [((Sum.inr "a" : Key), V.int 0), (Sum.inr "b", .int 4)])) b = some (.dK [((Sum.inr "a" : Key), V.int 0), (Sum.inr "b", .int 4)]) := upd_same
    have fb : H b = none := s1.free hb
    have ea2 := s2 _ _ ea
    generalize upd H1 b (.dK [((Sum.inr "a" : Key), V.int 0), (Sum.inr "b", .int 4)]) = H2 at s2 eb ea2 ⊢
    walk_at "go"
    refine ⟨_, _, rfl, ?_⟩
    walk_at "go"
    intro x dxx hx hdxx hne
    have s3 : Same H2 (upd (upd H2 dxx (.own x)) x (.ins (He.ga K "Least") dxx [])) := Same.mut (Same.new hdxx) hx
    have fx : H2 x = none := hx
    refine ⟨x, dxx, a, b, _, 4, _, rfl, upd_same, s3 _ _ ea2, s3 _ _ eb, fun nl hd H4 hnl hhd nn e4 en4 eh4 k4 => ?_⟩
    have s4 : Same H2 H4 := fun b o e => k4 b o (ne_of_none e fx) (s3 _ _ e)
    have ea4 := s4 _ _ ea2
    have eb4 := s4 _ _ eb
    have nla : nl ≠ a := fun z => by
      have := s3 _ _ ea2
      rw [z, this] at hnl
      cases hnl
    have hda : hd ≠ a := fun z => by rw [z, ea4] at eh4; cases eh4
    have hdb : hd ≠ b := fun z => by
      have := s3 _ _ eb
      rw [z, this] at hhd
      cases hhd
    have nlb : nl ≠ b := fun z => by rw [z, eb4] at en4; cases en4
    have xa : x ≠ a := fun z => by rw [z, ea4] at e4; cases e4
    have xb : x ≠ b := fun z => by rw [z, eb4] at e4; cases e4
    have ba : b ≠ a := fun z => by rw [z, ea4] at eb4; cases eb4
    refine ⟨rfl, ?_⟩
    walk_at "go"
    refine i_kTyL (SqL.of ea4) ?_
    walk_at "go"
    refine i_append ea4 ?_ (by decide)
    have s5 : Same H (upd H4 a (.lst ([.int 1, .int 2] ++ [.int 3]))) := Same.mut ((s1.trans s2).trans s4) ha
    have e5 : (upd H4 a (.lst ([.int 1, .int 2] ++ [.int 3]))) x = some (.ins (He.ga K "Least") dxx [("numbers", .ref nl), ("load", .int 4), ("heights", .ref hd)]) := (upd_ne xa).trans e4
    have en5 : (upd H4 a (.lst ([.int 1, .int 2] ++ [.int 3]))) nl = some (.lst ([1, 2].map V.int)) := (upd_ne nla).trans en4
    have eh5 : (upd H4 a (.lst ([.int 1, .int 2] ++ [.int 3]))) hd = some (.dK [((Sum.inr "a" : Key), V.int 0), (Sum.inr "b", .int 4)]) := (upd_ne hda).trans eh4
    have eb5 : (upd H4 a (.lst ([.int 1, .int 2] ++ [.int 3]))) b = some (.dK [((Sum.inr "a" : Key), V.int 0), (Sum.inr "b", .int 4)]) := (upd_ne ba).trans eb4
    generalize upd H4 a (.lst ([.int 1, .int 2] ++ [.int 3])) = H5 at s5 e5 en5 eh5 eb5 ⊢
    walk_at "go"
    refine i_kDPutS eb5 (by rw [sizeLine_eq]; decide) ?_
    have s6 : Same H (upd H5 b (.dK (putK [((Sum.inr "a" : Key), V.int 0), (Sum.inr "b", .int 4)] (Sum.inr "c") (.int 9)))) := Same.mut s5 fb
    have e6 : (upd H5 b (.dK (putK [((Sum.inr "a" : Key), V.int 0), (Sum.inr "b", .int 4)] (Sum.inr "c") (.int 9)))) x = some (.ins (He.ga K "Least") dxx [("numbers", .ref nl), ("load", .int 4), ("heights", .ref hd)]) := (upd_ne xb).trans e5
    have en6 := (upd_ne nlb (o := .dK (putK [((Sum.inr "a" : Key), V.int 0), (Sum.inr "b", .int 4)] (Sum.inr "c") (.int 9)))).trans en5
    have eh6 := (upd_ne hdb (o := .dK (putK [((Sum.inr "a" : Key), V.int 0), (Sum.inr "b", .int 4)] (Sum.inr "c") (.int 9)))).trans eh5
    generalize upd H5 b (.dK (putK [((Sum.inr "a" : Key), V.int 0), (Sum.inr "b", .int 4)] (Sum.inr "c") (.int 9))) = H6 at s6 e6 en6 eh6 ⊢
    walk_at "go"
    refine i_kFld e6 cL n1 rfl ?_
    walk_at "go"
    refine ⟨by walk_at "sz", fun c hc => ?_⟩
    have s7 : Same H6 (upd H6 c (.lst [.int 1, .int 2])) := Same.new hc
    refine i_eqSameI (ys := [1, 2]) (SqL.of (s7 _ _ en6)) (SqL.of upd_same) ?_
    have e7 := s7 _ _ e6
    have eh7 := s7 _ _ eh6
    generalize upd H6 c (.lst [.int 1, .int 2]) = H7 at s7 e7 eh7 ⊢
    walk_at "go"
    refine i_kFld e7 cL n2 rfl ?_
    walk_at "go"
    refine i_dec (fun _ => ?_) (fun c => absurd rfl c)
    walk_at "go"
    refine i_kFld e7 cL n3 rfl ?_
    walk_at "go"
    intro d hd2
    have e8 : (upd H7 d (.dK [])) d = some (.dK []) := upd_same
    apply i_pairs
    walk_at "go"
    apply i_pairs
    walk_at "go"
    apply i_pairs0
    refine ⟨e8, [(Sum.inr "a", .int 0), (Sum.inr "b", .int 4)], rfl, (show 2 ≤ 15 by decide), ?_⟩
    rw [upd_upd, em]
    have s8 : Same H7 (upd H7 d (.dK [((Sum.inr "a" : Key), V.int 0), (Sum.inr "b", .int 4)])) := Same.new hd2
    have ed : (upd H7 d (.dK [((Sum.inr "a" : Key), V.int 0), (Sum.inr "b", .int 4)])) d = some (.dK [((Sum.inr "a" : Key), V.int 0), (Sum.inr "b", .int 4)]) := upd_same
    have eh8 := s8 _ _ eh7
    refine ⟨hd, d, _, _, rfl, rfl, eh8, ed, rfl, fun p hp => ?_, ?_⟩
    · rcases List.mem_cons.mp hp with rfl | hp
      · exact ⟨rfl, rfl⟩
      · rw [List.mem_singleton.mp hp]
        exact ⟨by decide +kernel, rfl⟩
    walk_at "go"
    exact q _ ((s6.trans s7).trans s8)
def sp_law (K : PySem.W.Frag) : Sp := fun vs H Q _ => ∃ (a : Addr) (ns : List Int), vs = [.ref a] ∧ SqL K H a (ns.map V.int) ∧ ns.length ≤ 63 ∧ TabL H (tb K) lamQ ∧ ∀ H', TabL H' (tb K) lamQ → Q (.bl true) H'
theorem ok_law (T : Tx K mg) (J : Js P w K mg base) (xk : extra K = true) : FnOk P w K mg base CX0 12 (He.ga K "law") T.fd_law ["_law_script"] (sp_law K) := by
  refine T.F_law.ok sc_law (fun vs H Q E h => ?_) (fun cdv A outer s H vs Q E hr h => ?_)
  · obtain ⟨_, _, rfl, _⟩ := h
    rfl
  · obtain ⟨a, ns, rfl, hS, hln, hT, q⟩ := h
    have hu := hu_of hr
    refine ⟨_, PSs.nox (pss_cons (ps_if (pt_not (pt_val (pe_call0 (ok_law_kept T) (hr.mono (by decide)) (by rfl) T.g_law_kept T.F_law_kept.kp T.k_law_kept .nil pass0))) (pss_one (ps_ret pe_bl)) pss_nil)
      (pss_cons (ps_set (i := 1) sc_law.nd rfl (Or.inr rfl) (pe_call (ok_law_names T) (hr.mono (by decide)) (by rfl) T.g_law_names T.F_law_names.kp T.k_law_names .nil pass0 (pa_cons (pe_call (ok_law_number T) (hr.mono (by decide)) (by rfl) T.g_law_number T.F_law_number.kp T.k_law_number .nil pass0 (pa_cons (pv 0) (pa_cons pe_int pa_nil))) (pa_cons (pe_op op_add pe_int (pe_op op_mod (pe_call (ok_law_number T) (hr.mono (by decide)) (by rfl) T.g_law_number T.F_law_number.kp T.k_law_number .nil pass0 (pa_cons (pv 0) (pa_cons pe_int pa_nil))) pe_int)) pa_nil))))
      (pss_cons (ps_setLc (i := 2) (own := [("_law_k", 6)]) (by rfl) sc_law.nd rfl rfl (sw_true rfl rfl rfl (by decide +kernel)) (pi_range1 rfl T.b_range (pa_cons (pe_callB (x_min2 rfl) (by rfl) T.b_min (by decide +kernel) (pa_cons (pe_callB x_lenL (by rfl) T.b_len (by decide +kernel) (pa_cons (pv 0) pa_nil)) (pa_cons pe_int pa_nil))) pa_nil)) (blkOk_by (own := [("_law_k", 6)]) (N := N_law) (sc := defScope s_law) (by decide +kernel)) (fun _ _ _ _ _ => (pg_name (i := 6) sc_law.nd rfl (Or.inl rfl))) (fun _ _ _ _ _ => pts_nil) (fun _ _ _ _ _ => (pe_call (ok_law_row T) (hr.mono (by decide)) (by rfl) T.g_law_row T.F_law_row.kp T.k_law_row .nil pass0 (pa_cons (pv 0) (pa_cons (pv 6) (pa_cons (pv 1) pa_nil))))))
      (pss_cons (ps_set (i := 3) sc_law.nd rfl (Or.inl rfl) (pe_call (ok_law_web T) (hr.mono (by decide)) (by rfl) T.g_law_web T.F_law_web.kp T.k_law_web .nil pass0 (pa_cons (pv 1) (pa_cons (pv 2) pa_nil))))
      (pss_cons (ps_set (i := 4) sc_law.nd rfl (Or.inl rfl) (pe_call (ok_law_beside T) (hr.mono (by decide)) (by rfl) T.g_law_beside T.F_law_beside.kp T.k_law_beside .nil pass0 (pa_cons (pv 0) (pa_cons (pv 1) (pa_cons (pv 2) pa_nil)))))
      (pss_cons (ps_set (i := 5) sc_law.nd rfl (Or.inl rfl) (pe_call (ok_web_lines T) (hr.mono (by decide)) (by rfl) T.g_web_lines T.F_web_lines.kp T.k_web_lines .nil pass0 (pa_cons (pv 3) pa_nil)))
      (pss_cons (ps_for PassesOwn.never rfl (pi_range1 rfl T.b_range (pa_cons pe_int pa_nil)) (pg_name (i := 6) sc_law.nd rfl (Or.inl rfl))
      (pss_cons (ps_set (i := 7) sc_law.nd rfl (Or.inl rfl) (pe_call (ok_law_number T) (hr.mono (by decide)) (by rfl) T.g_law_number T.F_law_number.kp T.k_law_number .nil pass0 (pa_cons (pv 0) (pa_cons (pe_op op_add pe_int (pv 6)) pa_nil))))
      (pss_cons (ps_set (i := 8) sc_law.nd rfl (Or.inl rfl) (pe_ix ix_list (pv 1) (pe_op op_mod (pv 7) (pe_callB x_lenL (by rfl) T.b_len (by decide +kernel) (pa_cons (pv 1) pa_nil))) (fun _ _ => rfl)))
      (pss_cons (ps_set (i := 9) sc_law.nd rfl (Or.inl rfl) (pe_ix ix_list (pv 1) (pe_op op_mod (pe_op op_fdiv (pv 7) pe_int) (pe_callB x_lenL (by rfl) T.b_len (by decide +kernel) (pa_cons (pv 1) pa_nil))) (fun _ _ => rfl)))
      (pss_cons (ps_if (pt_not (pt_val (pe_call (ok_law_right T xk) (hr.mono (by decide)) (by rfl) T.g_law_right T.F_law_right.kp T.k_law_right .nil pass0 (pa_cons (pv 1) (pa_cons (pv 2) (pa_cons (pe_call (ok_least_way T J) (hr.mono (by decide)) (by rfl) T.g_least_way T.F_least_way.kp T.k_least_way .nil pass0 (pa_cons (pv 3) (pa_cons (pv 8) (pa_cons (pv 9) pa_nil)))) (pa_cons (pv 8) (pa_cons (pv 9) pa_nil)))))))) (pss_one (ps_ret pe_bl)) pss_nil)
      (pss_cons (ps_set (i := 10) sc_law.nd rfl (Or.inl rfl) (pe_call (ok_law_told T xk) (hr.mono (by decide)) (by rfl) T.g_law_told T.F_law_told.kp T.k_law_told .nil pass0 (pa_cons (pe_call (ok_least_way T J) (hr.mono (by decide)) (by rfl) T.g_least_way T.F_least_way.kp T.k_least_way .nil pass0 (pa_cons (pv 3) (pa_cons (pv 8) (pa_cons (pv 9) pa_nil)))) pa_nil)))
      (pss_one (ps_if (PW.pt (pw_or (pt_cmpR (NDX.op_neX (SDX.units65 hr)) (pe_call (ok_law_told T xk) (hr.mono (by decide)) (by rfl) T.g_law_told T.F_law_told.kp T.k_law_told .nil pass0 (pa_cons (pe_call (ok_least_way T J) (hr.mono (by decide)) (by rfl) T.g_least_way T.F_least_way.kp T.k_least_way .nil pass0 (pa_cons (pv 3) (pa_cons (pv 8) (pa_cons (pv 9) pa_nil)))) pa_nil)) (pv 10) (nomark _)) (pw_or1 (pt_cmpR (NDX.op_neX (SDX.units65 hr)) (pe_call (ok_law_told T xk) (hr.mono (by decide)) (by rfl) T.g_law_told T.F_law_told.kp T.k_law_told .nil pass0 (pa_cons (pe_call (ok_least_way T J) (hr.mono (by decide)) (by rfl) T.g_least_way T.F_least_way.kp T.k_least_way .nil pass0 (pa_cons (pv 4) (pa_cons (pv 8) (pa_cons (pv 9) pa_nil)))) pa_nil)) (pv 10) (nomark _))))) (pss_one (ps_ret pe_bl)) pss_nil))))))))
      (pss_one (ps_ret (pe_cmpR (op_eqD hr.units) (pe_call (ok_web_lines T) (hr.mono (by decide)) (by rfl) T.g_web_lines T.F_web_lines.kp T.k_web_lines .nil pass0 (pa_cons (pv 3) pa_nil)) (pv 5) (nomark _))))))))))), ?_⟩
    walk_at "go"
    refine ⟨rfl, fun H1 s1 => ?_⟩
    have hS1 := SqL.same hS s1
    walk_at "go"
    refine ⟨a, ns, 71, rfl, by decide, by decide, hS1, by omega, fun n1 n10 n11 => ?_⟩
    walk_at "go"
    refine ⟨a, ns, 70, rfl, by decide, by decide, hS1, by omega, fun n2 n20 n21 => ?_⟩
    walk_at "go"
    refine ⟨n1, 2 + n2 % 8, rfl, n10, by omega, by omega, fun na ps H2 s2 hna ena nd pl pnm => ?_⟩
    have p2 : 2 ≤ ps.length := by omega
    have p12 : ps.length ≤ 12 := by omega
    have nm : ∀ x ∈ ps, isNm x = true := fun x hx => (pnm x hx).1
    have nz : ∀ x ∈ ps, NoZ x := fun x hx => (pnm x hx).2
    have hS2 := SqL.same hS1 s2
    walk_at "go"
    rw [List.length_map]
    generalize hk : min (ns.length : Int) 30 = kk
    have k0 : 0 ≤ kk ∧ kk ≤ 30 := by omega
    clear hk
    intro D hD
    refine lc_it walk_range (fun i H' => Same H2 H' ∧ ∃ rs ts, H' D = some (.lst ((rs : List Addr).map V.ref)) ∧ RowsL H' rs ts ∧ Made ps ts i)
      ⟨Same.new hD, [], [], upd_same, .nil, Made.nil⟩ (fun _ _ _ _ => trivial) ?_ ?_
    · rintro i v H3 H4 hi ⟨s3, rs, ts, eD, hrs, md⟩ ⟨rfl, rfl⟩
      have hi24 : i < kk.toNat := by simpa using hi
      walk_at "go"
      refine ⟨rfl, ?_⟩
      walk_at "go"
      refine ⟨a, na, ns, 0 + (i : Int), ps, rfl, by omega, by omega, SqL.same hS2 s3, by omega, s3 _ _ ena, p2, by omega, nd, fun r t H5 s5 hr' ra t1 t2 t3 t4 t5 => ?_⟩
      rw [Int.zero_add] at ra
      have eD5 := s5 _ _ eD
      have hrl := Two.len hrs
      have ml := md.len
      refine ⟨_, eD5, ?_, Same.mut (s3.trans s5) hD, rs ++ [r], ts ++ [(2 * (i : Int) + 2, t)], by rw [upd_same, List.map_append]; rfl, ?_, md.add t1 t2 t3 t4 t5⟩
      · rw [List.length_map, hrl, ml, sizeLine_eq]; omega
      · exact Two.app (hrs.mono fun _ _ r => (r.same s5).off eD5) (.cons (ra.off eD5) .nil)
    · rintro H3 ⟨s3, rs, ts, eD, hrs, md⟩
      have md : Made ps ts kk.toNat := by
        have : ((kk - 0).toNat) = kk.toNat := by rw [Int.sub_zero]
        first | exact md | (rw [← this]; exact md)
      obtain ⟨ok, hg, ev⟩ := md.wok nd nm (by omega) (by omega)
      have mlen := md.len
      generalize hw0 : (⟨ps, ts, lastN ts⟩ : Wb) = w0 at ok
      have e1 : w0.ps = ps := by rw [← hw0]
      have e2 : w0.ts = ts := by rw [← hw0]
      have e3 : w0.g = lastN ts := by rw [← hw0]
      have hS3 := SqL.same hS2 s3
      have ena3 := s3 _ _ ena
      have hrl := Two.len hrs
      have t3 := tabL_same hT ((s1.trans s2).trans s3)
      walk_at "go"
      refine ⟨na, D, rs, ts, w0, rfl, by rw [e1]; exact ena3, eD, hrs, by rw [e2, sortN_rise md.rise], by rw [e3, sortN_rise md.rise], ok, by rw [e3]; exact hg, fun p l d H4 s4 hp hl hd hw => ?_⟩
      have t4 := tabL_same t3 s4
      have w0g : w0.g ≤ most := by rw [e3]; exact hg
      have tok := texts_ok ok w0g
      have ev0 : Even w0.ts := by rw [e2]; exact ev
      have nz0 : ∀ x ∈ w0.ps, NoZ x := by rw [e1]; exact nz
      have pl0 : w0.ps.length ≤ 12 := by rw [e1]; exact p12
      have pl2 : 2 ≤ w0.ps.length := by rw [e1]; exact p2
      have tl0 : w0.ts.length ≤ 40 := by rw [e2, mlen]; omega
      have sl : ns.length ≤ 64 := by omega
      have ena4 : H4 na = some (.lst (w0.ps.map V.str)) := s4 _ _ (by rw [e1]; exact ena3)
      have hrs4 : RowsL H4 rs w0.ts := RowsLsame (by rw [e2]; exact hrs) s4
      have eD4 := s4 _ _ eD
      have hS4 := SqL.same hS3 s4
      clear hrs eD ena3 hS3 ena hS2 hS1 hS t3 hT s1 s2 s3 s4 md hw0 hg ev nz nm nd pnm e1 e2 e3 mlen p2 p12
      walk_at "go"
      refine ⟨a, na, D, ns, rs, w0, rfl, hS4, sl, ena4, eD4, hrs4, ok, w0g, ev0, nz0, by omega, tl0, fun pb lb db w2 Hb sb _ _ _ hwb ok2 hg2 bes bts => ?_⟩
      have tb4 := tabL_same t4 sb
      walk_at "go"
      refine ⟨p, l, d, w0, rfl, hw.same sb, ok, w0g, fun ln H5 s5 hln5 eln => ?_⟩
      have t5 := tabL_same tb4 s5
      have s45 := sb.trans s5
      have kp5 : Kp K H5 a na D p l d ln ns rs w0 := ⟨SqL.same hS4 s45, s45 _ _ ena4, s45 _ _ eD4, RowsLsame hrs4 s45, hw.same s45, eln⟩
      have hw5 := hwb.same s5
      clear s45 s5 sb hwb eln hw t4 tb4 hS4 ena4 eD4 hrs4 hln5
      have kpG := kp5.off t5
      have wbG := webAt_off t5 hw5
      have G5 : ∀ {b}, H5 b = none → off (tb K) H5 b = none := fun {b} h => by
        unfold off
        split
        · rfl
        · exact h
      have g5 : Same (off (tb K) H5) H5 := off_in
      have ntb : ∀ {b : Addr} {o : HO}, off (tb K) H5 b = some o → b ≠ tb K := fun z => (off_le z).2
      clear kp5 hw5 G5
      generalize off (tb K) H5 = G at kpG wbG g5 ntb
      walk_at "go"
      refine for_it walk_range (fun i σ H' => Same G H' ∧ TabL H' (tb K) lamQ ∧ ∃ v6 v7 v8 v9 v10, σ = [some (.ref a), some (.ref na), some (.ref D), some (.ref p), some (.ref pb), some (.ref ln), v6, v7, v8, v9, v10])
        ⟨g5, t5, none, none, none, none, none, rfl⟩ (fun _ _ _ _ _ => trivial) ?_ ?_
      · rintro i v σ H6 H7 hi ⟨g6, t6, v6, v7, v8, v9, v10, rfl⟩ ⟨rfl, rfl⟩
        have hi4 : i < 4 := by simpa using hi
        have kp6 := kpG.same g6
        walk_at "go"
        refine ⟨a, ns, 72 + (0 + (i : Int)), rfl, by omega, by omega, kp6.s, sl, fun m m0 m1 => ?_⟩
        walk_at "go"
        refine i_lenL (SqL.of kp6.na) ?_
        rw [List.length_map]
        refine i_rI ?_ (by omega)
        obtain ⟨one, _, h1, x1⟩ := pick_nm (xs := w0.ps) (i := m % (w0.ps.length : Int)) (Int.emod_nonneg _ (by omega)) (Int.emod_lt_of_pos _ (by omega))
        refine i_ixL (SqL.of kp6.na) x1 ?_
        walk_at "go"
        refine i_lenL (SqL.of kp6.na) ?_
        rw [List.length_map]
        refine i_rI ?_ (by omega)
        obtain ⟨two, _, h2, x2⟩ := pick_nm (xs := w0.ps) (i := m / 10 % (w0.ps.length : Int)) (Int.emod_nonneg _ (by omega)) (Int.emod_lt_of_pos _ (by omega))
        refine i_ixL (SqL.of kp6.na) x2 ?_
        walk_at "go"
        refine lw_found (webAt_off t6 kp6.web) ok h1 h2 t6 fun r1 nl1 hd1 H8 o8 t8 _ _ _ fnd1 => ?_
        have g8 : Same G H8 := fun b o z => o8 _ _ (by rw [off_ne (ntb z)]; exact g6 _ _ z)
        have kp8 := kpG.same g8
        clear o8 t6 g6 kp6
        walk_at "go"
        refine ⟨na, D, rs, r1, w0, one, two, rfl, kp8.na, kp8.D, kp8.rows, ok, h1, h2, found_right fnd1, fun H9 s9 => ?_⟩
        have g9 := g8.trans s9
        have t9 := tabL_same t8 s9
        have kp9 := kp8.same s9
        clear g8 t8 kp8 s9 fnd1
        have l64 : two ∈ (dOf w0 one).keys → (wayN w0 one two).length ≤ 64 := fun k => by
          obtain ⟨_, _, _, _, _, _, h⟩ := way_found ok h1 k
          exact h
        walk_at "go"
        refine lw_found (webAt_off t9 kp9.web) ok h1 h2 t9 fun r2 nl2 hd2 H10 o10 t10 _ f21 f22 fnd2 => ?_
        walk_at "go"
        refine ⟨r2, nl2, hd2, w0, one, two, rfl, fnd2, ok.le, l64, fun a3 H11 ha3 tell3 k11 => ?_⟩
        have g11 := step_G ntb g9 o10 f21 f22 k11
        have t11 := told_tab t10 fnd2 k11
        have kp11 := kpG.same g11
        clear g9 t9 kp9 o10 t10 f21 f22 fnd2 k11 ha3
        walk_at "go"
        refine lw_found (webAt_off t11 kp11.web) ok h1 h2 t11 fun r4 nl4 hd4 H12 o12 t12 _ f41 f42 fnd4 => ?_
        walk_at "go"
        refine ⟨r4, nl4, hd4, w0, one, two, rfl, fnd4, ok.le, l64, fun a4 H13 ha4 tell4 k13 => ?_⟩
        have g13 := step_G ntb g11 o12 f41 f42 k13
        have t13 := told_tab t12 fnd4 k13
        have tell3 := tell3.same (step_keep t11 o12 f41 f42 k13)
        have kp13 := kpG.same g13
        clear g11 t11 kp11 o12 t12 f41 f42 fnd4 k13 ha4
        walk_at "go"
        refine i_neTell ok tell4 tell3 ?_
        walk_at "go"
        refine lw_found (webAt_off t13 (wbG.same g13)) ok2 (bes.pmem h1) (bes.pmem h2) t13 fun r5 nl5 hd5 H14 o14 t14 _ f51 f52 fnd5 => ?_
        walk_at "go"
        obtain ⟨d1, d2⟩ := dOf_beside ok ok2 bes h1
        have l64b : two ∈ (dOf w2 one).keys → (wayN w2 one two).length ≤ 64 := fun k => by
          have e : wayN w2 one two = wayN w0 one two := by unfold wayN; rw [d1]
          rw [e]
          exact l64 (by rw [← d1]; exact k)
        refine ⟨r5, nl5, hd5, w2, one, two, rfl, fnd5, ok2.le, l64b, fun a5 H15 ha5 tell5 k15 => ?_⟩
        have g15 := step_G ntb g13 o14 f51 f52 k15
        have t15 := told_tab t14 fnd5 k15
        have tell3 := tell3.same (step_keep t13 o14 f51 f52 k15)
        walk_at "go"
        refine i_neTell ok (tell_congr d1 d2 tell5) tell3 ?_
        walk_at "go"
        exact ⟨g15, t15, _, _, _, _, _, rfl⟩
      · rintro σ H6 ⟨g6, t6, v6, v7, v8, v9, v10, rfl⟩
        have kp6 := kpG.same g6
        walk_at "go"
        refine ⟨p, l, d, w0, rfl, kp6.web, ok, w0g, fun l7 H7 s7 _ e7 => ?_⟩
        walk_at "go"
        refine i_eqSame (SqL.of e7) (SqL.of (s7 _ _ kp6.ln)) tok ?_
        walk_at "go"
        exact q _ (tabL_same t6 s7)
end
end K20

set_option Elab.async false
set_option linter.all false
set_option maxRecDepth 100000
set_option maxHeartbeats 4000000
namespace K20
open PySem PySem.Spec PyProof.Rows L2 HX WB

theorem facts {P : Program} {w : World} {K : PySem.W.Frag} {h : Heap} {mg : Str → Option Value} {f : Addr} (X : K.In h) (G : h.Ns mainGlobals mg) (hfa : mg ("law" : Str) = some (.ref f)) (c0 : He.SaysX extra fa fn K) (cd : AnyL.CodeOf K (He.ga K "_least_came")) :
    ∃ fd : FuncData, (∀ (s : Shared) (v : Value), BindsTo s fd ⟨[v], []⟩ [("_law_script", v)]) ∧ ∀ base : Heap, K.In base → base.Ns mainGlobals mg → GxR.TabB base mg (AnyL.cdV K (He.ga K "_least_came")) (AnyL.tbV K (He.ga K "_least_came")) → FnOk P w K mg base CX0 12 f fd ["_law_script"] (sp_law K) := by
  obtain ⟨xk, c⟩ := c0.both
  obtain ⟨fd0, F0⟩ := c.def_ 0 (d := d_wall) rfl
  obtain ⟨fd1, F1⟩ := c.def_ 1 (d := d_has_only) rfl
  obtain ⟨fd2, F2⟩ := c.def_ 2 (d := d_is_whole) rfl
  obtain ⟨fd3, F3⟩ := c.def_ 3 (d := d_is_among) rfl
  obtain ⟨fd4, F4⟩ := c.def_ 4 (d := d_is_name) rfl
  obtain ⟨fd5, F5⟩ := c.def_ 5 (d := d_number_text) rfl
  obtain ⟨fd6, F6⟩ := c.def_ 6 (d := d_number_of) rfl
  obtain ⟨fd7, F7⟩ := c.def_ 7 (d := d_words_of) rfl
  obtain ⟨fd8, F8⟩ := c.def_ 8 (d := d_need_all) rfl
  obtain ⟨fd9, F9⟩ := c.def_ 9 (d := d_names_in) rfl
  obtain ⟨fd10, F10⟩ := c.def_ 10 (d := d_free_steps) rfl
  obtain ⟨fd11, F11⟩ := c.def_ 11 (d := d_numbers_to) rfl
  obtain ⟨fd12, F12⟩ := c.def_ 12 (d := d_Border_init) rfl
  obtain ⟨fd13, F13⟩ := c.def_ 13 (d := d_border_by) rfl
  obtain ⟨fd14, F14⟩ := c.def_ 14 (d := d_way_by) rfl
  obtain ⟨fd15, F15⟩ := c.def_ 15 (d := d_Least_init) rfl
  obtain ⟨fd16, F16⟩ := c.def_ 16 (d := d_least_came) rfl
  obtain ⟨fd17, F17⟩ := c.def_ 17 (d := d_least_way) rfl
  obtain ⟨fd18, F18⟩ := c.def_ 18 (d := d_Tie_init) rfl
  obtain ⟨fd19, F19⟩ := c.def_ 19 (d := d_between) rfl
  obtain ⟨fd20, F20⟩ := c.def_ 20 (d := d_turned) rfl
  obtain ⟨fd21, F21⟩ := c.def_ 21 (d := d_Web_init) rfl
  obtain ⟨fd22, F22⟩ := c.def_ 22 (d := d_Web_points) rfl
  obtain ⟨fd23, F23⟩ := c.def_ 23 (d := d_Web_ties) rfl
  obtain ⟨fd24, F24⟩ := c.def_ 24 (d := d_Web_given) rfl
  obtain ⟨fd25, F25⟩ := c.def_ 25 (d := d_Web_put_point) rfl
  obtain ⟨fd26, F26⟩ := c.def_ 26 (d := d_Web_put_tie) rfl
  obtain ⟨fd27, F27⟩ := c.def_ 27 (d := d_Web_join) rfl
  obtain ⟨fd28, F28⟩ := c.def_ 28 (d := d_Web_need_point) rfl
  obtain ⟨fd29, F29⟩ := c.def_ 29 (d := d_Web_need_new_name) rfl
  obtain ⟨fd30, F30⟩ := c.def_ 30 (d := d_Web_need_new_point) rfl
  obtain ⟨fd31, F31⟩ := c.def_ 31 (d := d_need_load) rfl
  obtain ⟨fd32, F32⟩ := c.def_ 32 (d := d_tie_line) rfl
  obtain ⟨fd33, F33⟩ := c.def_ 33 (d := d_web_lines) rfl
  obtain ⟨fd34, F34⟩ := c.def_ 34 (d := d_put_point_words) rfl
  obtain ⟨fd35, F35⟩ := c.def_ 35 (d := d_put_tie_words) rfl
  obtain ⟨fd36, F36⟩ := c.def_ 36 (d := d_set_given_words) rfl
  obtain ⟨fd37, F37⟩ := c.def_ 37 (d := d_take_words) rfl
  obtain ⟨fd38, F38⟩ := c.def_ 38 (d := d_stands) rfl
  obtain ⟨fd39, F39⟩ := c.def_ 39 (d := d_web_of) rfl
  obtain ⟨fd40, F40⟩ := c.def_ 40 (d := d_law_number) rfl
  obtain ⟨fd41, F41⟩ := c.def_ 41 (d := d_law_mixed) rfl
  obtain ⟨fd42, F42⟩ := c.def_ 42 (d := d_law_names) rfl
  obtain ⟨fd43, F43⟩ := c.def_ 43 (d := d_law_great) rfl
  obtain ⟨fd44, F44⟩ := c.def_ 44 (d := d_law_row) rfl
  obtain ⟨fd45, F45⟩ := c.def_ 45 (d := d_law_by_number) rfl
  obtain ⟨fd46, F46⟩ := c.def_ 46 (d := d_law_web) rfl
  obtain ⟨fd47, F47⟩ := c.def_ 47 (d := d_law_beside) rfl
  obtain ⟨fd48, F48⟩ := c.def_ 48 (d := d_law_turns) rfl
  obtain ⟨fd49, F49⟩ := c.def_ 49 (d := d_law_reach) rfl
  obtain ⟨fd50, F50⟩ := c.def_ 50 (d := d_law_whole) rfl
  obtain ⟨fd51, F51⟩ := c.def_ 51 (d := d_law_way) rfl
  obtain ⟨fd52, F52⟩ := c.def_ 52 (d := d_law_in_order) rfl
  obtain ⟨fd53, F53⟩ := c.def_ 53 (d := d_law_right) rfl
  obtain ⟨fd54, F54⟩ := c.def_ 54 (d := d_law_told) rfl
  obtain ⟨fd55, F55⟩ := c.def_ 55 (d := d_law_kept) rfl
  obtain ⟨fd56, F56⟩ := c.def_ 56 (d := d_law) rfl
  let T : Tx K mg := {
    b_bool := He.free_ok X G (c.fact 0 (f := .free "bool") rfl),
    b_dict := He.free_ok X G (c.fact 1 (f := .free "dict") rfl),
    b_enumerate := He.free_ok X G (c.fact 2 (f := .free "enumerate") rfl),
    b_int := He.free_ok X G (c.fact 3 (f := .free "int") rfl),
    b_isinstance := He.free_ok X G (c.fact 4 (f := .free "isinstance") rfl),
    b_len := He.free_ok X G (c.fact 5 (f := .free "len") rfl),
    b_list := He.free_ok X G (c.fact 6 (f := .free "list") rfl),
    b_min := He.free_ok X G (c.fact 7 (f := .free "min") rfl),
    b_point := He.free_ok X G (c.fact 8 (f := .free "point") rfl),
    b_range := He.free_ok X G (c.fact 9 (f := .free "range") rfl),
    b_sorted := He.free_ok X G (c.fact 10 (f := .free "sorted") rfl),
    b_str := He.free_ok X G (c.fact 11 (f := .free "str") rfl),
    b_sum := He.free_ok X G (c.fact 12 (f := .free "sum") rfl),
    c_LETTERS := He.str_ok X G (c.fact 13 (f := .str "LETTERS" "abcdefghijklmnopqrstuvwxyz") rfl),
    c_FIGURES := He.str_ok X G (c.fact 14 (f := .str "FIGURES" "0123456789") rfl),
    c_MOST_LETTERS := He.int_ok X G (c.fact 15 (f := .int "MOST_LETTERS" 12) rfl),
    c_MOST_FIGURES := He.int_ok X G (c.fact 16 (f := .int "MOST_FIGURES" 61) rfl),
    c_MOST := He.int_ok X G (c.fact 17 (f := .int "MOST" 1000000000000000000000000000000000000000000000000000000000000) rfl),
    c_MOST_POINTS := He.int_ok X G (c.fact 18 (f := .int "MOST_POINTS" 16) rfl),
    c_MOST_TIES := He.int_ok X G (c.fact 19 (f := .int "MOST_TIES" 48) rfl),
    g_Border := He.glo_ok X G (c.fact 20 (f := .glo "Border") rfl),
    cl_Border := He.cls_ok (c.fact 21 (f := .cls "Border") rfl),
    mk_Border := He.mkr_ok (c.fact 22 (f := .mkr "Border") rfl),
    na_Border_names := He.noat_ok (c.fact 23 (f := .noat "Border" "names") rfl),
    g_Least := He.glo_ok X G (c.fact 24 (f := .glo "Least") rfl),
    cl_Least := He.cls_ok (c.fact 25 (f := .cls "Least") rfl),
    mk_Least := He.mkr_ok (c.fact 26 (f := .mkr "Least") rfl),
    na_Least_numbers := He.noat_ok (c.fact 27 (f := .noat "Least" "numbers") rfl),
    na_Least_load := He.noat_ok (c.fact 28 (f := .noat "Least" "load") rfl),
    na_Least_heights := He.noat_ok (c.fact 29 (f := .noat "Least" "heights") rfl),
    g_Tie := He.glo_ok X G (c.fact 30 (f := .glo "Tie") rfl),
    cl_Tie := He.cls_ok (c.fact 31 (f := .cls "Tie") rfl),
    mk_Tie := He.mkr_ok (c.fact 32 (f := .mkr "Tie") rfl),
    na_Tie_number := He.noat_ok (c.fact 33 (f := .noat "Tie" "number") rfl),
    na_Tie_tail := He.noat_ok (c.fact 34 (f := .noat "Tie" "tail") rfl),
    na_Tie_head := He.noat_ok (c.fact 35 (f := .noat "Tie" "head") rfl),
    na_Tie_load := He.noat_ok (c.fact 36 (f := .noat "Tie" "load") rfl),
    na_Tie_is_oneway := He.noat_ok (c.fact 37 (f := .noat "Tie" "is_oneway") rfl),
    g_Web := He.glo_ok X G (c.fact 38 (f := .glo "Web") rfl),
    cl_Web := He.cls_ok (c.fact 39 (f := .cls "Web") rfl),
    mk_Web := He.mkr_ok (c.fact 40 (f := .mkr "Web") rfl),
    na_Web_points := He.noat_ok (c.fact 41 (f := .noat "Web" "_points") rfl),
    na_Web_ties := He.noat_ok (c.fact 42 (f := .noat "Web" "_ties") rfl),
    na_Web_given := He.noat_ok (c.fact 43 (f := .noat "Web" "_given") rfl),
    g_wall := He.glo_ok X G (c.fact 44 (f := .glo "_wall") rfl),
    g_has_only := He.glo_ok X G (c.fact 45 (f := .glo "_has_only") rfl),
    g_is_whole := He.glo_ok X G (c.fact 46 (f := .glo "is_whole") rfl),
    g_is_among := He.glo_ok X G (c.fact 47 (f := .glo "is_among") rfl),
    g_is_name := He.glo_ok X G (c.fact 48 (f := .glo "is_name") rfl),
    g_number_text := He.glo_ok X G (c.fact 49 (f := .glo "number_text") rfl),
    g_number_of := He.glo_ok X G (c.fact 50 (f := .glo "number_of") rfl),
    g_words_of := He.glo_ok X G (c.fact 51 (f := .glo "words_of") rfl),
    g_need_all := He.glo_ok X G (c.fact 52 (f := .glo "need_all") rfl),
    g_names_in := He.glo_ok X G (c.fact 53 (f := .glo "names_in") rfl),
    g_free_steps := He.glo_ok X G (c.fact 54 (f := .glo "free_steps") rfl),
    g_numbers_to := He.glo_ok X G (c.fact 55 (f := .glo "numbers_to") rfl),
    g_border_by := He.glo_ok X G (c.fact 56 (f := .glo "border_by") rfl),
    g_way_by := He.glo_ok X G (c.fact 57 (f := .glo "way_by") rfl),
    g_least_came := He.glo_ok X G (c.fact 58 (f := .glo "_least_came") rfl),
    g_least_way := He.glo_ok X G (c.fact 59 (f := .glo "least_way") rfl),
    g_between := He.glo_ok X G (c.fact 60 (f := .glo "_between") rfl),
    g_turned := He.glo_ok X G (c.fact 61 (f := .glo "_turned") rfl),
    m_Web_points := He.meth_ok (c.fact 62 (f := .meth "Web" "points") rfl),
    m_Web_ties := He.meth_ok (c.fact 63 (f := .meth "Web" "ties") rfl),
    m_Web_given := He.meth_ok (c.fact 64 (f := .meth "Web" "given") rfl),
    m_Web_put_point := He.meth_ok (c.fact 65 (f := .meth "Web" "put_point") rfl),
    m_Web_put_tie := He.meth_ok (c.fact 66 (f := .meth "Web" "put_tie") rfl),
    m_Web_join := He.meth_ok (c.fact 67 (f := .meth "Web" "join") rfl),
    m_Web_need_point := He.meth_ok (c.fact 68 (f := .meth "Web" "_need_point") rfl),
    m_Web_need_new_name := He.meth_ok (c.fact 69 (f := .meth "Web" "_need_new_name") rfl),
    m_Web_need_new_point := He.meth_ok (c.fact 70 (f := .meth "Web" "_need_new_point") rfl),
    g_need_load := He.glo_ok X G (c.fact 71 (f := .glo "_need_load") rfl),
    g_tie_line := He.glo_ok X G (c.fact 72 (f := .glo "_tie_line") rfl),
    g_web_lines := He.glo_ok X G (c.fact 73 (f := .glo "web_lines") rfl),
    g_put_point_words := He.glo_ok X G (c.fact 74 (f := .glo "_put_point_words") rfl),
    g_put_tie_words := He.glo_ok X G (c.fact 75 (f := .glo "_put_tie_words") rfl),
    g_set_given_words := He.glo_ok X G (c.fact 76 (f := .glo "_set_given_words") rfl),
    g_take_words := He.glo_ok X G (c.fact 77 (f := .glo "_take_words") rfl),
    g_stands := He.glo_ok X G (c.fact 78 (f := .glo "_stands") rfl),
    g_web_of := He.glo_ok X G (c.fact 79 (f := .glo "web_of") rfl),
    g_law_number := He.glo_ok X G (c.fact 80 (f := .glo "_law_number") rfl),
    g_law_mixed := He.glo_ok X G (c.fact 81 (f := .glo "_law_mixed") rfl),
    g_law_names := He.glo_ok X G (c.fact 82 (f := .glo "_law_names") rfl),
    g_law_great := He.glo_ok X G (c.fact 83 (f := .glo "_law_great") rfl),
    g_law_row := He.glo_ok X G (c.fact 84 (f := .glo "_law_row") rfl),
    g_law_by_number := He.glo_ok X G (c.fact 85 (f := .glo "_law_by_number") rfl),
    g_law_web := He.glo_ok X G (c.fact 86 (f := .glo "_law_web") rfl),
    g_law_beside := He.glo_ok X G (c.fact 87 (f := .glo "_law_beside") rfl),
    g_law_turns := He.glo_ok X G (c.fact 88 (f := .glo "_law_turns") rfl),
    g_law_reach := He.glo_ok X G (c.fact 89 (f := .glo "_law_reach") rfl),
    g_law_whole := He.glo_ok X G (c.fact 90 (f := .glo "_law_whole") rfl),
    g_law_way := He.glo_ok X G (c.fact 91 (f := .glo "_law_way") rfl),
    g_law_in_order := He.glo_ok X G (c.fact 92 (f := .glo "_law_in_order") rfl),
    g_law_right := He.glo_ok X G (c.fact 93 (f := .glo "_law_right") rfl),
    g_law_told := He.glo_ok X G (c.fact 94 (f := .glo "_law_told") rfl),
    g_law_kept := He.glo_ok X G (c.fact 95 (f := .glo "_law_kept") rfl),
    g_law := He.glo_ok X G (c.fact 96 (f := .glo "law") rfl),
    fd_wall := fd0,
    F_wall := F0,
    k_wall := FunD.bindsN F0 fun _ _ _ _ _ _ us hl => match us, hl with | [_], _ => rfl,
    fd_has_only := fd1,
    F_has_only := F1,
    k_has_only := FunD.bindsN F1 fun _ _ _ _ _ _ us hl => match us, hl with | [_, _], _ => rfl,
    fd_is_whole := fd2,
    F_is_whole := F2,
    k_is_whole := FunD.bindsN F2 fun _ _ _ _ _ _ us hl => match us, hl with | [_], _ => rfl,
    fd_is_among := fd3,
    F_is_among := F3,
    k_is_among := FunD.bindsN F3 fun _ _ _ _ _ _ us hl => match us, hl with | [_, _, _], _ => rfl,
    fd_is_name := fd4,
    F_is_name := F4,
    k_is_name := FunD.bindsN F4 fun _ _ _ _ _ _ us hl => match us, hl with | [_], _ => rfl,
    fd_number_text := fd5,
    F_number_text := F5,
    k_number_text := FunD.bindsN F5 fun _ _ _ _ _ _ us hl => match us, hl with | [_], _ => rfl,
    fd_number_of := fd6,
    F_number_of := F6,
    k_number_of := FunD.bindsN F6 fun _ _ _ _ _ _ us hl => match us, hl with | [_], _ => rfl,
    fd_words_of := fd7,
    F_words_of := F7,
    k_words_of := FunD.bindsN F7 fun _ _ _ _ _ _ us hl => match us, hl with | [_], _ => rfl,
    fd_need_all := fd8,
    F_need_all := F8,
    k_need_all := FunD.bindsN F8 fun _ _ _ _ _ _ us hl => match us, hl with | [_, _], _ => rfl,
    fd_names_in := fd9,
    F_names_in := F9,
    k_names_in := FunD.bindsN F9 fun _ _ _ _ _ _ us hl => match us, hl with | [_, _], _ => rfl,
    fd_free_steps := fd10,
    F_free_steps := F10,
    k_free_steps := FunD.bindsN F10 fun _ _ _ _ _ _ us hl => match us, hl with | [_, _], _ => rfl,
    fd_numbers_to := fd11,
    F_numbers_to := F11,
    k_numbers_to := FunD.bindsN F11 fun _ _ _ _ _ _ us hl => match us, hl with | [_, _], _ => rfl,
    fd_Border_init := fd12,
    F_Border_init := F12,
    k_Border_init := FunD.bindsN F12 fun _ _ _ _ _ _ us hl => match us, hl with | [_, _], _ => rfl,
    fd_border_by := fd13,
    F_border_by := F13,
    k_border_by := FunD.bindsN F13 fun _ _ _ _ _ _ us hl => match us, hl with | [_, _], _ => rfl,
    fd_way_by := fd14,
    F_way_by := F14,
    k_way_by := FunD.bindsN F14 fun _ _ _ _ _ _ us hl => match us, hl with | [_, _], _ => rfl,
    fd_Least_init := fd15,
    F_Least_init := F15,
    k_Least_init := FunD.bindsN F15 fun _ _ _ _ _ _ us hl => match us, hl with | [_, _, _, _], _ => rfl,
    fd_least_came := fd16,
    F_least_came := F16,
    k_least_came := FunD.bindsN F16 fun _ _ _ _ _ _ us hl => match us, hl with | [_, _], _ => rfl,
    fd_least_way := fd17,
    F_least_way := F17,
    k_least_way := FunD.bindsN F17 fun _ _ _ _ _ _ us hl => match us, hl with | [_, _, _], _ => rfl,
    fd_Tie_init := fd18,
    F_Tie_init := F18,
    k_Tie_init := FunD.bindsN F18 fun _ _ _ _ _ _ us hl => match us, hl with | [_, _, _, _, _, _], _ => rfl,
    fd_between := fd19,
    F_between := F19,
    k_between := FunD.bindsN F19 fun _ _ _ _ _ _ us hl => match us, hl with | [_, _, _], _ => rfl,
    fd_turned := fd20,
    F_turned := F20,
    k_turned := FunD.bindsN F20 fun _ _ _ _ _ _ us hl => match us, hl with | [_, _, _], _ => rfl,
    fd_Web_init := fd21,
    F_Web_init := F21,
    k_Web_init := FunD.bindsN F21 fun _ _ _ _ _ _ us hl => match us, hl with | [_], _ => rfl,
    fd_Web_points := fd22,
    F_Web_points := F22,
    k_Web_points := FunD.bindsN F22 fun _ _ _ _ _ _ us hl => match us, hl with | [_], _ => rfl,
    fd_Web_ties := fd23,
    F_Web_ties := F23,
    k_Web_ties := FunD.bindsN F23 fun _ _ _ _ _ _ us hl => match us, hl with | [_], _ => rfl,
    fd_Web_given := fd24,
    F_Web_given := F24,
    k_Web_given := FunD.bindsN F24 fun _ _ _ _ _ _ us hl => match us, hl with | [_], _ => rfl,
    fd_Web_put_point := fd25,
    F_Web_put_point := F25,
    k_Web_put_point := FunD.bindsN F25 fun _ _ _ _ _ _ us hl => match us, hl with | [_, _], _ => rfl,
    fd_Web_put_tie := fd26,
    F_Web_put_tie := F26,
    k_Web_put_tie_0 := FunD.binds1 F26 3 0 (by simp [d_Web_put_tie, He.DefD.dvs]) rfl fun _ _ _ _ _ _ _ us its hu hi => match us, its, hu, hi with | [_, _, _], [_, _], _, _ => ⟨_, rfl, rfl⟩,
    k_Web_put_tie_1 := FunD.binds1 F26 4 1 (by simp [d_Web_put_tie, He.DefD.dvs]) rfl fun _ _ _ _ _ _ _ us its hu hi => match us, its, hu, hi with | [_, _, _, _], [_, _], _, _ => ⟨_, rfl, rfl⟩,
    k_Web_put_tie_2 := FunD.binds1 F26 5 2 (by simp [d_Web_put_tie, He.DefD.dvs]) rfl fun _ _ _ _ _ _ _ us its hu hi => match us, its, hu, hi with | [_, _, _, _, _], [_, _], _, _ => ⟨_, rfl, rfl⟩,
    fd_Web_join := fd27,
    F_Web_join := F27,
    k_Web_join := FunD.bindsN F27 fun _ _ _ _ _ _ us hl => match us, hl with | [_, _, _], _ => rfl,
    fd_Web_need_point := fd28,
    F_Web_need_point := F28,
    k_Web_need_point := FunD.bindsN F28 fun _ _ _ _ _ _ us hl => match us, hl with | [_, _], _ => rfl,
    fd_Web_need_new_name := fd29,
    F_Web_need_new_name := F29,
    k_Web_need_new_name := FunD.bindsN F29 fun _ _ _ _ _ _ us hl => match us, hl with | [_, _], _ => rfl,
    fd_Web_need_new_point := fd30,
    F_Web_need_new_point := F30,
    k_Web_need_new_point := FunD.bindsN F30 fun _ _ _ _ _ _ us hl => match us, hl with | [_, _], _ => rfl,
    fd_need_load := fd31,
    F_need_load := F31,
    k_need_load := FunD.bindsN F31 fun _ _ _ _ _ _ us hl => match us, hl with | [_], _ => rfl,
    fd_tie_line := fd32,
    F_tie_line := F32,
    k_tie_line := FunD.bindsN F32 fun _ _ _ _ _ _ us hl => match us, hl with | [_], _ => rfl,
    fd_web_lines := fd33,
    F_web_lines := F33,
    k_web_lines := FunD.bindsN F33 fun _ _ _ _ _ _ us hl => match us, hl with | [_], _ => rfl,
    fd_put_point_words := fd34,
    F_put_point_words := F34,
    k_put_point_words := FunD.bindsN F34 fun _ _ _ _ _ _ us hl => match us, hl with | [_, _], _ => rfl,
    fd_put_tie_words := fd35,
    F_put_tie_words := F35,
    k_put_tie_words := FunD.bindsN F35 fun _ _ _ _ _ _ us hl => match us, hl with | [_, _], _ => rfl,
    fd_set_given_words := fd36,
    F_set_given_words := F36,
    k_set_given_words := FunD.bindsN F36 fun _ _ _ _ _ _ us hl => match us, hl with | [_, _], _ => rfl,
    fd_take_words := fd37,
    F_take_words := F37,
    k_take_words := FunD.bindsN F37 fun _ _ _ _ _ _ us hl => match us, hl with | [_, _], _ => rfl,
    fd_stands := fd38,
    F_stands := F38,
    k_stands := FunD.bindsN F38 fun _ _ _ _ _ _ us hl => match us, hl with | [_, _], _ => rfl,
    fd_web_of := fd39,
    F_web_of := F39,
    k_web_of := FunD.bindsN F39 fun _ _ _ _ _ _ us hl => match us, hl with | [_], _ => rfl,
    fd_law_number := fd40,
    F_law_number := F40,
    k_law_number := FunD.bindsN F40 fun _ _ _ _ _ _ us hl => match us, hl with | [_, _], _ => rfl,
    fd_law_mixed := fd41,
    F_law_mixed := F41,
    k_law_mixed := FunD.bindsN F41 fun _ _ _ _ _ _ us hl => match us, hl with | [_, _], _ => rfl,
    fd_law_names := fd42,
    F_law_names := F42,
    k_law_names := FunD.bindsN F42 fun _ _ _ _ _ _ us hl => match us, hl with | [_, _], _ => rfl,
    fd_law_great := fd43,
    F_law_great := F43,
    k_law_great := FunD.bindsN F43 fun _ _ _ _ _ _ us hl => match us, hl with | [_, _], _ => rfl,
    fd_law_row := fd44,
    F_law_row := F44,
    k_law_row := FunD.bindsN F44 fun _ _ _ _ _ _ us hl => match us, hl with | [_, _, _], _ => rfl,
    fd_law_by_number := fd45,
    F_law_by_number := F45,
    k_law_by_number := FunD.bindsN F45 fun _ _ _ _ _ _ us hl => match us, hl with | [_], _ => rfl,
    fd_law_web := fd46,
    F_law_web := F46,
    k_law_web := FunD.bindsN F46 fun _ _ _ _ _ _ us hl => match us, hl with | [_, _], _ => rfl,
    fd_law_beside := fd47,
    F_law_beside := F47,
    k_law_beside := FunD.bindsN F47 fun _ _ _ _ _ _ us hl => match us, hl with | [_, _, _], _ => rfl,
    fd_law_turns := fd48,
    F_law_turns := F48,
    k_law_turns := FunD.bindsN F48 fun _ _ _ _ _ _ us hl => match us, hl with | [_, _], _ => rfl,
    fd_law_reach := fd49,
    F_law_reach := F49,
    k_law_reach := FunD.bindsN F49 fun _ _ _ _ _ _ us hl => match us, hl with | [_, _, _, _, _], _ => rfl,
    fd_law_whole := fd50,
    F_law_whole := F50,
    k_law_whole := FunD.bindsN F50 fun _ _ _ _ _ _ us hl => match us, hl with | [_], _ => rfl,
    fd_law_way := fd51,
    F_law_way := F51,
    k_law_way := FunD.bindsN F51 fun _ _ _ _ _ _ us hl => match us, hl with | [_, _, _, _, _], _ => rfl,
    fd_law_in_order := fd52,
    F_law_in_order := F52,
    k_law_in_order := FunD.bindsN F52 fun _ _ _ _ _ _ us hl => match us, hl with | [_, _, _], _ => rfl,
    fd_law_right := fd53,
    F_law_right := F53,
    k_law_right := FunD.bindsN F53 fun _ _ _ _ _ _ us hl => match us, hl with | [_, _, _, _, _], _ => rfl,
    fd_law_told := fd54,
    F_law_told := F54,
    k_law_told := FunD.bindsN F54 fun _ _ _ _ _ _ us hl => match us, hl with | [_], _ => rfl,
    fd_law_kept := fd55,
    F_law_kept := F55,
    k_law_kept := FunD.bindsN F55 fun _ _ _ _ _ _ us hl => match us, hl with | [], _ => rfl,
    fd_law := fd56,
    F_law := F56,
    k_law := FunD.bindsN F56 fun _ _ _ _ _ _ us hl => match us, hl with | [_], _ => rfl }
  have e : He.ga K "law" = f := by
    have z := T.g_law.symm.trans hfa
    exact Value.ref.inj (Option.some.inj z)
  subst e
  have b := FunD.bindsA (ps := ["_law_script"]) F56 fun _ _ _ _ _ _ us hl => match us, hl with | [_], _ => rfl
  exact ⟨T.fd_law, fun s v => b s [v] rfl, fun base _ _ tbl => ok_law T ⟨tbl, cd⟩ xk⟩
end K20
open PySem PySem.W PySem.Calls PyProof.Rows
set_option maxRecDepth 100000 in
set_option maxHeartbeats 0 in
theorem PySem.Challenge.cw_reachbook_k20_least_way_holds : PySem.Challenge.rw_reachbook_k20_least_way.Holds := by
  w_on; o_law
  refine HandSHeadRun.head_any (r := OpenLaw.row PySem.Challenge.rw_reachbook_k20_least_way) (q := view (OpenLaw.row PySem.Challenge.rw_reachbook_k20_least_way).prog [71]) (H := K20.hk) (ob := K20.ob) (M := 9000) (loose := K20.loose) (d := HandSHeadRun.topDef (OpenLaw.row PySem.Challenge.rw_reachbook_k20_least_way).prog 71) (kwd := []) K20.ob_eq
    (by kernel_rfl) (fun s => by kernel_rfl) K20.run (by kernel_rfl) (by kernel_rfl) (by kernel_rfl) (by rfl) (by first | assumption | decide +kernel) (by decide +kernel) ⟨rfl, rfl, rfl, rfl, rfl, by decide +kernel⟩ ?hw ?hc
  case hw => w_witness2
  case hc =>
    refine LamX.walk_ofTsE (l := PySem.Challenge.rw_reachbook_k20_least_way) (n := 63) (k := 12) (x := "_law_script") (CX := fun _ => C8.CX0) rfl (by decide) (by kernel_rfl) ⟨rfl, by decide, by decide⟩ ?F (fun _ _ _ _ _ z => z)
    intro w mg fa h Y G hmg0
    obtain ⟨K, KX, c, tb⟩ := Y
    have hmg : mg ("law" : PySem.Str) = some (.ref fa) := by
      have e : (HandSHeadRun.topDef (OpenLaw.row PySem.Challenge.rw_reachbook_k20_least_way).prog 71).name = ("law" : PySem.Str) := by kernel_rfl
      rw [← e]
      exact hmg0
    obtain ⟨t1, t2⟩ := tb "_least_came" (List.mem_singleton.mpr rfl)
    obtain ⟨fd, hb, hF⟩ := K20.facts (P := (PySem.Challenge.rw_reachbook_k20_least_way).prog) (w := w) KX G hmg c t1
    refine ⟨K, KX, fd, [(AnyL.cdV K (He.ga K "_least_came"), AnyL.tbV K (He.ga K "_least_came"))], _, fun p hp => ?_, fun p hp => ?_, fun p hp => ?_, hb, fun H a ns hl hO hT hS => ?_, fun base kb nb tbs => LamK.fn_retabC (q := "_least_came.<locals>.<lambda>") (T := AnyL.tbV K (He.ga K "_least_came")) (hF base kb nb ⟨(tbs _ (List.mem_singleton.mpr rfl)).code, (tbs _ (List.mem_singleton.mpr rfl)).bm, (tbs _ (List.mem_singleton.mpr rfl)).gP⟩)⟩
    · rw [List.mem_singleton.mp hp]; exact t2
    · rw [List.mem_singleton.mp hp]; exact t1.out
    · rw [List.mem_singleton.mp hp]; exact t1.hd h KX
    · have hT := hT _ (List.mem_singleton.mpr rfl)
      exact ⟨hT, a, ns, rfl, AnyL.sqL_retab t1.out hT hS, hl, ⟨[], L2.upd_same, by simp⟩, fun H' hH => ⟨hH, fun _ => rfl⟩⟩
#print axioms PySem.Challenge.cw_reachbook_k20_least_way_holds
