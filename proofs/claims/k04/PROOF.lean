import PyProof.Rows.All
import Wide.All
import OpenK.AllK
import Wide.FinOn
import KE.KSuper
import KE.KSuperObj
import HandS.ForMost
import HandS.ExcSuper
import HandS.ExcInit
import HandS.Nested
import HandS.Steps
import HandS.Walk
import HandS.IsInst
import HandS.Codes
import HandS.Defaults
import HandS.Head0
import HandS.Head1
import HandS.Head2
import HandS.HeadEnd
import HandS.HeadHook1
import HandS.HeadHook2
import HandS.RevTup
import HandS.MapObj
import HandS.Replace
import HandS.DictComp
import HandS.Style
import HandS.SetFor
import HandS.Strs
import HandS.More
import HandS.Flow
import KE.KRevSl
import HandS.ForExc
import HandS.CallSlots
import HandS.ExcIs
import HandS.ExcField
import HandS.FStr
import HandS.SetKeys
import HandS.Zip
import PySem.Challenge.RW_reachbook_k04_lines_there_and_back
set_option Elab.async false
open PySem
namespace EVX
open PySem.ESX (slot_wd entry_wd args_wd)

def bw (x : Addr) : Obj := { cls := Value.type "method-wrapper", data := Data.fields #[Value.builtin "ValueError.__init__", Value.ref x] }

theorem type_vi : typeOf (Value.builtin "ValueError.__init__") = pure (Value.type "wrapper_descriptor") := by
  show builtinType "ValueError.__init__" = _
  rw [builtinType_eq_fast]; rfl

theorem run_wd {M : Model} {A : Around} {E : Value → Shared → Prop} {h : Heap} {g : Array GenState} {d : Drawn} {t : Nat} {os : OsState} {x C : Addr} {P : PySem.Fin → Shared → Prop}
    (hin : W.Looks M h (isInstance (Value.ref x) (Value.type "ValueError")) true)
    (hq : P (PySem.Fin.done (Flow.ret (Value.ref h.objs.size))) { heap := h.push (bw x), gens := g, drawn := d, toks := t, os := os }) :
    wpAny M A (Builtin.«wrapper_descriptor.__get__» { pos := [Value.builtin "ValueError.__init__", Value.ref x, Value.ref C] }) P E { heap := h, gens := g, drawn := d, toks := t, os := os } := by
  refine wpAny_bind ?_
  apply wpAny_of_eq
  · rfl
  refine wpAny_bind ?_
  refine wpAny_bind ?_
  refine wpAny_of_eq (a := (Str.ofString "__init__", Value.type "ValueError")) ?_ ?_
  · rfl
  refine wpAny_bind (W.Looks.at hin (W.KFB.if_not rfl (wpAny_pure (wpAny_bind (wpAny_newObj_type (wpAny_pure hq) ?_)))))
  simp only [sizeOk, List.size_toArray, sizeLine_eq]; show 2 ≤ _; omega

theorem super_ga {prog : Program} {w : World} {A : Around} {E : Value → Shared → Prop} {h : Heap} {g : Array GenState} {d : Drawn} {t : Nat} {os : OsState} {so D x C : Addr} {l₀ l : List Value} {K : W.Frag} {name : Str} {tk : Tok} {Q : PySem.Fin → Shared → Prop}
    (hso : h.get? so = some { cls := Value.type "super", data := Data.fields #[Value.ref D, Value.ref x, Value.ref C] })
    (hno : W.Looks (model prog w) h (opaqueClassAbove (Value.ref C)) none)
    (hC : W.Looks (model prog w) h (mroOf (Value.ref C)) l₀)
    (hl : List.drop 1 (List.dropWhile (fun x => x != Value.ref D) l₀) = l)
    (X : K.In h) (hf : W.alongIn K name l = some (some (Value.builtin "ValueError.__init__"))) (hxC : x ≠ C)
    (hne : (name == Str.ofString "__class__") = false)
    (hin : W.Looks (model prog w) h (isInstance (Value.ref x) (Value.type "ValueError")) true)
    (hq : Q (PySem.Fin.done (Flow.ret (Value.ref h.objs.size))) { heap := h.push (bw x), gens := g, drawn := d, toks := t, os := os }) :
    wpAny (model prog w) A (Builtin.«super.__getattribute__» { pos := [Value.ref so, Value.str name tk] }) Q E { heap := h, gens := g, drawn := d, toks := t, os := os } := by
  have f0 : (#[Value.ref D, Value.ref x, Value.ref C] : Array Value)[0]? = some (Value.ref D) := rfl
  have f1 : (#[Value.ref D, Value.ref x, Value.ref C] : Array Value)[1]? = some (Value.ref x) := rfl
  have f2 : (#[Value.ref D, Value.ref x, Value.ref C] : Array Value)[2]? = some (Value.ref C) := rfl
  unfold Builtin.«super.__getattribute__»
  simp only []
  refine wpAny_bind (wpAny_of_eq (a := some name) rfl ?_)
  refine W.KFB.if_not rfl ?_
  refine wpAny_bind (wpAny_of_eq (a := some name) rfl ?_)
  simp only []
  refine wpAny_bind (wpAny_field hso rfl f0 ?_)
  refine wpAny_bind (wpAny_field hso rfl f1 ?_)
  refine wpAny_bind (wpAny_field hso rfl f2 ?_)
  refine W.KFB.if_not (by rw [hne]; rfl) ?_
  refine wpAny_bind (ks_wpAny_notOpaque hno ?_)
  refine W.KFB.if_not rfl ?_
  refine wpAny_bind (W.Looks.at hC ?_)
  refine wpAny_bind ?_
  rw [hl]
  refine ks_forIn_along X (fun c r => rfl) rfl ?_ hf
  simp only []
  refine wpAny_bind (wpAny_of_eq type_vi ?_)
  refine wpAny_bind (wpAny_of_eq slot_wd.lookup ?_)
  simp only []
  have hxc : (Value.ref x == Value.ref C) = false := by simp [hxC]
  refine wpAny_bind (wpAny_holding ?_)
  rw [hxc]
  refine wpAny_call_entry slot_wd (show Shared.TypeIs _ _ _ from ?_) entry_wd ?_ (args_wd _ _ _)
  · exact type_vi
  · refine run_wd hin ?_
    exact ⟨_, rfl, wpAny_bind (wpAny_pure (wpAny_pure (wpAny_pure hq)))⟩

theorem getMethod_super {prog : Program} {w : World} {A : Around} {E : Value → Shared → Prop} {h : Heap} {g : Array GenState} {d : Drawn} {t : Nat} {os : OsState} {so D x C : Addr} {l₀ l : List Value} {K : W.Frag} {name : Str} {pl : Sem Bool} {Q : Value × List Value → Shared → Prop}
    (hso : h.get? so = some { cls := Value.type "super", data := Data.fields #[Value.ref D, Value.ref x, Value.ref C] })
    (hno : W.Looks (model prog w) h (opaqueClassAbove (Value.ref C)) none)
    (hC : W.Looks (model prog w) h (mroOf (Value.ref C)) l₀)
    (hl : List.drop 1 (List.dropWhile (fun x => x != Value.ref D) l₀) = l)
    (X : K.In h) (hf : W.alongIn K name l = some (some (Value.builtin "ValueError.__init__"))) (hxC : x ≠ C)
    (hne : (name == Str.ofString "__class__") = false)
    (hin : W.Looks (model prog w) h (isInstance (Value.ref x) (Value.type "ValueError")) true)
    (hq : Q (Value.ref h.objs.size, []) { heap := h.push (bw x), gens := g, drawn := d, toks := t + 1, os := os }) :
    wpAny (model prog w) A (getMethod (Value.ref so) name pl) Q E { heap := h, gens := g, drawn := d, toks := t, os := os } := by
  have hT : ∀ tk, Shared.TypeIs { heap := h, gens := g, drawn := d, toks := tk, os := os } (Value.ref so) "super" := fun _ => ⟨_, hso, rfl⟩
  unfold getMethod
  refine wpAny_bind (wpAny_specialOf (hT t) F.ks_slot_super_ga.lookup ?_)
  simp only []
  rw [if_pos F.ks_canon_super_ga]
  refine wpAny_bind ?_
  unfold getAttr
  refine wpAny_bind (wpAny_mkText ?_)
  unfold getAttrBy
  refine wpAny_holding ?_
  refine wpAny_bind (wpAny_typeOf (hT (t + 1)) ?_)
  refine wpAny_bind (wpAny_of_eq F.ks_slot_super_ga.lookup ?_)
  simp only []
  refine W.KFB.if_not rfl ?_
  unfold getAttrByItsOwn
  refine wpAny_bind (wpAny_of_eq (a := none) rfl ?_)
  refine wpAny_bind (wpAny_attempt ?_)
  refine wpAny_holding ?_
  unfold callGetattribute
  refine W.KFB.if_not rfl ?_
  unfold boundAndCalled
  refine wpAny_bind (wpAny_of_eq (F.ks_slot_super_ga.bind _) ?_)
  simp only []
  refine wpAny_mono (Q := fun r s' => r = Value.ref h.objs.size ∧ s' = { heap := h.push (bw x), gens := g, drawn := d, toks := t + 1, os := os }) (E := fun _ _ => False) (wpAny_call_entry F.ks_slot_super_ga (hT (t + 1)) F.ks_entry_super_ga (super_ga hso hno hC hl X hf hxC hne hin ⟨_, rfl, rfl, rfl⟩) (F.ks_gaArgs_super _ _)) ?_ (fun _ _ z => z.elim)
  rintro r s' ⟨rfl, rfl⟩
  exact wpAny_pure (wpAny_pure hq)

theorem call_bw {prog : Program} {w : World} {A : Around} {E : Value → Shared → Prop} {h : Heap} {g : Array GenState} {d : Drawn} {t : Nat} {os : OsState} {nm q : Str} {C N : Addr} {bs bm : List Value} {hdct : Bool} {sn : List Str} {sub : List Value} {ab : Bool} {col : Option Bool} {dd : Option Addr} {k0 k1 k2 k3 k5 : Option Value} {u e t0 : Addr} {rest : List Value} {Q : Value → Shared → Prop}
    (hC : h.get? C = some (excClassObj nm q C N bs bm hdct sn sub ab col dd k0 k1 k2 k3 k5 "ValueError.__new__"))
    (he : h.get? e = some (HandSPX.excO C t0)) (hu : h.get? u = some (bw e)) (hr : rest.length ≤ sizeLine)
    (hq : ∀ (h' : Heap) (t1 : Addr), (∀ (b : Addr) (o : Obj), b ≠ e → h.get? b = some o → h'.get? b = some o) → h'.get? e = some (HandSPX.excO C t1) →
      Q Value.none { heap := h', gens := g, drawn := d, toks := t, os := os }) :
    wpAny (model prog w) A (call (Value.ref u) rest) Q E { heap := h, gens := g, drawn := d, toks := t, os := os } := by
  have F := F.excBase_ValueError
  refine wpAny_call (codeAny_of_tree ?_)
  show wpAny (model prog w) _ (callAny (Value.ref u) { pos := rest }) _ _ _
  unfold callAny
  simp only []
  refine wpAny_bind (wpAny_load hu ?_)
  unfold bw
  simp only []
  refine W.KFB.if_so rfl ?_
  have e0 : (#[Value.builtin "ValueError.__init__", Value.ref e] : Array Value)[0]? = some (Value.builtin "ValueError.__init__") := rfl
  have e1 : (#[Value.builtin "ValueError.__init__", Value.ref e] : Array Value)[1]? = some (Value.ref e) := rfl
  rw [e0, e1]
  simp only []
  refine W.KFB.if_so rfl ?_
  refine wpAny_bind (ESX.check_bound F hC he rfl ?_)
  refine wpAny_pure ⟨Code.quiet_builtin _ (by decide +kernel), ?_⟩
  refine codeAny_builtin F.initEntry ?_
  unfold Builtin.«BaseException.__init__»
  simp only []
  refine W.KFB.if_not rfl ?_
  refine wpAny_bind (wpAny_newTuple ?_ hr)
  have he' : (h.push { cls := Value.type "tuple", data := Data.seq rest.toArray }).get? e = some (HandSPX.excO C t0) := Heap.get?_push_of_some _ he
  refine wpAny_bind ?_
  unfold Builtin.BaseException.bexcPut
  refine wpAny_bind (wpAny_field he' rfl rfl ?_)
  refine wpAny_bind (wpAny_setField he' rfl (by show 0 < 6; omega) ?_)
  refine wpAny_letGo ?_
  refine wpAny_pure ?_
  refine hq _ h.objs.size ?_ ?_
  · intro b o hb ho
    exact (Heap.get?_update_other _ _ (Ne.symm hb)).trans (Heap.get?_push_of_some _ ho)
  · exact (Heap.get?_update_self _ he' rfl).trans rfl

theorem callWith_bw {M : Model} {A : Around} {E : Value → Shared → Prop} {s : Shared} {pos : Pos} {u x : Addr} {first : List Value} {args : List (Bool × Sem Value)} {Q : Value → Shared → Prop}
    (hplain : (args.any fun x => x.fst) = false)
    (h : wpAny M A (evalArgs (Value.ref u) true args []) (fun a s₁ => s₁.heap.get? u = some (bw x) ∧ wpAny M A (call (Value.ref u) (first ++ a.pos) a.kw) Q E s₁) E s) :
    wpAny M A (callWith pos (Value.ref u) first args []) Q E s := by
  unfold callWith
  refine wpAny_bind (wpAny_holding (wpAny_mono h ?_ (fun _ _ z => z)))
  rintro a s1 ⟨ho, hcall⟩
  refine wpAny_bind (wpAny_standAt ?_)
  simp only [hplain, List.any_nil, Bool.or_false]
  refine wpAny_bind ?_
  unfold keeperOf
  simp only []
  refine wpAny_bind (wpAny_load ho ?_)
  refine W.KFB.if_so rfl (wpAny_pure ?_)
  refine wpAny_bind (wpAny_mono hcall ?_ (fun _ _ z => z))
  intro r s2 hr
  exact wpAny_bind (wpAny_holding (wpAny_point (wpAny_pure hr)))

theorem callWith_bound {M : Model} {A : Around} {E : Value → Shared → Prop} {s : Shared} {pos : Pos} {u x : Addr} {first : List Value} {env : Env} {e : PySem.Expr} {rest : List PySem.Expr} {Q : Value → Shared → Prop}
    (h : wpAny M A (spliced (backTo pos (starEach (e :: rest) env))) (fun vs s₁ => s₁.heap.get? u = some (bw x) ∧ wpAny M A (call (Value.ref u) (first ++ vs)) Q E s₁) E s)
    (h1 : starEach (e :: rest) env = (false, eval e env) :: starEach rest env) (h2 : ((backTo pos (starEach rest env)).any fun x => x.fst) = false) :
    wpAny M A (callWith pos (Value.ref u) first (backTo pos (starEach (e :: rest) env)) []) Q E s := by
  rw [h1] at h ⊢
  refine callWith_bw ?_ (Calls.evalArgs_plain h)
  show (false || _) = false
  exact (Bool.false_or _).trans h2

open L2 NdefX

theorem looks_inst {M : Model} {h : Heap} {a C : Addr} {o : Obj} {K : W.Frag} {b : Value} {r : Bool} (X : K.In h) (ho : h.get? a = some o) (hc : o.cls = Value.ref C) (hs : W.subIn K (Value.ref C) b = some r) :
    W.Looks M h (isInstance (Value.ref a) b) r := by
  intro A Q E s hk hq
  obtain ⟨h', g, d, t, os⟩ := s
  unfold isInstance typeOf
  refine wpAny_bind (wpAny_bind (wpAny_loadPart_at (hk a o ho) (wpAny_pure ?_)))
  rw [hc]
  exact W.looks_subIn X hs A Q E _ hk hq

theorem looks_mro {M : Model} {h : Heap} {C : Addr} {K : W.Frag} {cd : ClassData} (X : K.In h) (hc : W.clsIn K C = some cd) :
    W.Looks M h (mroOf (Value.ref C)) cd.mro := by
  intro A Q E s hk hq
  unfold mroOf
  exact wpAny_bind (W.looks_clsIn X hc A _ E _ hk (wpAny_pure hq))

def sp_ini (fld : Str) (D : Addr) : Sp := fun vs H Q _ => ∃ (a : Addr) (v : V), vs = [.ref a, v] ∧ H a = some (exo a D none) ∧
  ∀ dx, H dx = none → dx ≠ a → Q .non (upd (upd H dx (exd dx [(fld, v)])) a (exo a D (some dx)))

def iniBody (fld msg : Str) (p0 p1 p2 p3 p4 p5 q0 q1 q2 q3 : Pos) (j : Nat) : List Stmt :=
  [.Expr (.Call (.Attribute (.Call (.Name "super" p0) [] [] p1) "__init__" p2) [.Constant (.str msg) j p3] [] p4) p5,
   .Assign [.Attribute (.Name "self" q0) fld q1] (.Name fld q2) q3]

theorem init_of {CX : CXT} {P : Program} {w : World} {K : W.Frag} {mg : Str → Option Value} {base : Heap} {k : Nat} {f cc cda D : Addr}
    {qual fld msg : Str} {params : Arguments} {scope : Scope} {dV kV doc pm ct oc ccl cl : Value} {an od cdd cld : Option Addr} {osl ccs csl : Array (Option Value)}
    {p0 p1 p2 p3 p4 p5 q0 q1 q2 q3 : Pos} {j : Nat} {cvs : Array Value} {file : Str} {tf : Tok} {ar : Arg}
    (lk : K.lookup f = some ⟨oc, od, .func (W.ksFn "__init__" qual params (iniBody fld msg p0 p1 p2 p3 p4 p5 q0 q1 q2 q3 j) scope dV kV doc pm an (.ref cda) ct cc), osl⟩)
    (hcd : W.codeIn K (.ref cda) qual = true)
    (hcda : K.lookup cda = some ⟨ccl, cdd, .fields cvs, ccs⟩) (hv2 : cvs[2]? = some (.str file tf)) (hfile : (P.main.file == file) = true)
    (hsup : (P.main.scope.names.lookup (Str.ofString "super")).isSome = false)
    (hcc : K.lookup cc = some ⟨cl, cld, .cell (some (.ref D)), csl⟩)
    (hdb : (fld == Str.ofString "__debug__") = false) (hpos : (p2.endLine == p4.line) = true) (hpar : (params.posonlyargs ++ params.args).head? = some ar) (har : ar.arg = Str.ofString "self")
    (hsc : NScope ["self", fld, "__class__"] ["self", fld] ["__class__"] scope)
    (hsuper : scope.names.lookup (Str.ofString "super") = some .globalImplicit)
    (hmg : mg (Str.ofString "super") = none)
    (T : OexC K D) (hfld : W.findIn K (.ref D) fld = some none)
    (hal : W.ks_superIn K D D (Str.ofString "__init__") = some (some (Value.builtin "ValueError.__init__")))
    (hno : W.nsIn K cStatics (Str.ofString "thirdparty.any") = some none)
    (hve : W.subIn K (.ref D) (.type "ValueError") = some true) (hself : W.mroIn K D (.ref D) = some true) :
    FnOk P w K mg base CX (k + 1) f (W.ksFn "__init__" qual params (iniBody fld msg p0 p1 p2 p3 p4 p5 q0 q1 q2 q3 j) scope dV kV doc pm an (.ref cda) ct cc) ["self", fld] (sp_ini fld D) := by
  refine ⟨?_, ?_⟩
  · rintro vs H Q E ⟨a, v, rfl, _⟩; rfl
  intro A outer s H args us vs Q E hr E0 hb hv hsp
  obtain ⟨a, v, rfl, ha, hq⟩ := hsp
  obtain ⟨u0, u1, rfl, hu0, hu1⟩ := vals2 hv
  cases hu0
  have X0 : K.In s.heap := E0.mod.kin.keeps fun b o h => (E0.bs b o h).1
  have atK : ∀ {b : Addr} {o : Obj}, K.lookup b = some o → s.heap.get? b = some o ∧ H b = none := fun h => E0.bs _ _ (E0.mod.kin _ _ h)
  refine ks_codeAny_call_defAt hr.depth (X0 _ _ lk) rfl (E0.mod.nolimit.keeps fun b o h => (E0.bs b o h).1) (W.codeRec_of X0 hcd) rfl hb hsc.nocell ?_ ?_ hsc.co hsc.gen hsc.kind
  · intro x hx
    have hx' : x ∈ ([("self", Value.ref a), (fld, u1)] : List (Str × Value)) := hx
    refine hsc.par _ ?_
    rcases List.mem_cons.mp hx' with rfl | hx'
    · exact List.mem_cons_self ..
    · rcases List.mem_singleton.mp hx' with rfl
      exact List.mem_cons_of_mem _ (List.mem_cons_self ..)
  intro h0 hNs hkeep
  have hcl : ∀ {y : Str} {c : Addr}, List.lookup y [(("__class__" : Str), cc)] = some c → y = "__class__" ∧ c = cc := by
    intro y c h
    by_cases e : y = "__class__"
    · subst e; simp at h; exact ⟨rfl, h.symm⟩
    · have : (y == ("__class__" : Str)) = false := by simpa using e
      simp [List.lookup, this] at h
  have hcell : Heap.IsCell s.heap cc (some (.ref D)) := ⟨_, (atK hcc).1, rfl⟩
  have I0 : L2.Inv (ncx CX P w K mg base ["self", fld, "__class__"] ⟨"__init__", qual, params, iniBody fld msg p0 p1 p2 p3 p4 p5 q0 q1 q2 q3 j, scope, [("__class__", cc)], cda⟩ f A outer s H E) []
      (startF ["self", fld, "__class__"] [.ref a, v] [some (.ref D)]) H ⟨h0, s.gens, s.drawn, s.toks + 2, s.os⟩ := by
    refine inv_startN hsc hr.hd E0 rfl hv ⟨rfl, ?_, ?_, ?_⟩ hNs hkeep
    · intro y c h
      obtain ⟨rfl, rfl⟩ := hcl h
      exact ⟨(atK hcc).2, _, hcell⟩
    · intro x y c h1 h2
      exact (hcl h1).1.trans (hcl h2).1.symm
    · intro i y hy
      match i, hy with
      | 0, hy =>
        cases hy
        refine ⟨cc, by simp [List.lookup], fun v h => ?_⟩
        cases h
        exact ⟨_, rfl, hcell⟩
  show wpAt (model P w) (A.deeper (W.ksEnv qual scope s.heap.objs.size f (.ref cda) cc)) (Code.func _ (W.ksEnv qual scope s.heap.objs.size f (.ref cda) cc)) (execs (iniBody fld msg p0 p1 p2 p3 p4 p5 q0 q1 q2 q3 j) (W.ksEnv qual scope s.heap.objs.size f (.ref cda) cc)) _ _ _
  have X1 : K.In h0 := X0.keeps hkeep
  have kc : Env.kindOf (W.ksEnv qual scope s.heap.objs.size f (.ref cda) cc) "__class__" = some .free := hsc.frk _ (List.mem_cons_self ..)
  have ks : Env.kindOf (W.ksEnv qual scope s.heap.objs.size f (.ref cda) cc) "self" = some .local := hsc.par _ (List.mem_cons_self ..)
  have kf : Env.kindOf (W.ksEnv qual scope s.heap.objs.size f (.ref cda) cc) fld = some .local := hsc.par _ (List.mem_cons_of_mem _ (List.mem_cons_self ..))
  have ku : Env.kindOf (W.ksEnv qual scope s.heap.objs.size f (.ref cda) cc) "super" = some .globalImplicit := hsuper
  have aH : s.heap.objs.size ≠ a := by
    intro e
    have := I0.free
    rw [show (ncx CX P w K mg base ["self", fld, "__class__"] ⟨"__init__", qual, params, iniBody fld msg p0 p1 p2 p3 p4 p5 q0 q1 q2 q3 j, scope, [("__class__", cc)], cda⟩ f A outer s H E).env.locals = s.heap.objs.size from rfl, e, ha] at this
    cases this
  obtain ⟨t1, hat⟩ := exo_at I0.hok ha
  obtain ⟨nm, q, N, bs, bm, sn, sub, ab, col, dd, k0, k1, k2, k3, k5, hD, hbm⟩ := T.cls
  have aD : a ≠ D := by
    intro e
    have := (atK hD).2
    rw [← e, ha] at this
    cases this
  cases hcd2 : W.clsIn K D with
  | none => rw [W.ks_superIn, hcd2] at hal; cases hal
  | some cd =>
  have hal' : W.alongIn K (Str.ofString "__init__") (List.drop 1 (List.dropWhile (fun x => x != Value.ref D) cd.mro)) = some (some (Value.builtin "ValueError.__init__")) := by
    rw [W.ks_superIn, hcd2] at hal; exact hal
  obtain ⟨mb, hmb, hbb⟩ := E0.mod.blt
  have kb : ∀ {b : Addr} {o : Obj}, base.get? b = some o → h0.get? b = some o := fun h => hkeep _ _ (E0.bs _ _ h).1
  have hX : ∀ {s' : Shared} {H' : Hp}, L2.Inv (ncx CX P w K mg base ["self", fld, "__class__"] ⟨"__init__", qual, params, iniBody fld msg p0 p1 p2 p3 p4 p5 q0 q1 q2 q3 j, scope, [("__class__", cc)], cda⟩ f A outer s H E) []
      (startF ["self", fld, "__class__"] [.ref a, v] [some (.ref D)]) H' s' → Q .non H' → CR CX outer P w H s Q E (Except.ok (Flow.ret Value.none)) s' := fun I q =>
    ⟨.non, _, I.os, I.bare, I.base, I.hok, rfl, q⟩
  have hld : ∀ {s' : Shared} {H' : Hp} {i : Nat} {x : Str} {y : V} {Z : Value → Shared → Prop} {EE : Value → Shared → Prop}, L2.Inv (ncx CX P w K mg base ["self", fld, "__class__"] ⟨"__init__", qual, params, iniBody fld msg p0 p1 p2 p3 p4 p5 q0 q1 q2 q3 j, scope, [("__class__", cc)], cda⟩ f A outer s H E) []
      (startF ["self", fld, "__class__"] [.ref a, v] [some (.ref D)]) H' s' → ([("self" : Str), fld, "__class__"])[i]? = some x → (startF ["self", fld, "__class__"] [.ref a, v] [some (.ref D)])[i]? = some (some y) →
      Env.kindOf (W.ksEnv qual scope s.heap.objs.size f (.ref cda) cc) x = some .local → (∀ u, RelV y u → Z u s') →
      wpAny (model P w) (A.deeper (W.ksEnv qual scope s.heap.objs.size f (.ref cda) cc)) (loadName (W.ksEnv qual scope s.heap.objs.size f (.ref cda) cc) x) Z EE s' := by
    intro s' H' i x y Z EE I h1 h2 hk hz
    obtain ⟨m, hm, hl⟩ := I.loc
    obtain ⟨u, hu, hlk⟩ := hl i x y h1 h2 (.inl hk)
    rcases hlk with ⟨_, hmx⟩ | ⟨hn, _⟩
    · exact wpAny_loadName_local hsc.kind hk hm hmx (hz u hu)
    · exfalso
      have hn' : Env.kindOf (W.ksEnv qual scope s.heap.objs.size f (.ref cda) cc) x = some .cell ∨ Env.kindOf (W.ksEnv qual scope s.heap.objs.size f (.ref cda) cc) x = some .free := hn
      rw [hk] at hn'
      rcases hn' with h | h <;> cases h
  have hp : ∀ (few : Bool) (o : PySem.Expr) (env : Env), methodCallPos few o env p2 p4 = pure p4 := by
    intro few o env
    unfold methodCallPos
    rw [hpos, Bool.or_true]; rfl
  unfold iniBody
  have hi : interactive (W.ksEnv qual scope s.heap.objs.size f (.ref cda) cc) = false := by
    unfold interactive
    rw [show (W.ksEnv qual scope s.heap.objs.size f (.ref cda) cc).scope.kind = _ from hsc.kind]; rfl
  refine ks_wpAt_execs_cons (ks_wpAt_Expr_any (ks_wpAt_MethodCall (pl := do let d ← importBound (.Call (.Name "super" p0) [] [] p1) (W.ksEnv qual scope s.heap.objs.size f (.ref cda) cc); pure (d.getD true)) ?_ ?_) hi)
  · refine ks_wpAt_super_base ku kc rfl rfl (X1 _ _ lk) rfl hpar rfl (X1 _ _ hcda) rfl hv2 hfile hsup ?_
    refine W.ks_loadName_global hsc.kind ku (Calls.loadGlobal_builtin (E0.mod.glob.keeps fun _ _ h => kb h) hmg (hmb.keeps fun _ _ h => kb h) ((hbb _ (by decide +kernel)).trans PyProof.Rows.Boot.super) ?_)
    refine ⟨rfl, ?_⟩
    refine wpAny_loadName_free (c := cc) hsc.kind kc (by simp [List.lookup]) ⟨_, X1 _ _ hcc, rfl⟩ ?_ rfl
    rw [har]
    refine hld I0 (i := 0) rfl rfl ks fun u hu => ?_
    cases hu
    refine ks_wpAny_isType_cls (X1 _ _ hD) rfl ⟨rfl, ?_⟩
    refine ks_wpAny_call_super (X1 _ _ hD) rfl hat rfl (by intro c h; cases h) (W.looks_mroIn X1 hself) ?_
    intro h2 hso hk2
    have X2 : K.In h2 := X1.keeps hk2
    refine getMethod_super hso (W.looks_opaque X2 hno) (looks_mro X2 hcd2) rfl X2 hal' aD rfl (looks_inst X2 (hk2 _ _ hat) rfl hve) ?_
    refine callWith_bound (x := a) ?_ rfl rfl
    refine wpAny_bind (wpAny_Constant_str (k := j) (pos := p3) ?_)
    refine W.KFB.if_not rfl ?_
    refine wpAny_bind (wpAny_pure ?_)
    refine wpAny_bind (wpAny_holding (wpAny_pure ?_))
    refine wpAny_pure ⟨Heap.get?_push_at rfl rfl, ?_⟩
    have hk3 : ∀ (b : Addr) (o : Obj), h0.get? b = some o → (h2.push (bw a)).get? b = some o := fun b o h => Heap.get?_push_of_some _ (hk2 _ _ h)
    refine call_bw (hk3 _ _ (X1 _ _ hD)) (hk3 _ _ hat) (Heap.get?_push_at rfl rfl) (by show 1 ≤ sizeLine; rw [sizeLine_eq]; omega) ?_
    intro h' t2 hk4 hat4
    have I2 := (I0.kept (t' := 0) hk3).write (x := a) (e := a) (o := exo a D none) (t' := s.toks + 2 + 1 + 1) (by rw [ha]; trivial) (.inl rfl) hk4 ⟨_, hat4⟩ (exo_ok hat4)
    have eH : upd H a (exo a D none) = H := by
      funext b
      unfold upd
      split
      · next e => rw [e, ha]
      · rfl
    rw [eH] at I2
    refine ks_wpAt_execs_cons (ks_wpAt_Assign_Attr (wpAt_of_wpAny (wpAny_bind (wpAny_standAt (W.KFB.if_not hdb (hld I2 (i := 1) rfl rfl kf fun u hu => wpAny_bind (wpAny_standAt (W.KFB.if_not rfl (hld I2 (i := 0) rfl rfl ks fun u' hu' => ?_)))))))))
    cases hu'
    refine ost_new T I2 ha hfld hu fun dx s' h1 h2 I' => ?_
    exact wpAt_of_wpAny (wpAny_pure (hX I' (hq dx h1 h2)))
  · show (do
      let ov ← attributeBase (.Call (.Name "super" p0) [] [] p1) "__init__" (W.ksEnv qual scope s.heap.objs.size f (.ref cda) cc) (eval (.Call (.Name "super" p0) [] [] p1) (W.ksEnv qual scope s.heap.objs.size f (.ref cda) cc))
      standAt p2.atName
      methodCall (.Call (.Name "super" p0) [] [] p1) "__init__" p2 p4 (W.ksEnv qual scope s.heap.objs.size f (.ref cda) cc) ov 1 _ _) = _
    simp only [methodCall, hp]
    rfl
end EVX

set_option Elab.async false
set_option linter.all false
set_option maxRecDepth 100000
set_option maxHeartbeats 2000000
/-! HX: rules with named readings, and the steps of a reading, backwards. -/
namespace HX
open PySem PySem.Spec PyProof.Rows L2
/-! ### named readings -/
def xCatS : R2 := fun x y H Q => ∃ i j, x = .str i ∧ y = .str j ∧ i.length + j.length ≤ sizeLine ∧ Q (.str (i ++ j)) H
def xLenS : List V → Hp → VK → Prop := fun xs H Q => ∃ z, xs = [.str z] ∧ z.length ≤ sizeLine ∧ Q (.int z.length) H
def xLenL (K : PySem.W.Frag) : List V → Hp → VK → Prop := fun xs H Q => ∃ p ys, xs = [.ref p] ∧ (SqL K H p ys ∨ SqT K H p ys) ∧ Q (.int ys.length) H
def xAbs : List V → Hp → VK → Prop := fun xs H Q => ∃ i, xs = [.int i] ∧ Q (.int (if i < 0 then -i else i)) H
def xMax2 : List V → Hp → VK → Prop := fun xs H Q => ∃ i j, xs = [.int i, .int j] ∧ Q (.int (if j > i then j else i)) H
def xMin2 : List V → Hp → VK → Prop := fun xs H Q => ∃ i j, xs = [.int i, .int j] ∧ Q (.int (if j < i then j else i)) H
def xStrI : List V → Hp → VK → Prop := fun xs H Q => ∃ i, xs = [.int i] ∧ i.natAbs.log2 < 1920 ∧ Q (.str (toString i)) H
def xIntS : List V → Hp → VK → Prop := fun xs H Q => ∃ a n, xs = [.str a] ∧ PySem.intText? a = some n ∧ a.length ≤ 640 ∧ Q (.int n) H
def xIntB : List V → Hp → VK → Prop := fun xs H Q => (∃ i, xs = [.int i] ∧ Q (.int i) H) ∨ ∃ k, xs = [.bl k] ∧ Q (.int (if k then 1 else 0)) H
def xListOf (K : PySem.W.Frag) : List V → Hp → VK → Prop := fun xs H Q => ∃ p ys, xs = [.ref p] ∧ (SqL K H p ys ∨ SqT K H p ys) ∧ ∀ l, H l = none → Q (.ref l) (upd H l (.lst ys))
def xSplit : V → List V → Hp → VK → Prop := fun x xs H Q => ∃ a b, x = .str a ∧ xs = [.str b] ∧ (b.length == 0) = false ∧ a.length + 2 ≤ sizeLine ∧ rNewStrs (Txt.split a b) H Q
def xJoin (K : PySem.W.Frag) : V → List V → Hp → VK → Prop := fun x xs H Q => ∃ a p, ∃ ys : List Str, x = .str a ∧ xs = [.ref p] ∧ (SqL K H p (ys.map V.str) ∨ SqT K H p (ys.map V.str)) ∧
      (ys.map (·.length)).sum + ys.length * a.length ≤ 16777216 ∧ Q (.str (Txt.join a ys)) H
section
variable {X : Cx}
theorem x_catS : OpR X (binaryOp .Add) xCatS := op_add_str
theorem x_lenS : CallR X (.builtin "len") xLenS := call_len_str
theorem x_lenL : CallR X (.builtin "len") (xLenL X.K) := call_len_seq
theorem x_abs : CallR X (.builtin "abs") xAbs := call_abs
theorem x_max2 (hc : X.calm = true) : CallR X (.builtin "max") xMax2 := call_max2 hc
theorem x_min2 (hc : X.calm = true) : CallR X (.builtin "min") xMin2 := call_min2 hc
theorem x_strI : CallR X (.type "str") xStrI := call_str_int
theorem x_intS : CallR X (.type "int") xIntS := call_int_str
theorem x_intB : CallR X (.type "int") xIntB := call_int1
theorem x_list : CallR X (.type "list") (xListOf X.K) := call_list_of
theorem x_split {o e : Expr} {to te : TE} {apos pos : Pos} (ho : PE X o to) (he : PE X e te) (hs : starEach [e] X.env = [(false, eval e X.env)] := by rfl) (hbase : attributeBase o "split" X.env (eval o X.env) = eval o X.env := by rfl) (hline : (apos.endLine == pos.line) = true := by rfl) :
    PE X (.Call (.Attribute o "split" apos) [e] [] pos) (tM1 xSplit to te) := pe_split ho he hs hbase hline
theorem x_join {o e : Expr} {to te : TE} {apos pos : Pos} (ho : PE X o to) (he : PE X e te) (hs : starEach [e] X.env = [(false, eval e X.env)] := by rfl) (hbase : attributeBase o "join" X.env (eval o X.env) = eval o X.env := by rfl) (hline : (apos.endLine == pos.line) = true := by rfl) :
    PE X (.Call (.Attribute o "join" apos) [e] [] pos) (tM1 (xJoin X.K) to te) := pe_join ho he hs hbase hline
end
/-! ### continuations -/
def kB (Q : Bool → Hp → Prop) : VK := fun x H' => ∃ k, x = .bl k ∧ Q k H'
def kInt (Q : Option Int → Hp → Prop) : VK := fun x H' => ∃ i, x = .int i ∧ Q (some i) H'
def kAndV (tb : TE) (σ : L2.St) (Q : VK) : VK := fun x H1 => ∃ c, x = .bl c ∧ if c = true then tb σ H1 Q else Q (.bl false) H1
def kOrV (tb : TE) (σ : L2.St) (Q : VK) : VK := fun x H1 => ∃ c, x = .bl c ∧ if c = true then Q (.bl true) H1 else tb σ H1 Q
def kNotV (Q : VK) : VK := fun x H1 => ∃ c, x = .bl c ∧ Q (.bl (!c)) H1
def kTru (K : PySem.W.Frag) (Q : Bool → Hp → Prop) : VK := fun x H' => ∃ k, TruV K x H' k ∧ Q k H'
def kStr (Q : VK) : VK := fun x H1 => (∃ a, x = .str a) ∧ Q x H1
def kTy (K : PySem.W.Frag) (T : String) (Q : VK) : VK := fun x H1 => tyV K T x H1 ∧ Q x H1
def kListI (K : PySem.W.Frag) (R : It → Hp → Prop) : VK := fun x H1 => ∃ a, x = .ref a ∧ (∃ xs, SqL K H1 a xs) ∧ R (Itl K a) H1
def kTupI (K : PySem.W.Frag) (R : It → Hp → Prop) : VK := fun x H1 => ∃ a, x = .ref a ∧ (∃ xs, SqT K H1 a xs) ∧ R (Itt K a) H1
def kStrI (R : It → Hp → Prop) : VK := fun v H1 => ∃ x, v = .str x ∧ R (Its x) H1
def kChain (r' : R2) (tc : TE) (σ : L2.St) (y : V) (Q : VK) : VK := fun z H3 => ∃ k, z = .bl k ∧ (if k = true then tc σ H3 fun w' H4 => r' y w' H4 Q else Q (.bl false) H3)
def kRng1 (QR : It → Hp → Prop) : List V → Hp → Prop := fun vs H1 => ∃ j : Int, vs = [.int j] ∧ -(2 ^ 62) ≤ j ∧ j < 2 ^ 62 ∧ QR (Itr 0 j.toNat) H1
def kRng2 (QR : It → Hp → Prop) : List V → Hp → Prop := fun vs H1 => ∃ i j : Int, vs = [.int i, .int j] ∧ (-(2 ^ 62) ≤ i ∧ i < 2 ^ 62 ∧ -(2 ^ 62) ≤ j ∧ j < 2 ^ 62) ∧ QR (Itr i (j - i).toNat) H1
def ForW (J : It) (g : TG) (tb : TS) (D : Ends) (σ : L2.St) (H : Hp) : Prop := ∃ W : Nat → Nat → L2.St → Hp → Prop, (∃ m, W 0 m σ H) ∧ ∀ i m σ H, W i m σ H →
  (J.stop i H ∧ D.nx σ H) ∨ (J.go i H ∧ ∃ N : L2.St → Hp → Prop, (∀ σ' H', N σ' H' → ∃ m', m' < m ∧ W (i + 1) m' σ' H') ∧ ∀ x H', J.yld i H x H' → g x σ H' fun σ2 H2 => tb { D with nx := N, ct := N, bk := D.nx } σ2 H2)
def LcW (J : It) (g : TG) (tt : TT) (te : TE) (vs : List Nat) (σ : L2.St) (H1 : Hp) (Q : VK) : Prop := ∀ D, H1 D = none → ∃ W : Nat → Nat → Hp → Prop, (∃ m, W 0 m (upd H1 D (.lst []))) ∧ ∀ i m H, W i m H →
  (J.stop i H ∧ Q (.ref D) H) ∨ (J.go i H ∧ ∃ Nx : Hp → Prop, (∀ H', Nx H' → ∃ m', m' < m ∧ W (i + 1) m' H') ∧ ∀ x H', J.yld i H x H' → g x (wipe σ vs) H' fun σ2 H2 => wipe σ2 vs = wipe σ vs ∧ tt σ2 H2 fun b H3 =>
    if b = true then te σ2 H3 fun y H4 => ∃ acc, H4 D = some (.lst acc) ∧ acc.length < sizeLine ∧ Nx (upd H4 D (.lst (acc ++ [y]))) else Nx H3)
/-! ### steps -/
section
variable {K : PySem.W.Frag} {σ : L2.St} {H : Hp} {i : Nat} {v x y z : V} {ta tb te tc : TE} {Q : VK} {QB : Bool → Hp → Prop} {QA : List V → Hp → Prop} {QO : Option Int → Hp → Prop} {r r' : R2} {D : Ends} {t u : TS} {g : TG} {tt tt' : TT} {R : It → Hp → Prop} {tas : TA}
theorem i_var (e : σ[i]? = some (some v)) (q : Q v H) : tVar i σ H Q := ⟨v, e, q⟩
theorem i_c (q : Q v H) : tC v σ H Q := q
theorem i_op (q : ta σ H fun x H1 => tb σ H1 fun y H2 => r x y H2 Q) : tOp r ta tb σ H Q := q
theorem i_un {ru : V → Hp → VK → Prop} (q : ta σ H fun x H1 => ru x H1 Q) : tUn ru ta σ H Q := q
theorem i_rI {C : Int → Int → Prop} {f : Int → Int → V} {a b : Int} (q : Q (f a b) H) (c : C a b) : rI C f (.int a) (.int b) H Q := ⟨a, b, rfl, rfl, c, q⟩
theorem i_rI0 {f : Int → Int → V} {a b : Int} (q : Q (f a b) H) : rI0 f (.int a) (.int b) H Q := ⟨a, b, rfl, rfl, q⟩
theorem i_rGe {a b : Int} (q : Q (.bl (decide (b ≤ a))) H) : rGe (.int a) (.int b) H Q := ⟨a, b, rfl, rfl, q⟩
theorem i_rGt {a b : Int} (q : Q (.bl (decide (b < a))) H) : rGt (.int a) (.int b) H Q := ⟨a, b, rfl, rfl, q⟩
theorem i_rU {f : Int → V} {a : Int} (q : Q (f a) H) : rU f (.int a) H Q := ⟨a, rfl, q⟩
theorem i_rEqI {a b : Int} (q : Q (.bl (decide (a = b))) H) : rEq (.int a) (.int b) H Q := ⟨rfl, by rw [dec_int, Bool.beq_eq_decide_eq]; exact q⟩
theorem i_rNeI {a b : Int} (q : Q (.bl (!decide (a = b))) H) : rNe (.int a) (.int b) H Q := ⟨rfl, by rw [dec_int, Bool.beq_eq_decide_eq]; exact q⟩
theorem i_rEqS {a b : Str} (q : Q (.bl (decide (a = b))) H) : rEq (.str a) (.str b) H Q := ⟨rfl, by rw [dec_str, Bool.beq_eq_decide_eq]; exact q⟩
theorem i_rNeS {a b : Str} (q : Q (.bl (!decide (a = b))) H) : rNe (.str a) (.str b) H Q := ⟨rfl, by rw [dec_str, Bool.beq_eq_decide_eq]; exact q⟩
theorem i_rEqB {a b : Bool} (q : Q (.bl (decide (a = b))) H) : rEq (.bl a) (.bl b) H Q := ⟨rfl, by rw [dec_bl, Bool.beq_eq_decide_eq]; exact q⟩
theorem i_rNeB {a b : Bool} (q : Q (.bl (!decide (a = b))) H) : rNe (.bl a) (.bl b) H Q := ⟨rfl, by rw [dec_bl, Bool.beq_eq_decide_eq]; exact q⟩
theorem i_rIsN (q : Q (.bl (decide (x = .non))) H) : rIsN x .non H Q := ⟨rfl, q⟩
theorem i_rNotN (q : Q (.bl (!decide (x = .non))) H) : rNotN x .non H Q := ⟨rfl, q⟩
theorem i_rInS {c : Nat} {z : Str} (q : Q (.bl (decide (c ∈ z.cps.toList))) H) : rInS (.str ⟨#[c]⟩) (.str z) H Q := ⟨c, z, rfl, rfl, q⟩
theorem i_rNotInS {c : Nat} {z : Str} (q : Q (.bl (!decide (c ∈ z.cps.toList))) H) : rNotInS (.str ⟨#[c]⟩) (.str z) H Q := ⟨c, z, rfl, rfl, q⟩
theorem i_catS {a b : Str} (q : Q (.str (a ++ b)) H) (c : a.length + b.length ≤ sizeLine) : xCatS (.str a) (.str b) H Q := ⟨a, b, rfl, rfl, c, q⟩
theorem i_tcb {rr : List V → Hp → VK → Prop} (q : tas σ H fun vs H1 => rr vs H1 Q) : tCB rr tas σ H Q := q
theorem i_nil (q : QA [] H) : tNil σ H QA := q
theorem i_cons (q : ta σ H fun x H1 => tas σ H1 fun xs H2 => QA (x :: xs) H2) : tCons ta tas σ H QA := q
theorem i_lenS {s : Str} (q : Q (.int s.length) H) (c : s.length ≤ sizeLine) : xLenS [.str s] H Q := ⟨s, rfl, c, q⟩
theorem i_lenL {p : Addr} {xs : List V} (h : SqL K H p xs) (q : Q (.int xs.length) H) : xLenL K [.ref p] H Q := ⟨p, xs, rfl, .inl h, q⟩
theorem i_lenT {p : Addr} {xs : List V} (h : SqT K H p xs) (q : Q (.int xs.length) H) : xLenL K [.ref p] H Q := ⟨p, xs, rfl, .inr h, q⟩
theorem i_abs {a : Int} (q : Q (.int (a.natAbs : Int)) H) : xAbs [.int a] H Q := ⟨a, rfl, by
  have e : (if a < 0 then -a else a) = (a.natAbs : Int) := by split <;> omega
  rw [e]; exact q⟩
theorem i_max2 {a b : Int} (q : Q (.int (max a b)) H) : xMax2 [.int a, .int b] H Q := ⟨a, b, rfl, by
  have e : (if b > a then b else a) = max a b := by split <;> omega
  rw [e]; exact q⟩
theorem i_min2 {a b : Int} (q : Q (.int (min a b)) H) : xMin2 [.int a, .int b] H Q := ⟨a, b, rfl, by
  have e : (if b < a then b else a) = min a b := by split <;> omega
  rw [e]; exact q⟩
theorem i_strI {a : Int} (q : Q (.str (toString a)) H) (c : a.natAbs.log2 < 1920) : xStrI [.int a] H Q := ⟨a, rfl, c, q⟩
theorem i_intB {k : Bool} (q : Q (.int (if k then 1 else 0)) H) : xIntB [.bl k] H Q := .inr ⟨k, rfl, q⟩
theorem i_test (q : te σ H (kB QB)) : tTest te σ H QB := q
theorem i_tB (q : te σ H (kB QB)) : tB te σ H QB := q
theorem i_kB {k : Bool} (q : QB k H) : kB QB (.bl k) H := ⟨k, rfl, q⟩
theorem i_and (q : tt σ H fun c H1 => if c = true then tt' σ H1 QB else QB false H1) : tAnd tt tt' σ H QB := q
theorem i_or (q : tt σ H fun c H1 => if c = true then QB true H1 else tt' σ H1 QB) : tOr tt tt' σ H QB := q
theorem i_not (q : tt σ H fun c H1 => QB (!c) H1) : tNot tt σ H QB := q
theorem i_if (q : tt σ H fun c H1 => if c = true then ta σ H1 Q else tb σ H1 Q) : tIf tt ta tb σ H Q := q
theorem i_andV (q : ta σ H (kAndV tb σ Q)) : tAndV ta tb σ H Q := q
theorem i_orV (q : ta σ H (kOrV tb σ Q)) : tOrV ta tb σ H Q := q
theorem i_notV (q : ta σ H (kNotV Q)) : tNotV ta σ H Q := q
theorem i_kAndV {c : Bool} (q : if c = true then tb σ H Q else Q (.bl false) H) : kAndV tb σ Q (.bl c) H := ⟨c, rfl, q⟩
theorem i_kOrV {c : Bool} (q : if c = true then Q (.bl true) H else tb σ H Q) : kOrV tb σ Q (.bl c) H := ⟨c, rfl, q⟩
theorem i_kNotV {c : Bool} (q : Q (.bl (!c)) H) : kNotV Q (.bl c) H := ⟨c, rfl, q⟩
theorem i_chain (q : ta σ H fun x H1 => tb σ H1 fun y H2 => r x y H2 (kChain r' tc σ y Q)) : tChain r r' ta tb tc σ H Q := q
theorem i_kChain {k : Bool} (q : if k = true then tc σ H fun w' H4 => r' y w' H4 Q else Q (.bl false) H) : kChain r' tc σ y Q (.bl k) H := ⟨k, rfl, q⟩
theorem i_seq (q : t { D with nx := u D } σ H) : tSeq t u D σ H := q
theorem i_next (q : D.nx σ H) : tNext D σ H := q
theorem i_drop (q : te σ H fun _ H1 => D.nx σ H1) : tDrop te D σ H := q
theorem i_ret (q : te σ H D.rt) : tRet te D σ H := q
theorem i_retN (q : D.rt .non H) : tRetN D σ H := q
theorem i_ifS (q : tt σ H fun b H1 => if b = true then t D σ H1 else u D σ H1) : tIfS tt t u D σ H := q
theorem i_asg (q : te σ H fun x H1 => g x σ H1 D.nx) : tAsg te g D σ H := q
theorem i_gName {QS : L2.St → Hp → Prop} (q : QS (σ.set i (some v)) H) : gName i v σ H QS := q
theorem i_for {wi : TI} (q : wi σ H fun J H1 => ForW J g t D σ H1) : tFor wi g t D σ H := q
theorem i_lc {wi : TI} {vs : List Nat} (q : wi σ H fun J H1 => LcW J g tt te vs σ H1 Q) : tLc wi g tt te vs σ H Q := q
theorem i_iList (q : ta σ H (kListI K R)) : iList K ta σ H R := q
theorem i_iTup (q : ta σ H (kTupI K R)) : iTup K ta σ H R := q
theorem i_iStr (q : ta σ H (kStrI R)) : iStr ta σ H R := q
theorem i_kListI {a : Addr} {xs : List V} (h : SqL K H a xs) (q : R (Itl K a) H) : kListI K R (.ref a) H := ⟨a, rfl, ⟨xs, h⟩, q⟩
theorem i_kTupI {a : Addr} {xs : List V} (h : SqT K H a xs) (q : R (Itt K a) H) : kTupI K R (.ref a) H := ⟨a, rfl, ⟨xs, h⟩, q⟩
theorem i_kStrI {s : Str} (q : R (Its s) H) : kStrI R (.str s) H := ⟨s, rfl, q⟩
theorem i_lst (q : tas σ H fun xs H1 => xs.length ≤ sizeLine ∧ ∀ p, H1 p = none → Q (.ref p) (upd H1 p (.lst xs))) : tLst tas σ H Q := q
theorem i_tup (q : tas σ H fun xs H1 => xs.length ≤ sizeLine ∧ ∀ p, H1 p = none → Q (.ref p) (upd H1 p (.tup xs))) : tTup tas σ H Q := q
theorem i_ixL {p : Addr} {xs : List V} {j : Int} (h : SqL K H p xs) (e : atI xs j = some v) (q : Q v H) : rIxL K (.ref p) (.int j) H Q := ⟨p, xs, j, v, rfl, rfl, h, e, q⟩
theorem i_ixT {p : Addr} {xs : List V} {j : Int} (h : SqT K H p xs) (e : atI xs j = some v) (q : Q v H) : rIxT K (.ref p) (.int j) H Q := ⟨p, xs, j, v, rfl, rfl, h, e, q⟩
theorem i_ixS {s : Str} {j : Int} {c : Nat} (q : Q (.str ⟨#[c]⟩) H) (hs : s.length ≤ sizeLine) (e : atI s.cps.toList j = some c) : rIxS (.str s) (.int j) H Q := ⟨s, j, c, rfl, rfl, hs, e, q⟩
theorem i_call {sp : Sp} {dvs : List V} {E : XK} (q : tas σ H fun vs H1 => sp (vs ++ dvs) H1 Q E) : tCall sp dvs E tas σ H Q := q
theorem i_m1 {rm : V → List V → Hp → VK → Prop} (q : ta σ H (kStr fun x H1 => te σ H1 fun y H2 => rm x [y] H2 Q)) : tM1 rm ta te σ H Q := q
theorem i_kStr {s : Str} (q : Q (.str s) H) : kStr Q (.str s) H := ⟨⟨s, rfl⟩, q⟩
theorem i_bm {T : String} {rm : V → List V → Hp → VK → Prop} (q : ta σ H (kTy K T fun x H1 => tas σ H1 fun xs H2 => rm x xs H2 Q)) : tBM K T rm ta tas σ H Q := q
theorem i_bm0 {T : String} {rm : V → List V → Hp → VK → Prop} (q : ta σ H (kTy K T fun x H1 => rm x [] H1 Q)) : tBM0 K T rm ta σ H Q := q
theorem i_kTyL {p : Addr} {xs : List V} (h : SqL K H p xs) (q : Q (.ref p) H) : kTy K "list" Q (.ref p) H := ⟨.inl ⟨rfl, xs, h⟩, q⟩
theorem i_append {l : Addr} {xs : List V} {y : V} (h : H l = some (.lst xs)) (q : Q .non (upd H l (.lst (xs ++ [y])))) (c : xs.length < sizeLine) : rAppend (.ref l) [y] H Q := ⟨l, xs, y, rfl, rfl, h, c, q⟩
theorem i_split {a b : Str} (q : ∀ p, H p = none → Q (.ref p) (upd H p (.lst ((Txt.split a b).map V.str)))) (h : (b.length == 0) = false) (c : a.length + 2 ≤ sizeLine) : xSplit (.str a) [.str b] H Q := ⟨a, b, rfl, rfl, h, c, q⟩
theorem i_part (q : te σ H (kInt QO)) : tPart te σ H QO := q
theorem i_kInt {a : Int} (q : QO (some a) H) : kInt QO (.int a) H := ⟨a, rfl, q⟩
theorem i_noPart (q : QO none H) : tNoPart σ H QO := q
theorem i_sl {rs : V → Option Int → Option Int → Hp → VK → Prop} {tl th : TO} (q : te σ H fun x H1 => tl σ H1 fun l H2 => th σ H2 fun u H3 => rs x l u H3 Q) : tSl rs te tl th σ H Q := q
theorem i_slL {a : Addr} {xs : List V} {lo hi : Option Int} (h : SqL K H a xs) (q : ∀ p, H p = none → Q (.ref p) (upd H p (.lst (cutV xs lo hi)))) : rSlL K (.ref a) lo hi H Q := ⟨a, xs, rfl, h, q⟩
theorem i_range1 {QR : It → Hp → Prop} (q : tas σ H (kRng1 QR)) : iRng1 tas σ H QR := q
theorem i_range2 {QR : It → Hp → Prop} (q : tas σ H (kRng2 QR)) : iRng2 tas σ H QR := q
theorem i_kRng1 {j : Int} {QR : It → Hp → Prop} (q : QR (Itr 0 j.toNat) H) (c : -(2 ^ 62) ≤ j ∧ j < 2 ^ 62) : kRng1 QR [.int j] H := ⟨j, rfl, c.1, c.2, q⟩
theorem i_kRng2 {a b : Int} {QR : It → Hp → Prop} (q : QR (Itr a (b - a).toNat) H) (c : -(2 ^ 62) ≤ a ∧ a < 2 ^ 62 ∧ -(2 ^ 62) ≤ b ∧ b < 2 ^ 62) : kRng2 QR [.int a, .int b] H := ⟨a, b, rfl, c, q⟩
theorem i_gTup {a : Addr} {xs : List V} {n : Nat} {gs : TGs} {QS : L2.St → Hp → Prop} (h : SqT K H a xs) (e : xs.length = n) (q : gs xs σ H QS) : gTup K n gs (.ref a) σ H QS := ⟨a, xs, rfl, h, e, q⟩
theorem i_gCons {g : TG} {gs : TGs} {xs : List V} {QS : L2.St → Hp → Prop} (q : g v σ H fun σ' H' => gs xs σ' H' QS) : gCons g gs (v :: xs) σ H QS := ⟨v, xs, rfl, q⟩
theorem i_gNil {QS : L2.St → Hp → Prop} (q : QS σ H) : gNil [] σ H QS := ⟨rfl, q⟩
theorem i_gSub {to ti : TE} {ts : TSet} {QS : L2.St → Hp → Prop} (q : to σ H fun o H1 => ti σ H1 fun i H2 => ts o i v H2 fun H3 => QS σ H3) : gSub to ti ts v σ H QS := q
theorem i_setL {p : Addr} {xs : List V} {k : Int} {j : Nat} {QH : Hp → Prop} (h : H p = some (.lst xs)) (e : ixN xs.length k = some j) (q : QH (upd H p (.lst (xs.set j v)))) : rSetL (.ref p) (.int k) v H QH := ⟨p, xs, k, j, rfl, rfl, h, e, q⟩
def kZip (K : PySem.W.Frag) (R : It → Hp → Prop) : List V → Hp → Prop := fun vs H1 => ∃ a b xs ys, vs = [.ref a, .ref b] ∧ SqL K H1 a xs ∧ SqL K H1 b ys ∧ R (Itz K a b) H1
theorem i_iZip (q : tas σ H (kZip K R)) : iZip K tas σ H R := q
theorem i_kZip {a b : Addr} {xs ys : List V} (h1 : SqL K H a xs) (h2 : SqL K H b ys) (q : R (Itz K a b) H) : kZip K R [.ref a, .ref b] H := ⟨a, b, xs, ys, rfl, h1, h2, q⟩
theorem i_cat {l b : Addr} {xs zs : List V} (h1 : H l = some (.lst xs)) (h2 : H b = some (.lst zs)) (c : xs.length + zs.length ≤ sizeLine) (q : ∀ p, H p = none → Q (.ref p) (upd H p (.lst (xs ++ zs)))) : rCat (.ref l) (.ref b) H Q := ⟨l, b, xs, zs, rfl, rfl, h1, h2, c, q⟩
theorem i_rep {l : Addr} {k : Int} {xs : List V} (h : H l = some (.lst xs)) (c1 : -(2 ^ 63) ≤ k) (c2 : k < 2 ^ 63) (c3 : xs.length * k.toNat ≤ sizeLine) (q : ∀ p, H p = none → Q (.ref p) (upd H p (.lst (List.replicate k.toNat xs).flatten))) : rRep (.ref l) (.int k) H Q := ⟨l, k, xs, rfl, rfl, h, c1, c2, c3, q⟩
theorem i_join {a : Str} {p : Addr} {ys : List Str} (h : SqL K H p (ys.map V.str)) (c : (ys.map (·.length)).sum + ys.length * a.length ≤ 16777216) (q : Q (.str (Txt.join a ys)) H) : xJoin K (.str a) [.ref p] H Q := ⟨a, p, ys, rfl, rfl, .inl h, c, q⟩
theorem i_yes (q : QB true H) : tYes σ H QB := q
theorem i_ift {A B : Prop} (q : A) : if true = true then A else B := by rw [if_pos rfl]; exact q
theorem i_iff {A B : Prop} (q : B) : if false = true then A else B := by rw [if_neg Bool.false_ne_true]; exact q
theorem i_dec {p A B : Prop} [Decidable p] (h1 : p → A) (h2 : ¬ p → B) : if decide p = true then A else B := by
  by_cases h : p
  · rw [if_pos (decide_eq_true h)]; exact h1 h
  · rw [if_neg (by simp [h])]; exact h2 h
theorem i_ndec {p A B : Prop} [Decidable p] (h1 : ¬ p → A) (h2 : p → B) : if (!decide p) = true then A else B := by
  by_cases h : p
  · rw [if_neg (by simp [h])]; exact h2 h
  · rw [if_pos (by simp [h])]; exact h1 h
theorem i_nb {b : Bool} {A B : Prop} (q : if b = true then B else A) : if (!b) = true then A else B := by
  cases b <;> exact q
theorem i_b {b : Bool} {A B : Prop} (h1 : b = true → A) (h2 : b = false → B) : if b = true then A else B := by
  cases b with
  | true => exact i_ift (h1 rfl)
  | false => exact i_iff (h2 rfl)
end
end HX

set_option Elab.async false
set_option linter.all false
set_option maxRecDepth 100000
set_option maxHeartbeats 2000000
/-! HXrev: sep.join(reversed(list of texts)); a figure's place among the figures. -/
namespace HX
open PySem PySem.Spec PyProof.Rows L2
section
variable {prog : Program} {w : World} {A : Around} {E : Value → Shared → Prop} {s : Shared}
theorem join_rev {x : Str} {t : Tok} {it l : Addr} {items : Array Value} {ys : List Str} {Q : Value → Shared → Prop} (hh : A.handled = none) (hit : s.heap.IsRevIter it l ((items.size : Int) - 1)) (hl : s.heap.IsList l items) (hne : l ≠ it) (hn : items.size ≤ sizeLine)
    (hP : ∀ acc : Array Value, ItemsOf (fun i v => items[items.size - 1 - i]? = some v) acc items.size → StrsAre acc.toList ys) (hok : (ys.map (·.length)).sum + ys.length * x.length ≤ 16777216)
    (hq : ∀ (h' : Heap) (k t' : Nat), (∀ b o, b ≠ it → s.heap.get? b = some o → h'.get? b = some o) → Q (.str (Txt.join x ys) t') { s with heap := h', toks := k }) :
    wpAny (model prog w) A (call (.builtin "str.join") [.str x t, .ref it]) Q E s := by
  refine wpAny_call (codeAny_call_builtin F.slot_str_join.plain F.entry_str_join (F.slot_str_join.check _ _ _ _ _ _ _ _ (typeIs_str _ _ _) (F.args_str_join_2 _ _) ?_))
  rw [join_tree_other]
  refine wpAny_bind (wpAny_typeOf hit.typeIs ?_)
  show wpAny _ A.in1 ((pyIter (.ref it)).tryCatch _ >>= fun i => collect i >>= fun items => joinTail x items) _ _ s
  refine wpAny_bind (wpAny_tryCatch (wpAny_pyIter_revIter hit ?_))
  refine wpAny_bind (RT.collect_rev (A := A.in1) hh hit hl hne hn fun h' tk acc hk hacc => ?_)
  obtain ⟨l, hl', ht⟩ := strsAre_values (hP acc hacc)
  subst ht
  rw [hl']
  have hok' := joinOk_of hok
  unfold JoinOk at hok'
  rw [Bool.not_eq_true'] at hok'
  have g : Gives (joinTail x (strValues l)) (joinMade x l) := by
    have g0 := gives_joinTail x l hok'
    cases l with
    | nil => exact g0
    | cons p r => cases r with
      | nil => exact g0
      | cons q r' => exact g0
  exact g prog w A (wants Q E) _ (post_join l ⟨joinFit_length hok', fun t' k => hq h' k t' hk⟩)
end
end HX
namespace HX
open PySem PySem.Spec PyProof.Rows L2
theorem rev_at {ys : List Str} {its : List Value} (r : Vals (ys.map V.str) its) {acc : Array Value} (h : ItemsOf (fun i v => its.toArray[its.toArray.size - 1 - i]? = some v) acc its.toArray.size) : StrsAre acc.toList ys.reverse := by
  have hl : its.length = ys.length := by rw [← r.length, List.length_map]
  obtain ⟨h1, h2⟩ := h
  have key : ∀ (n : Nat) (L : List Value) (zs : List Str), L.length = n → zs.length = n → (∀ (i : Nat) (v : Value), L[i]? = some v → ∃ (y : Str) (t : Tok), zs[i]? = some y ∧ v = Value.str y t) → StrsAre L zs := by
    intro n
    induction n with
    | zero =>
      intro L zs e1 e2 _
      rw [List.length_eq_zero_iff.mp e1, List.length_eq_zero_iff.mp e2]
      exact .nil
    | succ n ih =>
      intro L zs e1 e2 k
      cases L with
      | nil => simp at e1
      | cons v L =>
        cases zs with
        | nil => simp at e2
        | cons z zs =>
          obtain ⟨y, t, hy, rfl⟩ := k 0 v rfl
          have ey : z = y := Option.some.inj hy
          subst ey
          exact .cons z t (ih L zs (by simpa using e1) (by simpa using e2) fun i v' hv => k (i + 1) v' (by simpa using hv))
  refine key ys.length acc.toList ys.reverse ?_ (by simp) fun i v hv => ?_
  · rw [Array.length_toList, h1]; simp [hl]
  · have hv' : acc[i]? = some v := by simpa using hv
    have q := h2 i v hv'
    have hi : i < ys.length := by
      have := (Array.getElem?_eq_some_iff.mp hv').1
      rw [h1] at this
      simpa [hl] using this
    have q2 : its[its.length - 1 - i]? = some v := by simpa using q
    have hj : its.length - 1 - i < ys.length := by omega
    obtain ⟨u, hu, ru⟩ := r.get (i := its.length - 1 - i) (x := V.str ys[its.length - 1 - i]) (by rw [List.getElem?_map, List.getElem?_eq_getElem hj]; rfl)
    rw [q2] at hu
    obtain rfl := Option.some.inj hu
    obtain ⟨t, rfl⟩ := (show ∃ t, v = Value.str _ t from ru)
    refine ⟨_, t, ?_, rfl⟩
    rw [List.getElem?_reverse hi, ← hl, List.getElem?_eq_getElem hj]
section
variable {X : Cx}
def kJoinRev (K : PySem.W.Frag) (sep : Str) (Q : VK) : List V → Hp → Prop := fun vs H2 => ∃ (q : Addr) (ys : List Str), vs = [.ref q] ∧ SqL K H2 q (ys.map V.str) ∧ (ys.map (·.length)).sum + ys.length * sep.length ≤ 16777216 ∧ Q (.str (Txt.join sep ys.reverse)) H2
/-- sep.join(reversed(xs)) -/
def tJoinRev (K : PySem.W.Frag) (to : TE) (ta : TA) : TE := fun σ H Q => to σ H fun x H1 => ∃ a : Str, x = .str a ∧ ta σ H1 (kJoinRev K a Q)
theorem x_joinRev {o e : Expr} {to : TE} {ta : TA} {apos pos p pos2 : Pos} (hc : X.calm = true) (ho : PE X o to) (hg : Gl X "reversed") (hm : X.mg "reversed" = none) (ha : PA X [e] ta)
    (hs1 : starEach [.Call (.Name "reversed" p) [e] [] pos2] X.env = [(false, eval (.Call (.Name "reversed" p) [e] [] pos2) X.env)] := by rfl) (hs : starEach [e] X.env = [(false, eval e X.env)] := by rfl)
    (hbase : attributeBase o "join" X.env (eval o X.env) = eval o X.env := by rfl) (hline : (apos.endLine == pos.line) = true := by rfl) :
    PE X (.Call (.Attribute o "join" apos) [.Call (.Name "reversed" p) [e] [] pos2] [] pos) (tJoinRev X.K to ta) := by
  refine ⟨fun pins s σ H Q I h => ?_⟩
  refine PySem.Call_method1 hbase hs1 hline (thn (ho.run pins s σ H _ I h) fun v s1 ⟨x, H1, I1, r1, q1⟩ => ?_)
  obtain ⟨a, rfl, q1⟩ := q1
  obtain ⟨t, rfl⟩ := _root_.id r1
  refine ⟨"str", _, F.plainAttrs_str, F.slot_str_join, F.type_str_join, typeIs_str _ _ _, (fun _ e => nomatch e), Calls.callWith_builtin rfl (Calls.evalArgs_plain (Calls.spliced_cons ?_))⟩
  refine Call_ (ld_blt I1 hg hm PyProof.Rows.boot_reversed (PyProof.Rows.callWith_type1 (thn (ha.run pos2 pins s1 σ H1 _ I1 q1) fun us s2 ⟨vs, H2, I2, r2, q2⟩ => ?_) hs rfl))
  obtain ⟨q, ys, rfl, hq, hz, q3⟩ := q2
  cases r2 with
  | cons r rr =>
    cases rr
    cases r
    obtain ⟨its, rv, pl, hsz⟩ := I2.list hq
    have hit : (s2.heap.push (revObj q ((its.toArray.size : Int) - 1))).IsRevIter s2.heap.objs.size q ((its.toArray.size : Int) - 1) := ⟨_, Heap.get?_push_size _ rfl, rfl, rfl⟩
    have hlt : q < s2.heap.objs.size := by obtain ⟨o, ho, _⟩ := pl.isList; exact Heap.lt_size ho
    refine call_reversed_list pl.isList (Calls.spliced_nil (join_rev (s := { s2 with heap := s2.heap.push (revObj q ((its.toArray.size : Int) - 1)) }) (ys := ys.reverse) (I2.ok.hd hc) hit (pl.isList.push _) (Nat.ne_of_lt hlt) (by rw [List.size_toArray, ← rv.length]; exact hsz) (fun acc hacc => rev_at rv hacc) (by simpa [List.sum_reverse] using hz) fun h' k t' hk => ?_))
    exact ⟨.str _, H2, I2.kept (t' := k) (fun b o e => hk b o (Nat.ne_of_lt (Heap.lt_size e)) (Heap.get?_push_of_some _ e)), ⟨t', rfl⟩, q3⟩
end
section
variable {K : PySem.W.Frag} {σ : L2.St} {H : Hp} {to : TE} {ta : TA} {Q : VK}
def kRev0 (K : PySem.W.Frag) (ta : TA) (σ : L2.St) (Q : VK) : VK := fun x H1 => ∃ a : Str, x = .str a ∧ ta σ H1 (kJoinRev K a Q)
theorem i_joinRev (q : to σ H (kRev0 K ta σ Q)) : tJoinRev K to ta σ H Q := q
theorem i_kRev0 {a : Str} (q : ta σ H (kJoinRev K a Q)) : kRev0 K ta σ Q (.str a) H := ⟨a, rfl, q⟩
theorem i_kJoinRev {a : Str} {p : Addr} {ys : List Str} (h : SqL K H p (ys.map V.str)) (c : (ys.map (·.length)).sum + ys.length * a.length ≤ 16777216) (q : Q (.str (Txt.join a ys.reverse)) H) : kJoinRev K a Q [.ref p] H := ⟨p, ys, rfl, h, c, q⟩
end
/-! ### a figure's place -/
def figs : Str := "0123456789"
theorem occ_fig : ∀ d : Nat, d < 10 → Builtin.Str.occurrences figs ⟨#[48 + d]⟩ 0 figs.length 1 = [d] := by decide +kernel
def xIndexF : V → List V → Hp → VK → Prop := fun x xs H Q => ∃ d : Nat, x = .str figs ∧ xs = [.str ⟨#[48 + d]⟩] ∧ d < 10 ∧ Q (.int (d : Nat)) H
theorem mt_indexF {X : Cx} : MtR X "str.index" xIndexF := by
  intro pins s σ H x xs v us Q I rx rs h
  obtain ⟨d, rfl, rfl, hd, q⟩ := h
  exact mt_sindex pins s σ H _ _ v us Q I rx rs ⟨figs, _, d, [], rfl, rfl, occ_fig d hd, q⟩
theorem x_indexS {X : Cx} {o e : Expr} {to te : TE} {apos pos : Pos} (ho : PE X o to) (he : PE X e te) (hs : starEach [e] X.env = [(false, eval e X.env)] := by rfl) (hbase : attributeBase o "index" X.env (eval o X.env) = eval o X.env := by rfl) (hline : (apos.endLine == pos.line) = true := by rfl) :
    PE X (.Call (.Attribute o "index" apos) [e] [] pos) (tM1 xIndexF to te) := pe_m1 F.slot_str_index F.type_str_index mt_indexF ho he hs hbase hline
end HX

set_option Elab.async false
set_option linter.all false
set_option maxRecDepth 100000
set_option maxHeartbeats 2000000
/-! HXweb: further rules: a dict against the empty one, steps of 1 and -1, texts taken out of a list. -/
namespace HX
open PySem PySem.Spec PyProof.Rows L2
section
variable {X : Cx}
/-- d != {} -/
def rNeD0 : R2 := fun x y H Q => ∃ a b ks, x = .ref a ∧ y = .ref b ∧ H a = some (.dK ks) ∧ H b = some (.dK []) ∧ Q (.bl (!ks.isEmpty)) H
theorem op_ne_dict0 (hu : X.A.units < cLine) : OpR X (compareOp .NotEq) rNeD0 := by
  intro pins s σ H x y v u Q I rx ry h
  obtain ⟨a, b, ks, rfl, rfl, ea, eb, q⟩ := h
  obtain rfl : v = Value.ref a := rx
  obtain rfl : u = Value.ref b := ry
  obtain ⟨_, ya, va, ra, da⟩ := (show ObjOk X.prog X.w H s.heap a (.dK ks) from I.hok a _ ea)
  obtain ⟨_, yb, vb, rb, db⟩ := (show ObjOk X.prog X.w H s.heap b (.dK []) from I.hok b _ eb)
  cases rb
  have la : va.length = ks.length := ra.length.symm
  refine PySem.W.keq_ne (knd := mixKind X.prog X.w) (r := true) ya yb da db hu (fun e => ?_) (fin_bl I q ?_)
  · have e0 : va = [] := List.length_eq_zero_iff.mp (by simpa using e)
    subst e0
    have k0 : ks = [] := List.length_eq_zero_iff.mp (by rw [← la]; rfl)
    subst k0
    exact hits_all (kvs := []) .nil ra fun _ h => by simp at h
  · rw [la]
    cases ks <;> simp
/-- xs[::k], k one or minus one -/
def kStepL (K : PySem.W.Frag) (x : V) (Q : VK) : Option Int → Hp → Prop := fun o H2 => ∃ a xs k, x = .ref a ∧ o = some k ∧ SqL K H2 a xs ∧ (k = 1 ∨ k = -1) ∧ ∀ p, H2 p = none → Q (.ref p) (upd H2 p (.lst (if k = 1 then xs else xs.reverse)))
def tStepL (K : PySem.W.Frag) (te : TE) (tk : TO) : TE := fun σ H Q => te σ H fun x H1 => tk σ H1 (kStepL K x Q)
theorem i_stepL {K : PySem.W.Frag} {te : TE} {tk : TO} {σ : L2.St} {H : Hp} {Q : VK} (q : te σ H fun x H1 => tk σ H1 (kStepL K x Q)) : tStepL K te tk σ H Q := q
theorem i_kStepL {K : PySem.W.Frag} {H : Hp} {Q : VK} {a : Addr} {xs : List V} {k : Int} (h : SqL K H a xs) (c : k = 1 ∨ k = -1) (q : ∀ p, H p = none → Q (.ref p) (upd H p (.lst (if k = 1 then xs else xs.reverse)))) : kStepL K (.ref a) Q (some k) H := ⟨a, xs, k, rfl, rfl, h, c, q⟩
theorem pick_one (items : Array Value) : slicePick items none none (some 1) = items := by
  unfold slicePick
  have e : sliceBounds none none (some 1) items.size = (0, (items.size : Int), 1) := by
    first
    | rfl
    | simp [sliceBounds]
  rw [e]
  show ((sliceRange 0 (items.size : Int) 1).filterMap (items[·]?)).toArray = _
  have r : sliceRange 0 (items.size : Int) 1 = List.range items.size := by
    unfold sliceRange
    have h1 : ((1 : Int) > 0) := by decide
    by_cases h : (0 : Int) < (items.size : Int)
    · have e : ((items.size : Int) - 0 + 1 - 1) / 1 = (items.size : Int) := by
        rw [Int.ediv_one]; omega
      simp only [h1, if_true, h, e, Int.toNat_natCast]
      conv => rhs; rw [← List.map_id (List.range items.size)]
      apply List.map_congr_left
      intro k hk
      simp
    · have e : items.size = 0 := by omega
      simp [e]
  rw [r, PySem.W.krv_all]
theorem pe_stepL {e ek : Expr} {te tk : TE} {p3 pos : Pos} (he : PE X e te) (hk : PE X ek tk) : PE X (.Subscript e (.Slice none none (some ek) p3) pos) (tStepL X.K te (tPart tk)) := by
  refine ⟨fun pins s σ H Q I h => ?_⟩
  refine Subscript_ (thn (he.run pins s σ H _ I h) fun v s1 ⟨x, H1, I1, r1, q1⟩ => ?_)
  have hst : PO X (some ek) (tPart tk) := po_some hk
  refine wpAny_Slice (thn (po_none.run pins s1 σ H1 (fun o H2 => o = none ∧ H2 = H1) I1 ⟨rfl, rfl⟩) fun vl s2 ⟨l, H2, I2, pl, el, e2⟩ => ?_)
  subst el e2
  refine thn (po_none.run pins s2 σ H2 (fun o H3 => o = none ∧ H3 = H2) I2 ⟨rfl, rfl⟩) fun vu s3 ⟨u, H3, I3, pu, eu, e3⟩ => ?_
  subst eu e3
  refine thn (hst.run pins s3 σ H3 _ I3 q1) fun vs s4 ⟨o, H4, I4, ps, a, xs, k, ex, eo, hx, hk, q⟩ => ?_
  subst eo ex
  obtain rfl : v = Value.ref a := r1
  have I5 : Inv X pins σ H4 { s4 with heap := s4.heap.push { cls := .type "slice", data := .fields #[vl, vu, vs] } } := I4.kept (t' := s4.toks) fun b ob q => Heap.get?_push_of_some _ q
  obtain ⟨its, r, ht, hz⟩ := I5.list hx
  have hlen := r.length
  show wpAny (model X.prog X.w) X.A (subscriptTail e (.Slice none none (some ek) p3) (.ref a) (.ref s4.heap.objs.size)) (EP X pins σ Q) X.xe { s4 with heap := s4.heap.push { cls := .type "slice", data := .fields #[vl, vu, vs] } }
  refine tail_any (ops := [.ref a, .ref s4.heap.objs.size]) ht.isList.typeIs (PySem.slot_list_getitem.lookup) ?_ (by with_unfolding_all rfl)
  have hk0 : k ≠ 0 := by rcases hk with h | h <;> rw [h] <;> decide
  refine wpAny_getItem_list_slice ht.isList (Heap.IsSliceOf.new _ vl vu vs) pl pu ps (by simpa using hk0) ?_ (by rw [List.size_toArray]; omega)
  rcases hk with rfl | rfl
  · rw [pick_one]
    refine ⟨.ref _, _, I5.laid (t' := s4.toks) (o := .lst xs) (fun b ob q => Heap.get?_push_of_some _ q) (Nat.le_refl _) ?_, rfl, q _ (I5.hok.fresh (Nat.le_refl _))⟩
    exact ⟨hz, _, 0, r, Heap.get?_push_size _ rfl⟩
  · rw [PySem.W.krv_pick]
    refine ⟨.ref _, _, I5.laid (t' := s4.toks) (o := .lst xs.reverse) (fun b ob q => Heap.get?_push_of_some _ q) (Nat.le_refl _) ?_, rfl, q _ (I5.hok.fresh (Nat.le_refl _))⟩
    exact ⟨by rw [List.length_reverse]; exact hz, _, 0, r.reverse, Heap.get?_push_size _ rfl⟩
/-! ### list.remove of a text -/
def rRemS : V → List V → Hp → VK → Prop := fun x xs H Q => ∃ (l : Addr) (ys : List Str) (k : Str) (j : Nat), x = .ref l ∧ xs = [.str k] ∧ H l = some (.lst (ys.map V.str)) ∧ ys[j]? = some k ∧ (∀ m : Nat, m < j → ys[m]? ≠ some k) ∧ Q .non (upd H l (.lst ((ys.eraseIdx j).map V.str)))
theorem erase_mapS : ∀ (l : List Str) (j : Nat), (l.map V.str).eraseIdx j = (l.eraseIdx j).map V.str
  | [], j => by simp
  | a :: r, 0 => by simp
  | a :: r, j + 1 => by simp [erase_mapS r j]
theorem strs_get {us : List Value} {ys : List Str} (h : StrsAre us ys) {m : Nat} {y : Str} (e : ys[m]? = some y) : ∃ t, us[m]? = some (.str y t) := by
  induction h generalizing m with
  | nil => simp at e
  | cons z t r ih =>
    cases m with
    | zero =>
      have : z = y := by simpa using e
      subst this
      exact ⟨t, rfl⟩
    | succ m => simpa using ih (m := m) (by simpa using e)
theorem mt_removeS : MtM X "list.remove" rRemS := by
  intro pins s σ H x xs v us Q I rx rxs h
  obtain ⟨l, ys, k, j, rfl, rfl, hH, hj, hno, q⟩ := h
  cases rx
  obtain ⟨u, rfl, ru⟩ := rxs.one
  obtain ⟨t, rfl⟩ := ru
  obtain ⟨z, its, n, r, hl, e⟩ := I.lstM hH
  have hi : StrsAre its ys := strs_of_vals r
  rw [List.length_map] at hl z
  have hjn : j < ys.length := (List.getElem?_eq_some_iff.mp hj).1
  have hjl : j < its.toArray.size := by rw [List.size_toArray]; omega
  refine call_meets PySem.F.slot_list_remove ⟨_, e, rfl⟩ PySem.F.entry_list_remove (PySem.F.args_list_remove_2 _ _)
    (MeetsSeq.list_remove l its.toArray n (.str k t) (isStrOf k) (fun y hy => eq_isStrOf k t hi y (by simpa using hy)) j hjl ?_ ?_ (by rw [List.size_toArray]; omega)) ⟨e, ?_⟩
  · obtain ⟨tj, hjt⟩ := strs_get hi hj
    obtain ⟨h1, h2⟩ := List.getElem?_eq_some_iff.mp hjt
    have e1 : its.toArray[j] = .str k tj := by simpa using h2
    rw [e1]
    exact beq_self_eq_true k
  · intro m hm hmj
    have hmn : m < ys.length := by omega
    obtain ⟨tm, hmt⟩ := strs_get hi (List.getElem?_eq_getElem hmn)
    obtain ⟨h1, h2⟩ := List.getElem?_eq_some_iff.mp hmt
    have e1 : its.toArray[m] = .str ys[m] tm := by simpa using h2
    rw [e1]
    refine beq_eq_false_iff_ne.mpr fun e2 => hno m hmj ?_
    rw [List.getElem?_eq_getElem hmn, e2]
  · have rr := r.eraseIdx j
    rw [erase_mapS] at rr
    refine ⟨.non, _, I.lset (its' := its.eraseIdx j) (t' := s.toks) hH e ?_ rr ?_, rfl, q⟩
    · show its.toArray.eraseIdxIfInBounds j = (its.eraseIdx j).toArray
      rw [List.eraseIdxIfInBounds_toArray]
    · rw [List.length_map, List.length_eraseIdx]
      split <;> omega
end
end HX

/-! ### the head's facts and one more Bool -/
namespace He
open PySem PySem.Spec PyProof.Rows L2
def obsX (ex : PySem.W.Frag → Bool) (fa : List Fa) (fn : List DefD) (K : PySem.W.Frag) : AlD := (ex K && (obsD fa fn K).1, (obsD fa fn K).2)
def SaysX (ex : PySem.W.Frag → Bool) (fa : List Fa) (fn : List DefD) (K : PySem.W.Frag) : Prop := obsX ex fa fn K = valD fn
theorem SaysX.both {ex : PySem.W.Frag → Bool} {fa : List Fa} {fn : List DefD} {K : PySem.W.Frag} (h : SaysX ex fa fn K) : ex K = true ∧ SaysD fa fn K := by
  have h0 : obsX ex fa fn K = valD fn := h
  have h1 : (ex K && (obsD fa fn K).1) = true := by
    have e := congrArg Prod.fst h0
    exact e
  have h2 : (obsD fa fn K).2 = (valD fn).2 := by
    have e := congrArg Prod.snd h0
    exact e
  obtain ⟨a, b⟩ := ba h1
  exact ⟨a, Prod.ext b h2⟩
def obsXG (n : Nat) (ex : PySem.W.Frag → Bool) (fa : List Fa) (fn : List DefD) (g : Addr → Option Obj) : AlD := obsX ex fa fn (frG g (asD g n))
def hookX (n : Nat) (ex : PySem.W.Frag → Bool) (fa : List Fa) (fn : List DefD) : PySem.W.Hook where
  α := AlD
  obs := fun s => obsXG n ex fa fn s.heap.get?
  val := fun _ => valD fn
  says := fun _ h => ∃ K : PySem.W.Frag, K.In h ∧ SaysX ex fa fn K
  of := fun _ _ e => ⟨_, frG_in, e⟩
  keeps := fun _ _ _ ⟨K, hK, c⟩ k => ⟨K, PySem.W.Frag.In.keeps hK k, c⟩
theorem obsXG_eq {n : Nat} {ex : PySem.W.Frag → Bool} {fa : List Fa} {fn : List DefD} {g : Addr → Option Obj} {s : Shared} (h : ∀ a, g a = s.heap.get? a) : obsXG n ex fa fn g = (hookX n ex fa fn).obs s := by
  have e : g = s.heap.get? := funext h
  rw [e] <;> rfl
end He

/-! ### the same rules, the fragment named (within a comprehension's block) -/
namespace HX
open PySem PySem.Spec PyProof.Rows L2
section
variable {X : Cx}
theorem pe_fldK (K : PySem.W.Frag) (hK : X.K = K) {e : PySem.Expr} {f : Str} {pos : Pos} {ta : TE} (h : PE X e ta) (hb : attributeBase e f X.env (eval e X.env) = eval e X.env) : PE X (e.Attribute f pos) (tFld K ta f) := by
  subst hK
  exact pe_fld h hb
theorem op_in_seqK (K : PySem.W.Frag) (hK : X.K = K) : OpR X (compareOp .In) (rIn K false) := by
  subst hK
  exact op_in_seq
theorem op_notIn_seqK (K : PySem.W.Frag) (hK : X.K = K) : OpR X (compareOp .NotIn) (rIn K true) := by
  subst hK
  exact op_notIn_seq
theorem sl_listK (K : PySem.W.Frag) (hK : X.K = K) : SlR X (rSlL K) := by
  subst hK
  exact sl_list
theorem sl_tupK (K : PySem.W.Frag) (hK : X.K = K) : SlR X (rSlT K) := by
  subst hK
  exact sl_tup
theorem ix_listK (K : PySem.W.Frag) (hK : X.K = K) : IxR X (rIxL K) := by
  subst hK
  exact ix_list
theorem ix_tupK (K : PySem.W.Frag) (hK : X.K = K) : IxR X (rIxT K) := by
  subst hK
  exact ix_tup
theorem op_catTK (K : PySem.W.Frag) (hK : X.K = K) : OpR X (binaryOp .Add) (rCatT K) := by
  subst hK
  exact op_catT
theorem op_eqDK (K : PySem.W.Frag) (hK : X.K = K) (hu : X.A.units + 64 < cLine) : OpR X (compareOp .Eq) (rEqD K) := by
  subst hK
  exact op_eqD hu
theorem op_neDK (K : PySem.W.Frag) (hK : X.K = K) (hu : X.A.units + 64 < cLine) : OpR X (compareOp .NotEq) (rNeD K) := by
  subst hK
  exact op_neD hu
theorem x_lenLK (K : PySem.W.Frag) (hK : X.K = K) : CallR X (.builtin "len") (xLenL K) := by
  subst hK
  exact x_lenL
theorem pg_tupK (K : PySem.W.Frag) (hK : X.K = K) {pos : Pos} {es : List PySem.Expr} {k : Nat} {t : TGs} {n : Nat} (hc : X.calm = true) (h : PGs X es t) (h1 : (assignEach es X.env).length = n := by rfl) (h2 : (assignEach es X.env).findIdx? (·.1) = none := by rfl) : PG X (.Tuple es k pos) (gTup K n t) := by
  subst hK
  exact pg_tup hc h h1 h2
theorem x_isiK (K : PySem.W.Frag) (hK : X.K = K) : CallR X (.builtin "isinstance") (rIsi K) := by
  subst hK
  exact call_isi
def xDict : List V → Hp → VK → Prop := fun xs H Q => ∃ (a : Addr) (kvs : List (Key × V)), xs = [.ref a] ∧ Rd H a (.dK kvs) ∧ ∀ p, H p = none → Q (.ref p) (upd H p (.dK kvs))
theorem x_dict : CallR X (.type "dict") xDict := call_dictD
def xSortedD : List V → Hp → VK → Prop := fun xs H Q => ∃ (a : Addr) (kvs : List (Key × V)) (ks : List Int), xs = [.ref a] ∧ Rd H a (.dK kvs) ∧ kvs.map (·.1) = ks.map Sum.inl ∧ ks.length < 64 ∧ ∀ (ys : List Int) (p : Addr), ys.Perm ks → ys.Pairwise (· ≤ ·) → H p = none → Q (.ref p) (upd H p (.lst (ys.map V.int)))
theorem x_sortedD (h : X.calm = true) : CallR X (.builtin "sorted") xSortedD := call_sortedDI h
end
end HX

open PySem L2 NdefX
namespace EVX

def excB (K : PySem.W.Frag) (C : Addr) : Bool := match K.lookup C with
  | some ⟨cl, _, .cls cd, sl⟩ => decide (cl = .type "type") && (match cd.mro with | c :: bm => decide (c = .ref C) && HandSPX.refsVE bm | [] => false) && cd.hasDict && !cd.hasDel &&
      (match sl.toList with | [_, _, _, _, some s, _] => decide (s = .builtin "ValueError.__new__") | _ => false)
  | _ => false

theorem excB_ok {K : PySem.W.Frag} {C : Addr} (h : excB K C = true) : ∃ nm q N bs bm sn sub ab col dd k0 k1 k2 k3 k5,
    K.lookup C = some (excClassObj nm q C N bs bm true sn sub ab col dd k0 k1 k2 k3 k5 "ValueError.__new__") ∧ HandSPX.refsVE bm = true := by
  unfold excB at h
  split at h
  case h_2 => cases h
  case h_1 cl dd cd sl hl =>
    simp only [Bool.and_eq_true, decide_eq_true_eq] at h
    obtain ⟨⟨⟨⟨rfl, h1⟩, h2⟩, h2'⟩, h3⟩ := h
    split at h1
    case h_2 => cases h1
    case h_1 c bm hm =>
      simp only [Bool.and_eq_true, decide_eq_true_eq] at h1
      obtain ⟨rfl, hb⟩ := h1
      split at h3
      case h_2 => cases h3
      case h_1 k0 k1 k2 k3 s k5 hs =>
        obtain rfl := of_decide_eq_true h3
        obtain ⟨sl⟩ := sl
        simp only at hs
        subst hs
        obtain ⟨nm, bs, mro, N, q, hd, sn, sub, ab, col, de⟩ := cd
        simp only [Bool.not_eq_true'] at hm h2 h2'
        subst hm h2 h2'
        exact ⟨nm, q, N, bs, bm, sn, sub, ab, col, dd, k0, k1, k2, k3, k5, hl, hb⟩

def oexB (K : PySem.W.Frag) (C : Addr) : Bool :=
  excB K C && decide (PySem.W.findIn K (.ref C) "__setattr__" = some (some (.builtin "object.__setattr__"))) && decide (PySem.W.subIn K (.ref C) (.type "BaseException") = some true) &&
  decide (PySem.W.typeIn K (.ref C) = some (.type "type")) && PySem.W.keepIn K (.ref C)
theorem oexB_ok {K : PySem.W.Frag} {C : Addr} (h : oexB K C = true) : OexC K C := by
  unfold oexB at h
  simp only [Bool.and_eq_true, decide_eq_true_eq] at h
  obtain ⟨⟨⟨⟨h1, h2⟩, h3⟩, h4⟩, h5⟩ := h
  exact ⟨excB_ok h1, h2, h3, h4, h5⟩

def parB (fld : Str) : Arguments → Bool
  | ⟨[], [⟨a, none, _⟩, ⟨b, none, _⟩], none, [], [], none, []⟩ => decide (a = "self") && decide (b = fld)
  | _ => false
def bodyB (fld : Str) : FuncBody → Bool
  | .stmts [.Expr (.Call (.Attribute (.Call (.Name sup _) [] [] _) ini p2) [.Constant (.str _) _ _] [] p4) _, .Assign [.Attribute (.Name sf _) f1 _] (.Name f2 _) _] =>
    decide (sup = "super") && decide (ini = "__init__") && decide (sf = "self") && decide (f1 = fld) && decide (f2 = fld) && (p2.endLine == p4.line)
  | _ => false
def cellB (K : PySem.W.Frag) (D : Addr) : List (Str × Addr) → Bool
  | [(n, cc)] => decide (n = "__class__") && (match K.lookup cc with | some ⟨_, _, .cell (some (.ref D')), _⟩ => decide (D' = D) | _ => false)
  | _ => false
def codeB (K : PySem.W.Frag) (file q : Str) : Value → Bool
  | .ref cda => PySem.W.codeIn K (.ref cda) q && (match K.lookup cda with | some ⟨_, _, .fields vs, _⟩ => (match (vs[2]? : Option Value) with | some (.str fl _) => decide (fl = file) | _ => false) | _ => false)
  | _ => false
def fdB (K : PySem.W.Frag) (file : Str) (D : Addr) (fld : Str) (fd : FuncData) : Bool :=
  decide (fd.name = "__init__") && decide (fd.globals = mainGlobals) && decide (fd.builtins = builtinsNs) && parB fld fd.params && bodyB fld fd.body && cellB K D fd.closure && codeB K file fd.qualname fd.code &&
  decide (fd.defaults = .none) && nscB ["self", fld, "__class__"] ["self", fld] ["__class__"] fd.scope && decide (fd.scope.names.lookup ("super" : Str) = some .globalImplicit)
def atB (K : PySem.W.Frag) (file : Str) (D : Addr) (fld : Str) (f : Addr) : Bool := match K.lookup f with
  | some ⟨_, _, .func fd, _⟩ => fdB K file D fld fd
  | _ => false
def iniB (K : PySem.W.Frag) (file x fld : Str) : Bool :=
  oexB K (He.ga K x) && decide (PySem.W.findIn K (.ref (He.ga K x)) fld = some none) && decide (PySem.W.ks_superIn K (He.ga K x) (He.ga K x) "__init__" = some (some (.builtin "ValueError.__init__"))) &&
  decide (PySem.W.nsIn K cStatics "thirdparty.any" = some none) && decide (PySem.W.subIn K (.ref (He.ga K x)) (.type "ValueError") = some true) && decide (PySem.W.mroIn K (He.ga K x) (.ref (He.ga K x)) = some true) &&
  decide (fld ≠ "__debug__") &&
  (match PySem.W.findIn K (.ref (He.ga K x)) "__init__" with
   | some (some (.ref f)) => decide (PySem.W.typeIn K (.ref f) = some (.type "function")) && atB K file (He.ga K x) fld f
   | _ => false)

theorem ini_ok {CX : CXT} {P : Program} {w : World} {K : PySem.W.Frag} {mg : Str → Option Value} {base : Heap} {k : Nat} {file x fld : Str} (h : iniB K file x fld = true)
    (hP : P.main.file = file) (hsup : (P.main.scope.names.lookup ("super" : Str)).isSome = false) (hmg : mg "super" = none)
    (hb : ∀ (qual : Str) (pa pb : Pos) (body : List Stmt) (scope : Scope) (clo : List (Str × Addr)) (kV doc pm cdv ct : Value) (an : Option Addr) (u0 u1 : Value),
      bindArgs (PySem.W.fnX "__init__" qual ⟨[], [⟨"self", none, pa⟩, ⟨fld, none, pb⟩], none, [], [], none, []⟩ body scope clo .none kV doc pm an cdv ct) { pos := [u0, u1] } = pure [(("self" : Str), u0), (fld, u1)]) :
    OexC K (He.ga K x) ∧ ∃ f fd, PySem.W.findIn K (.ref (He.ga K x)) "__init__" = some (some (.ref f)) ∧ PySem.W.typeIn K (.ref f) = some (.type "function") ∧
      FnOk P w K mg base CX (k + 1) f fd ["self", fld] (sp_ini fld (He.ga K x)) ∧ Binds K fd ["self", fld] [] := by
  unfold iniB at h
  simp only [Bool.and_eq_true, decide_eq_true_eq] at h
  obtain ⟨⟨⟨⟨⟨⟨⟨h1, h2⟩, h3⟩, h4⟩, h5⟩, h6⟩, h7⟩, h8⟩ := h
  refine ⟨oexB_ok h1, ?_⟩
  split at h8
  case h_2 => cases h8
  case h_1 f hf =>
  simp only [Bool.and_eq_true, decide_eq_true_eq] at h8
  obtain ⟨ht, ha⟩ := h8
  unfold atB at ha
  split at ha
  case h_2 => cases ha
  case h_1 oc od fd osl hl =>
  obtain ⟨nm, qual, params, body, scope, gl, clo, dV, kV, doc, pm, an, cdv, ct, bu⟩ := fd
  unfold fdB at ha
  simp only [Bool.and_eq_true, decide_eq_true_eq] at ha
  obtain ⟨⟨⟨⟨⟨⟨⟨⟨⟨rfl, rfl⟩, rfl⟩, hpar⟩, hbody⟩, hcell⟩, hcode⟩, rfl⟩, hn⟩, hsu⟩ := ha
  unfold parB at hpar
  split at hpar
  case h_2 => cases hpar
  case h_1 a pa b pb =>
  simp only [Bool.and_eq_true, decide_eq_true_eq] at hpar
  obtain ⟨rfl, rfl⟩ := hpar
  unfold bodyB at hbody
  split at hbody
  case h_2 => cases hbody
  case h_1 sup p0 p1 ini p2 msg j p3 p4 p5 sf q0 f1 q1 f2 q2 q3 =>
  simp only [Bool.and_eq_true, decide_eq_true_eq] at hbody
  obtain ⟨⟨⟨⟨⟨rfl, rfl⟩, rfl⟩, rfl⟩, rfl⟩, hpos⟩ := hbody
  unfold cellB at hcell
  split at hcell
  case h_2 => cases hcell
  case h_1 n cc =>
  simp only [Bool.and_eq_true, decide_eq_true_eq] at hcell
  obtain ⟨rfl, hcell⟩ := hcell
  split at hcell
  case h_2 => cases hcell
  case h_1 cl cld D' csl hcc =>
  obtain rfl := of_decide_eq_true hcell
  unfold codeB at hcode
  split at hcode
  case h_2 => cases hcode
  case h_1 cda =>
  simp only [Bool.and_eq_true] at hcode
  obtain ⟨hcd, hcode⟩ := hcode
  split at hcode
  case h_2 => cases hcode
  case h_1 ccl cdd cvs ccs hcda =>
  split at hcode
  case h_2 => cases hcode
  case h_1 fl tf hv =>
  obtain rfl := of_decide_eq_true hcode
  refine ⟨f, _, hf, ht, init_of (ar := ⟨"self", none, _⟩) hl hcd hcda hv (by simp [hP]) hsup hcc (by simpa using h7) hpos rfl rfl (nscope_by hn) hsu hmg (oexB_ok h1) h2 h3 h4 h5 h6, ?_⟩
  intro s us X hlen
  match us, hlen with
  | [u0, u1], _ =>
    intro M A E Q hq
    exact wpAny_of_eq (hb _ _ _ _ _ _ _ _ _ _ _ _ _ _) hq

/-- what is known of a class x whose __init__ says super().__init__(text) and puts its argument into fld -/
def IniOk (P : Program) (w : World) (K : PySem.W.Frag) (mg : Str → Option Value) (base : Heap) (x fld : Str) : Prop :=
  OexC K (He.ga K x) ∧ ∃ f fd, PySem.W.findIn K (.ref (He.ga K x)) "__init__" = some (some (.ref f)) ∧ PySem.W.typeIn K (.ref f) = some (.type "function") ∧
      FnOk P w K mg base CX0 1 f fd ["self", fld] (sp_ini fld (He.ga K x)) ∧ Binds K fd ["self", fld] []

theorem pmk_ini {X : Cx} {e : PySem.Expr} {es : List PySem.Expr} {ta : TA} {p pos : Pos} {x fld : Str} (J : IniOk X.prog X.w X.K X.mg X.base x fld) (hr : Room 2 X.A) (hg : Gl X x) (hm : X.mg x = some (.ref (He.ga X.K x)))
    (ha : PA X (e :: es) ta) (h1 : (x == Str.ofString "__debug__") = false := by rfl) (h2 : starEach (e :: es) X.env = (false, eval e X.env) :: starEach es X.env := by rfl)
    (h3 : ((backTo pos (starEach es X.env)).any fun x => x.fst) = false := by rfl) : PMk X (.Call (.Name x p) (e :: es) [] pos) (tMkO (He.ga X.K x) (sp_ini fld (He.ga X.K x)) [] ta) := by
  obtain ⟨T, f, fd, iC, tI, F, B⟩ := J
  exact pmk_oex T iC tI F hr B .nil (fun _ _ _ _ _ _ _ h => h.elim) hg hm ha h1 h2 h3

theorem ini_xd {H1 : Hp} {a d D : Addr} {fld : Str} {v : V} (ha : H1 a = none) (hda : d ≠ a) :
    upd (del (upd (upd (upd H1 a (exo a D none)) d (exd d [(fld, v)])) a (exo a D (some d))) a) d (.xd [(fld, v)]) = upd H1 d (.xd [(fld, v)]) := by
  funext b
  unfold upd del
  by_cases h1 : b = d
  · simp [h1]
  · by_cases h2 : b = a
    · simp [h1, h2, ha, Ne.symm hda]
    · simp [h1, h2]

/-- the making of such an error, with one argument -/
theorem i_ini {H1 : Hp} {D : Addr} {fld : Str} {v : V} {Q : XK} (q : ∀ d, H1 d = none → Q (.ref D) (some d) (upd H1 d (.xd [(fld, v)]))) :
    [v].length ≤ 1000 ∧ ∀ a, H1 a = none → sp_ini fld D (.ref a :: ([v] ++ [])) (upd H1 a (exo a D none))
      (fun u H2 => u = V.non ∧ ∃ d fs, H2 a = some (exo a D (some d)) ∧ H2 d = some (exd d fs) ∧ H1 d = none ∧ Q (.ref D) (some d) (upd (del H2 a) d (.xd fs))) (fun _ _ _ => False) := by
  refine ⟨by simp, fun a ha => ⟨a, v, rfl, by simp [upd], fun d hd hda => ⟨rfl, d, [(fld, v)], by simp [upd], by simp [upd, hda], ?_, ?_⟩⟩⟩
  · simpa [upd, hda] using hd
  · rw [ini_xd ha hda]
    exact q d (by simpa [upd, hda] using hd)

example (qual : Str) (pa pb : Pos) (body : List Stmt) (scope : Scope) (clo : List (Str × Addr)) (kV doc pm cdv ct : Value) (an : Option Addr) (u0 u1 : Value) :
      bindArgs (PySem.W.fnX "__init__" qual ⟨[], [⟨"self", none, pa⟩, ⟨"place", none, pb⟩], none, [], [], none, []⟩ body scope clo .none kV doc pm an cdv ct) { pos := [u0, u1] } = pure [(("self" : Str), u0), (("place" : Str), u1)] := rfl
end EVX

open PySem L2
namespace EVX

def tMethS (C : Addr) (m : Str) (sp : Sp) (dvs : List V) (E : St → XK) (ta : TE) (t : TA) : TE := fun σ H Q =>
  ta σ H fun x H1 => ∃ a dx fs, x = V.ref a ∧ H1 a = some (.ins C dx fs) ∧ List.lookup m fs = none ∧ t σ H1 fun vs H2 => sp (x :: (vs ++ dvs)) H2 Q (E σ)

/-- a method's call that may raise, where the way out depends on the names' values -/
theorem pe_methS {X : Cx} {CX : CXT} {k : Nat} {f C : Addr} {fd : FuncData} {ps : List Str} {sp : Sp} {dvs : List V} {ds : List Value} {E : St → XK} {m : Str} {pos apos : Pos} {e o : PySem.Expr} {es : List PySem.Expr}
    {ta : TE} {t : TA} {pl : Sem Bool} (ho : PE X o ta) (hC : Cls X.K C) (hm : Meth X.K C m f) (F : FnOk X.prog X.w X.K X.mg X.base CX k f fd ps sp) (hr : Room k X.A) (hb : Binds X.K fd ps ds) (hd : Vals dvs ds)
    (hx : ∀ σ, PassesAt CX X σ (E σ)) (ha : PA X (e :: es) t) (h1 : starEach (e :: es) X.env = (false, eval e X.env) :: starEach es X.env := by rfl) (h2 : ((backTo pos (starEach es X.env)).any fun x => x.fst) = false := by rfl)
    (h3 : eval ((o.Attribute m apos).Call (e :: es) [] pos) X.env = (do
        let ov ← eval o X.env
        standAt apos.atName
        let __x ← holding [ov] (getMethod ov m pl)
        match __x with
          | (g0, v0) => callWith pos g0 v0 (backTo pos (starEach (e :: es) X.env)) (backToKw pos (keywordEach [] X.env))) := by rfl) :
    PE X ((o.Attribute m apos).Call (e :: es) [] pos) (tMethS C m sp dvs E ta t) := by
  refine ⟨fun pins s σ H Q I ht => PySem.W.methodCall_KW (thn (ho.run pins s σ H _ I ht) ?_) h3⟩
  rintro u s1 ⟨x, H1, I1, hx1, a, dx, fs, rfl, hat, hl, hs⟩
  cases hx1
  refine getmeth_ok I1 hat hC hm hl ?_
  refine PySem.W.callWith_K I1.ok.mod.kin hm.kp (thn (ha.run pos pins s1 σ H1 _ I1 hs) ?_) h1 h2
  rintro us s2 ⟨vs, H2, I2, hv, hsp⟩
  exact ⟨I2.kIn, run_fnSD F hr hb hd (hx σ) I2 (.cons (show RelV (.ref a) (Value.ref a) from rfl) hv) hsp⟩
theorem takes_no {X : Cx} : Takes X (fun _ _ _ _ => False) := by
  intro u s' h
  obtain ⟨_, _, _, _, _, _, _, _, _, _, _, _, _, _, _, _, f⟩ := h
  exact f.elim
theorem raises_of {X : Cx} {C : Addr} (h : PySem.W.subIn X.K (.ref C) (.type "BaseException") = some true ∧ PySem.W.typeIn X.K (.ref C) = some (.type "type")) : Raises X (.ref C) :=
  fun _ _ hK => ⟨PySem.W.looks_subIn hK h.1, PySem.W.looks_typeIn hK h.2⟩
end EVX

set_option Elab.async false
set_option linter.all false
set_option maxRecDepth 100000
set_option maxHeartbeats 2000000
/-! errors that were caught and are kept by a name: `except X as n: y = n`; isinstance of them; their fields -/
namespace EVV
open PySem PySem.Spec PyProof.Rows L2

/-- a caught error at a: its class, its dict -/
def ErrO (cls : Value) (d : Option Addr) (a : Addr) : HO := .ext fun h => ∃ oe : Obj, h.get? a = some oe ∧ Zc cls d oe ∧ ∃ vs, oe.data = .fields vs
theorem errO_ne {cls : Value} {d : Option Addr} {a : Addr} {o : HO} (h : ∀ φ, o ≠ .ext φ) : ErrO cls d a ≠ o := fun e => h _ (by rw [← e]; rfl)

section
variable {X : Cx} {pins : List (Addr × Obj)} {σ : L2.St} {H : Hp} {s : Shared} {a : Addr} {o : HO}
/-- an object that is there, and not tracked yet, is tracked from now on -/
theorem follow (I : Inv X pins σ H s) (na : H a = none) (n0 : X.s_0.heap.get? a = none) (nL : a ≠ X.env.locals) (nC : ∀ x c, X.env.cells.lookup x = some c → c ≠ a) (nP : ∀ p ∈ X.pn ++ pins, p.1 ≠ a)
    (new : ObjOk X.prog X.w (upd H a o) s.heap a o) : Inv X pins σ (upd H a o) s := by
  have off : ∀ {b : Addr} {u : HO}, H b = some u → upd H a o b = some u := fun {b u} e => (upd_ne (ne_of_none e na)).trans e
  have old : ∀ {b : Addr} {u : Obj}, X.s_0.heap.get? b = some u → b ≠ a := fun {b u} e z => by rw [z, n0] at e; cases e
  constructor
  case ok => exact I.ok
  case os => exact I.os
  case bare => exact I.bare
  case base =>
    have B := I.base
    constructor
    case keep => exact B.keep
    case slot => exact B.slot
    case free => exact fun b u e n x => (upd_ne (old e)).trans (B.free b u e n x)
    case there => exact B.there
    case tups => exact fun b xs e => off (B.tups b xs e)
    case frzs => exact fun b u v e => off (B.frzs b u v e)
    case tbls => exact fun b ps e => (B.tbls b ps e).imp fun m q => off q
  case loc => exact I.loc
  case cell => exact I.cell
  case free => exact (upd_ne nL.symm).trans I.free
  case freeC => exact fun x c e => (upd_ne (nC x c e)).trans (I.freeC x c e)
  case pin =>
    intro p hp
    obtain ⟨e, n, r⟩ := I.pin p hp
    exact ⟨e, (upd_ne (nP p hp)).trans n, r⟩
  case hok =>
    intro b u e
    by_cases hb : b = a
    · rw [hb, upd_same] at e
      cases e
      rw [hb]
      exact new
    · rw [upd_ne hb] at e
      exact (I.hok b u e).stay (fun _ _ _ q => q) (fun _ q => off q) fun _ _ q => off q
  case len => exact I.len
theorem err_ok {cls : Value} {d : Option Addr} {oe : Obj} {vs : Array Value} (ha : s.heap.get? a = some oe) (hz : Zc cls d oe) (hd : oe.data = .fields vs) : ObjOk X.prog X.w (upd H a (ErrO cls d a)) s.heap a (ErrO cls d a) :=
  ⟨⟨oe, ha, hz, vs, hd⟩, ⟨oe, ha⟩, fun _ _ ⟨o1, e, r⟩ k => ⟨o1, k o1 e, r⟩⟩
end

/-- what `except x as n: y = n` wishes of an error of the body: slot i is n's, slot j is y's -/
def wKeep (K : PySem.W.Frag) (c : Value) (i j : Nat) (Wout : WX) (D : Ends) : WX := fun cls d σ H =>
  ∃ b, PySem.W.exmOne K cls c = some b ∧ (b = true → ∀ a, H a = none → D.nx (((σ.set i (some (.ref a))).set j (some (.ref a))).set i none) (upd H a (ErrO cls d a))) ∧ (b = false → Wout cls d σ H)

section
variable {X : Cx} {x n y : Str} {c : Value} {i j : Nat} {body : List Stmt} {np p1 p2 p3 p4 pos : Pos} {tb : WX → TS} {Wout : WX}
theorem ps_try_keep (hex : X.ex = []) (hs : X.stack = X.env :: X.outer) (hf : X.env.frame = some X.env.locals) (hN : X.N.Nodup) (hi : X.N[i]? = some n) (hln : X.env.kindOf n = some .local) (hj : X.N[j]? = some y) (hly : X.env.kindOf y = some .local) (hc : Names X x c) (tk : Takes X Wout)
    (hd1 : (n == ("__debug__" : Str)) = false) (hd2 : (n == ("__classdict__" : Str)) = false)
    (hb : ∀ (W : WX) (pn : List (Addr × Obj)) (xe : Value → Shared → Prop), Takes (X.tr pn xe) W → PassesOwn (model X.prog X.w) X.A X.env xe → PSs (X.tr pn xe) body (tb W)) :
    PS X (.Try body [.ExceptHandler (some (.Name x np)) (some n) [.Assign [.Name y p1] (.Name n p2) p3] p4] [] [] pos) (fun D σ H => tb (wKeep X.K c i j Wout D) D σ H) := by
  refine ⟨fun pins s σ H D I h => wpAny_Try_except ?_⟩
  have okX := I.ok
  have fr : X.A.frames = some (X.env :: X.outer) := okX.frames.trans (congrArg some hs)
  have run := (hb (wKeep X.K c i j Wout D) (X.pn ++ pins) (fun e s1 => wpAny (model X.prog X.w) X.A (noteFrame e X.env) (fun _ s2 => wpAny (model X.prog X.w) X.A (setFlight e none) (fun _ s3 =>
      wpAny (model X.prog X.w) X.A (handleBy e X.env [.ExceptHandler (some (.Name x np)) (some n) [.Assign [.Name y p1] (.Name n p2) p3] p4]) (SP X pins D) X.xe s3) X.xe s2) X.xe s1) ?caught PassesOwn.looking).run [] s σ H D (I.toTry _) h
  case caught =>
    rintro _ s1 ⟨a, B, sI, ps, σ1, H1, cls, d, rfl, I1, nb, up, sky, na, os, ag, b, hb1, yes, no⟩
    have J := I1.ofTry okX
    rw [hs] at sky
    show wpAny (model X.prog X.w) X.A (noteFrame (.ref a) X.env) _ _ _
    refine Sky.land Zc.steady fr hf sky fun h3 fl3 up3 => ?_
    obtain ⟨stay3, new3, ff3, tr3⟩ := id fl3
    have J3 : Inv X pins σ1 H1 { s1 with heap := h3 } := J.landed nb stay3 (up.trans up3) os ag
    obtain ⟨oe3, vs3, he3, hz3, hd3⟩ := fl3.there
    have nfr : a ∉ frs (X.env :: X.outer) := fun hm => by
      obtain ⟨_, u, eu, hnf⟩ := ff3.mem hm
      rw [he3] at eu
      cases eu
      exact hnf _ hd3
    have isL : X.env.locals ∈ frs (X.env :: X.outer) := List.mem_filterMap.mpr ⟨X.env, List.mem_cons_self, hf⟩
    have nL : a ≠ X.env.locals := fun z => nfr (by rw [z]; exact isL)
    have sub : ∀ b ∈ X.fs, b ∈ frs (X.env :: X.outer) := fun b hb => by
      obtain ⟨e, he, q⟩ := List.mem_filterMap.mp hb
      exact List.mem_filterMap.mpr ⟨e, List.mem_cons_of_mem _ he, q⟩
    have nF : a ∉ X.fs := fun hm => nfr (sub a hm)
    -- the error is no object of the state without it
    have gone : sI.heap.get? a = none := by
      cases q : sI.heap.get? a with
      | none => rfl
      | some u =>
        have z := nb a u q (by rw [hs]; exact nfr)
        rw [new3] at z
        cases z
    have n0 : X.s_0.heap.get? a = none := by
      cases q : X.s_0.heap.get? a with
      | none => rfl
      | some u =>
        obtain ⟨u', z⟩ := J.base.there a u q (by rw [hex]; simp)
        rw [gone] at z
        cases z
    have nC : ∀ z c, X.env.cells.lookup z = some c → c ≠ a := fun z c e q => by
      obtain ⟨v, u, hu, _⟩ := J.cell z c e
      rw [q, gone] at hu
      cases hu
    have nP : ∀ p ∈ X.pn ++ pins, p.1 ≠ a := fun p hp q => by
      have z := (J.pin p hp).1
      rw [q, gone] at z
      cases z
    have S3 := J3.suite he3 hd3 na nL nF
    refine wpAny_handleBy_cons (codeAny_handlers_test ?_) (by intro q; cases q)
    have LT : PySem.W.Looks (model X.prog X.w) h3 (typeOf (.ref a)) cls := fun _ _ _ _ k q => wpAny_typeOf_ref (k _ _ he3) (by rw [hz3.1]; exact q)
    have LM := PySem.W.exm_one (M := model X.prog X.w) J3.kIn LT hb1
    have named : ∀ {Q : Value → Shared → Prop} {E : Value → Shared → Prop}, Q c { s1 with heap := h3 } → wpAny (model X.prog X.w) (X.A.mark (some (.ref a))) (eval (.Name x np) X.env) Q E { s1 with heap := h3 } := fun {Q E} q => by
      obtain ⟨hg, hdb, hm | ⟨hm, hv, hnn⟩⟩ := hc
      · exact ld_glob (X := X.suite a ((a, oe3) :: (X.pn ++ pins))) S3 hg hm q hdb
      · exact ld_blt (X := X.suite a ((a, oe3) :: (X.pn ++ pins))) S3 hg hm hv q hnn hdb
    refine named (LM.here ?_)
    cases b with
    | true =>
      refine codeAny_handlers_suite_as (HandSPX.lands_againZ fl3 fun h4 fl4 up4 => ?_)
      have J4 : Inv X pins σ1 H1 { s1 with heap := h4 } := J.landed nb fl4.1 ((up.trans up3).trans up4) os ag
      obtain ⟨oe4, vs4, he4, hz4, hd4⟩ := fl4.there
      have S4 := J4.suite he4 hd4 na nL nF
      refine store_ok (X := X.suite a ((a, oe4) :: (X.pn ++ pins))) (v := .ref a) S4 hN hi (.inl hln) rfl (fun s5 S5 => ?_) (.inr hln)
      have vn : Vis X.env.scope n := .inl hln
      have stm : PSs (X.suite a ((a, oe4) :: (X.pn ++ pins))) [.Assign [.Name y p1] (.Name n p2) p3] (tAsg (tVar i) (gName j)) := pss_one (ps_set (X := X.suite a ((a, oe4) :: (X.pn ++ pins))) hN hj (.inl hly) (pe_var hi vn hd1 hd2) rfl (.inr hly))
      have hiσ : i < σ1.length := by
        rw [J.len]
        exact (List.getElem?_eq_some_iff.mp hi).1
      refine wpAny_mono (stm.run [] s5 _ H1 { nx := fun σ' H' => σ' = ((σ1.set i (some (.ref a))).set j (some (.ref a))) ∧ H' = H1, rt := fun _ _ => False } S5 ⟨.ref a, by rw [List.getElem?_set_self hiσ], rfl, rfl⟩) (fun f s6 hsp => ?_) (fun _ _ z => False.elim z)
      cases f with
      | next =>
        obtain ⟨σ6, H6, S6, rfl, rfl⟩ := hsp
        have pa := (S6.pin (a, oe4) (List.mem_append_left _ List.mem_cons_self)).1
        have J6 := follow (S6.unsuite okX) na n0 nL nC nP (err_ok pa hz4 hd4)
        exact gone_ok J6 hN hi hln fun s7 J7 => ⟨_, _, J7, yes rfl a na⟩
      | brk => exact False.elim hsp.choose_spec.choose_spec.2
      | cont => exact False.elim hsp.choose_spec.choose_spec.2
      | ret u =>
        obtain ⟨_, _, _, _, _, z⟩ := hsp
        exact False.elim z
    | false =>
      show wpAny _ X.A (handleBy (.ref a) X.env []) _ _ _
      refine wpAny_handleBy_nil ?_
      obtain ⟨_, _, _, oe, vs, T, oT, ts', he, hz, hd, h1, hr⟩ := id fl3
      unfold PySem.passOn
      refine wpAny_bind (wpAny_field he hd h1 ?_)
      rw [if_neg (show ¬ ((Value.ref T == Value.none) = true) from by simp)]
      have on : wpAny (model X.prog X.w) X.A (setFlight (.ref a) X.env.frame) (fun _ s4 => wpAny (model X.prog X.w) X.A (throw (.ref a) : Sem Flow) (SP X pins D) X.xe s4) X.xe { s1 with heap := h3 } := by
        rw [hf]
        refine HandSPX.setFlight_upZ fl3 fun h4 hh4 up4 => wpAny_throw (tk _ _ ⟨a, B, sI, pins, σ1, H1, cls, d, rfl, J, nb, (up.trans up3).trans up4, .inr (.inr ?_), na, os, ag, no rfl⟩)
        rw [hs]
        exact hh4
      first
        | exact wpAny_bind (wpAny_pure (wpAny_bind on))
        | exact wpAny_bind on
  refine wpAny_mono run (fun f s1 hsp => ?_) (fun _ _ z => z)
  cases f with
  | next =>
    obtain ⟨σ1, H1, J, q⟩ := hsp
    exact wpAny_execs_nil ⟨σ1, H1, J.ofTry okX, q⟩
  | brk => exact hsp.imp fun σ1 z => z.imp fun H1 z => ⟨z.1.ofTry okX, z.2⟩
  | cont => exact hsp.imp fun σ1 z => z.imp fun H1 z => ⟨z.1.ofTry okX, z.2⟩
  | ret u =>
    obtain ⟨v, σ1, H1, J, r, q⟩ := hsp
    exact ⟨v, σ1, H1, J.ofTry okX, r, q⟩
end

/-! ### isinstance of a caught error, its fields -/
namespace W
open PySem.W PySem.Calls
variable {prog : Program} {w : World} {A : Around} {E : Value → Shared → Prop} {s : Shared} {K : Frag} {x D : Addr} {ox : Obj} {od : Option Obj}
theorem found {a g : Value} {n : Str} (hc : (clsIn K D).isSome = true) (ha : findIn K (.ref D) n = some (some a)) (hg : specialIn K a "__get__" = some (some g)) (ht : takesIn K a = some true) : findObj K D od n = some (.bind g a) := by
  cases e : clsIn K D with
  | none => rw [e] at hc; cases hc
  | some cd =>
    unfold findObj
    rw [e, Option.bind_some, ha, Option.bind_some]
    simp [hg, ht]
theorem class_of {Q : Option Value → Shared → Prop} (C : ExcC K D) (X : K.In s.heap) (I : InstAt s.heap x ox D od) (h : Q (some (.ref D)) { s with toks := s.toks + 1 }) :
    wpAny (model prog w) A (getAttr? (.ref x) "__class__") Q E s := by
  obtain ⟨cd0, hcd, _⟩ := any_some C.hd
  have at3 := looks_find (M := model prog w) X I (found (od := od) (by rw [hcd]; rfl) C.ha C.hn C.ht)
  have at0 := I.type (M := model prog w)
  have at1 := looks_findIn (M := model prog w) X C.hg
  have at2 := looks_findIn (M := model prog w) X C.hk
  obtain ⟨hp, g, dr, t, os⟩ := s
  have under : Looks (model prog w) hp (isInstance (Value.ref x) (Value.type "BaseException")) true := at0.andThen (looks_subIn X C.hs)
  have no1 : (Value.builtin "BaseException.__getattribute__" == Value.builtin "object.__getattribute__") = false := by decide +kernel
  have no2 : (onTheHeap (Value.ref D) && Value.builtin "BaseException.__getattribute__" == Value.builtin "object.__getattribute__") = false := by rw [no1] <;> rfl
  have no3 : (false && onTheHeap (Value.builtin "BaseException.__getattribute__")) = false := rfl
  unfold getAttr? getAttrBy? getAttrBy; refine wpAny_bind (wpAny_mkText (wpAny_bind (wpAny_attempt (wpAny_holding (wpAny_bind (at0.at (wpAny_bind (at1.at ?_))))))))
  show wpAny _ _ (if (onTheHeap (Value.ref D) && Value.builtin "BaseException.__getattribute__" == Value.builtin "object.__getattribute__") = true then _ else _) _ _ ⟨hp, g, dr, t + 1, os⟩
  rw [no2, if_neg Bool.false_ne_true]; unfold getAttrByItsOwn hookBefore; refine wpAny_bind ?_
  rw [if_pos (show onTheHeap (Value.ref D) = true from rfl)]; refine at2.at (wpAny_bind (wpAny_attempt (wpAny_holding ?_)))
  unfold callGetattribute; rw [no3, if_neg Bool.false_ne_true]
  unfold boundAndCalled; rw [PySem.F.excAttr_ValueError.ga.bind (.ref x)]; refine wpAny_bind (wpAny_pure ?_)
  show wpAny _ _ (call (.builtin "BaseException.__getattribute__") [.ref x, .str "__class__" t]) _ _ ⟨hp, g, dr, t + 1, os⟩
  refine wpAny_call (codeAny_call_builtin PySem.F.excAttr_ValueError.ga.plain PySem.F.entry_bexc_ga (@check_slot (model prog w) _ _ ⟨hp, g, dr, t + 1, os⟩ "BaseException.__getattribute__" "BaseException" "__getattribute__" (.ref x) [.str "__class__" t] [] _ (by decide +kernel) (by decide +kernel) under (PySem.F.args_bexc_ga (.ref x) (.str "__class__" t)) ?_))
  unfold Builtin.«object.__getattribute__»; refine wpAny_bind (wpAny_of_eq (a := ((Value.ref x : Value), [Value.str "__class__" t])) (by first | rfl | (simp only [slotArgs]; rfl)) ?_)
  refine wpAny_bind (wpAny_pure (wpAny_bind (at0.at (wpAny_bind (at3.at ?_)))))
  show wpAny _ _ (holding [Value.builtin "object.__class__"] (call (.builtin "getset_descriptor.__get__") [.builtin "object.__class__", .ref x, .ref D]) >>= ret) _ _ ⟨hp, g, dr, t + 1, os⟩
  refine wpAny_bind (wpAny_holding (wpAny_call (class_get (s := ⟨hp, g, dr, t + 1, os⟩) (ox := ox) (od := od) X I C.hm (wpAny_pure ?_))))
  show wpAny _ _ (handedOut (.ref D)) _ _ ⟨hp, g, dr, t + 1, os⟩
  rw [handedOut_of (v := .ref D) rfl]; first | exact wpAny_pure (wpAny_pure h) | exact wpAny_pure h | exact wpAny_pure (wpAny_bind (wpAny_pure (wpAny_pure h)))
/-- an instance of an own class of errors, for isinstance -/
theorem kit_err (C : ExcC K D) : KitX K (.ref x) (.ref D) (fun h => ∃ ox od, InstAt h x ox D od) := by
  obtain ⟨cd0, hcd, _⟩ := any_some C.hd
  constructor
  case ty => exact fun _ _ _ ⟨_, _, I⟩ => I.type
  case it =>
    intro M h X _
    unfold clsIn at hcd
    split at hcd
    · rename_i ho
      intro A' Q' E' s' k q
      unfold isType loadHead
      exact wpAny_bind (wpAny_loadPart (k _ _ (X _ _ ho)) (wpAny_pure q))
    · cases hcd
  case ne =>
    intro h tp dd its n sl X htp
    cases q : (Value.ref D == .ref tp) with
    | false => rfl
    | true =>
      have e : D = tp := Value.ref.inj (beq_iff_eq.mp q)
      subst e
      unfold clsIn at hcd
      split at hcd
      · rename_i ho
        have z := X _ _ ho
        rw [htp] at z
        cases z
      · cases hcd
  case ca => exact fun X ⟨_, _, I⟩ k => class_of C X I k
end W
section
variable {X : Cx}
/-- the dict of an error, where it has one, is told -/
def DictOk (H : Hp) : Option Addr → Prop
  | none => True
  | some dd => ∃ fs, H dd = some (.xd fs)
theorem inst_of {pins : List (Addr × Obj)} {σ : L2.St} {H : Hp} {s : Shared} {a D : Addr} {d : Option Addr} (I : Inv X pins σ H s) (e : H a = some (ErrO (.ref D) d a)) (k : DictOk H d) : ∃ ox od, PySem.W.InstAt s.heap a ox D od := by
  obtain ⟨⟨oe, ha, hz, vs, hd⟩, _⟩ := I.hok a _ e
  cases d with
  | none => exact ⟨oe, none, ha, hz.1, by unfold PySem.W.notCls; rw [hd], by rw [hz.2]; trivial⟩
  | some dd =>
    obtain ⟨fs, ed⟩ := k
    obtain ⟨mA, hns, _⟩ : ObjOk X.prog X.w H s.heap dd (.xd fs) := I.hok dd _ ed
    obtain ⟨od, ho, _⟩ := lookIn_ns hns
    exact ⟨oe, some od, ha, hz.1, by unfold PySem.W.notCls; rw [hd], by rw [hz.2]; exact ho⟩
/-- isinstance(e, c) where e is a caught error, or anything else that is told of -/
def rIsE (K : PySem.W.Frag) : List V → Hp → VK → Prop := fun xs H Q => rIsi K xs H Q ∨ ∃ (a D : Addr) (d : Option Addr) (c : V) (u : Value) (b : Bool), xs = [.ref a, c] ∧ ClsV c u ∧ H a = some (ErrO (.ref D) d a) ∧ DictOk H d ∧ ExcC K D ∧ PySem.W.kitOne K (.ref D) u = some b ∧ Q (.bl b) H
theorem call_isE : CallR X (.builtin "isinstance") (rIsE X.K) := by
  intro pins s σ H xs us Q I r h
  rcases h with h | ⟨a, D, d, c, u, b, rfl, hc, e, k, C, hk, q⟩
  · exact call_isi pins s σ H xs us Q I r h
  · cases r with
    | cons r1 r =>
      cases r with
      | cons r2 r =>
        cases r
        cases r1
        have e2 := hc.eq r2
        subst e2
        exact PySem.W.kia_one (W.kit_err C) I.kIn (inst_of I e k) hk (fun z => nomatch z) fun tk => ⟨.bl b, H, I.kept (t' := tk) fun _ _ z => z, rfl, q⟩
/-- e.f where e is a caught error -/
def tErrF (K : PySem.W.Frag) (te : TE) (f : Str) : TE := fun σ H Q => te σ H fun x H1 => ∃ (a C dd : Addr) (fs : List (Str × V)) (v : V), x = .ref a ∧ H1 a = some (ErrO (.ref C) (some dd) a) ∧ XfC K C ∧ PySem.W.findIn K (.ref C) f = some none ∧ H1 dd = some (.xd fs) ∧ fs.lookup f = some v ∧ Q v H1
theorem pe_errF {e : PySem.Expr} {te : TE} {pos : Pos} {f : Str} (he : PE X e te) (hb : attributeBase e f X.env (eval e X.env) = eval e X.env := by rfl) : PE X (.Attribute e f pos) (tErrF X.K te f) := by
  refine ⟨fun pins s σ H Q I h => attr_of hb (thn (he.run pins s σ H _ I h) fun u s1 hh => ?_)⟩
  obtain ⟨_, H1, I1, r1, a, C, dd, fs, v, rfl, ea, T, hno, ed, l, q⟩ := hh
  cases r1
  obtain ⟨⟨oe, ha, hz, vs, hd⟩, _⟩ := I1.hok a _ ea
  obtain ⟨mA, hns, hr⟩ : ObjOk X.prog X.w H1 s1.heap dd (.xd fs) := I1.hok dd _ ed
  obtain ⟨od, ho, hl⟩ := lookIn_ns hns
  obtain ⟨u, hu, ru⟩ := RelO.some_of (v := v) (o := mA f) (by rw [← l]; exact hr f)
  have J : PySem.W.InstAt s1.heap a oe C (some od) := ⟨ha, hz.1, by unfold PySem.W.notCls; rw [hd], by rw [hz.2]; exact ho⟩
  exact HandSPX.exc_get I1.kIn J T.ga T.gg T.exC (PySem.W.findObj_own T.hdC hno rfl (by rw [hl, hu])) (handed_of ru) ⟨v, H1, I1.tok _, ru, q⟩
end
/-! ### two promises of one def -/
theorem fn_or {CX : CXT} {P : Program} {w : World} {K : PySem.W.Frag} {mg : Str → Option Value} {base : Heap} {i j k : Nat} {f : Addr} {fd : FuncData} {ps : List Str} {sp1 sp2 : Sp} (F0 : FnOk P w K mg base C8.CX0 i f fd ps sp1) (F : FnOk P w K mg base CX j f fd ps sp2) (hi : i ≤ k) (hj : j ≤ k) :
    FnOk P w K mg base CX k f fd ps (fun vs H Q E => sp1 vs H Q E ∨ sp2 vs H Q E) := by
  refine ⟨fun vs H Q E h => h.elim (F0.len vs H Q E) (F.len vs H Q E), fun A outer s H args us vs Q E hr e0 hb rv h => ?_⟩
  rcases h with h | h
  · refine codeAny_mono (F0.run A outer s H args us vs Q E (hr.mono hi) e0 hb rv h) fun r s' hq => ?_
    cases r with
    | error e => exact False.elim hq
    | ok fl =>
      cases fl with
      | ret u => exact hq
      | next => exact hq
      | brk => exact hq
      | cont => exact hq
  · exact F.run A outer s H args us vs Q E (hr.mono hj) e0 hb rv h
/-! ### odd values -/
/-- a value that is no text, and what isinstance says of it -/
def HasTy (K : PySem.W.Frag) (H : Hp) (v : V) (n : String) : Prop := TyX K H v (.type n)
theorem HasTy.isi {K : PySem.W.Frag} {H : Hp} {v : V} {n m : String} {b : Bool} {Q : VK} (h : HasTy K H v n) (e : kitB n m = some b) (q : Q (.bl b) H) : rIsi K [v, .ty m] H Q := ⟨_, _, _, _, _, rfl, .ty _, h, kit_ty e, q⟩
section
variable {X : Cx}
/-- == of anything that is told of: data, or dicts of plain values -/
def rEqAny (K : PySem.W.Frag) : R2 := fun x y H Q => rEqD K x y H Q ∨ rEqDA x y H Q
theorem op_eqAny (hu : X.A.units + 64 < cLine) : OpR X (compareOp .Eq) (rEqAny X.K) := by
  intro pins s σ H x y v u Q I rx ry h
  rcases h with h | h
  · exact op_eqD hu pins s σ H x y v u Q I rx ry h
  · exact op_eq_dictA (by omega) pins s σ H x y v u Q I rx ry h
/-- list.count of a plain value -/
def rCntF (K : PySem.W.Frag) : V → List V → Hp → VK → Prop := fun x xs H Q => ∃ (p : Addr) (ys : List V) (y : V), x = .ref p ∧ xs = [y] ∧ SqL K H p ys ∧ flatV y = true ∧ ys.all flatV = true ∧ Q (.int (ys.countP (fun z => eqV z y) : Nat)) H
theorem count_flat {y : V} : ∀ {ys : List V} {us : List Value}, Vals ys us → ys.all flatV = true → us.countP (eqU y) = ys.countP (fun z => eqV z y)
  | _, _, .nil, _ => rfl
  | a :: r, _, .cons ru rr, f => by
    rw [List.all_cons, Bool.and_eq_true] at f
    rw [List.countP_cons, List.countP_cons, count_flat rr f.2, eqU_of ru f.1]
theorem mt_lcountF : MtR X "list.count" (rCntF X.K) := by
  intro pins s σ H x xs v us Q I rx rxs h
  obtain ⟨p, ys, y, rfl, rfl, hs, fy, fys, q⟩ := h
  cases rx
  obtain ⟨uy, rfl, ry⟩ := rxs.one
  obtain ⟨its, rv, ⟨⟨c, dd, data, sl⟩, n, ho, hc, hdn, hd⟩, hlen⟩ := I.list hs
  dsimp only at hc hd
  subst hc hd
  refine call_meets PySem.F.slot_list_count ⟨_, ho, rfl⟩ PySem.F.entry_list_count (PySem.F.args_list_count_2 _ _) (SeqAt.list_countAt p its.toArray n dd sl uy (eqU y)) ⟨ho, fun u hu => mem_eqAt ry fy rv fys u (by simpa using hu), ?_⟩
  refine ⟨.int (ys.countP (fun z => eqV z y) : Nat), H, I.tok _, ⟨s.toks, ?_⟩, q⟩
  have e : its.toArray.toList.countP (eqU y) = ys.countP (fun z => eqV z y) := count_flat rv fys
  show Value.int ((its.toArray.toList.countP (eqU y) : Nat) : Int) s.toks = _
  rw [e]
end
section
variable {K : PySem.W.Frag} {H : Hp} {Q : VK}
theorem i_cntF {p : Addr} {ys : List V} {y : V} (h : SqL K H p ys) (fy : flatV y = true) (fys : ys.all flatV = true) (q : Q (.int (ys.countP (fun z => eqV z y) : Nat)) H) : rCntF K (.ref p) [y] H Q := ⟨p, ys, y, rfl, rfl, h, fy, fys, q⟩
theorem i_isEv {a D : Addr} {d : Option Addr} {c : V} {u : Value} {b : Bool} (hc : ClsV c u) (e : H a = some (ErrO (.ref D) d a)) (k : DictOk H d) (C : ExcC K D) (hk : PySem.W.kitOne K (.ref D) u = some b) (q : Q (.bl b) H) : rIsE K [.ref a, c] H Q := .inr ⟨a, D, d, c, u, b, rfl, hc, e, k, C, hk, q⟩
end
/-! ### what the head's fragment must say of a class of errors, as a Bool -/
def excCB (K : PySem.W.Frag) (D : Addr) : Bool :=
  decide (PySem.W.findIn K (.ref D) "__getattribute__" = some (some (.builtin "BaseException.__getattribute__"))) && (decide (PySem.W.findIn K (.ref D) "__getattr__" = some none) && (decide (PySem.W.subIn K (.ref D) (.type "BaseException") = some true) && (PySem.W.hasDictIn K D &&
  (decide (PySem.W.findIn K (.ref D) "__class__" = some (some (.builtin "object.__class__"))) && (decide (PySem.W.specialIn K (.builtin "object.__class__") "__get__" = some (some (.builtin "getset_descriptor.__get__"))) && (decide (PySem.W.takesIn K (.builtin "object.__class__") = some true) && decide (PySem.W.mroIn K D (.type "object") = some true)))))))
theorem excCB_ok {K : PySem.W.Frag} {D : Addr} (h : excCB K D = true) : ExcC K D := by
  unfold excCB at h
  simp only [Bool.and_eq_true, decide_eq_true_eq] at h
  obtain ⟨h1, h2, h3, h4, h5, h6, h7, h8⟩ := h
  exact ⟨h1, h2, h3, h4, h5, h6, h7, h8⟩
/-- isinstance of an error of the class D: of these own classes D alone, and ValueError -/
def kindB (K : PySem.W.Frag) (D : Str) (cs : List Str) : Bool :=
  (cs.all fun c => decide (PySem.W.kitOne K (.ref (He.ga K D)) (.ref (He.ga K c)) = some (decide (c = D)))) && decide (PySem.W.kitOne K (.ref (He.ga K D)) (.type "ValueError") = some true)
structure Kind (K : PySem.W.Frag) (D : Str) (cs : List Str) : Prop where
  C : ExcC K (He.ga K D)
  own : ∀ c ∈ cs, PySem.W.kitOne K (.ref (He.ga K D)) (.ref (He.ga K c)) = some (decide (c = D))
  ve : PySem.W.kitOne K (.ref (He.ga K D)) (.type "ValueError") = some true
theorem kind_ok {K : PySem.W.Frag} {D : Str} {cs : List Str} (h1 : excCB K (He.ga K D) = true) (h2 : kindB K D cs = true) : Kind K D cs := by
  unfold kindB at h2
  simp only [Bool.and_eq_true, decide_eq_true_eq, List.all_eq_true] at h2
  exact ⟨excCB_ok h1, h2.1, h2.2⟩
/-- e.f of a class of errors that keeps one value -/
def fldB (K : PySem.W.Frag) (D f : Str) : Bool := xfB K (He.ga K D) && decide (PySem.W.findIn K (.ref (He.ga K D)) f = some none)
theorem fldB_ok {K : PySem.W.Frag} {D f : Str} (h : fldB K D f = true) : XfC K (He.ga K D) ∧ PySem.W.findIn K (.ref (He.ga K D)) f = some none := by
  unfold fldB at h
  simp only [Bool.and_eq_true, decide_eq_true_eq] at h
  exact ⟨xfB_ok h.1, h.2⟩
section
variable {K : PySem.W.Frag} {H : Hp} {Q : VK} {te : TE} {σ : L2.St} {f : Str}
def kErrF (K : PySem.W.Frag) (f : Str) (Q : VK) : VK := fun x H1 => ∃ (a C dd : Addr) (fs : List (Str × V)) (v : V), x = .ref a ∧ H1 a = some (ErrO (.ref C) (some dd) a) ∧ XfC K C ∧ PySem.W.findIn K (.ref C) f = some none ∧ H1 dd = some (.xd fs) ∧ fs.lookup f = some v ∧ Q v H1
theorem i_errF (q : te σ H (kErrF K f Q)) : tErrF K te f σ H Q := q
theorem i_kErrF {a dd : Addr} {D : Str} {v : V} (e : H a = some (ErrO (.ref (He.ga K D)) (some dd) a)) (T : XfC K (He.ga K D) ∧ PySem.W.findIn K (.ref (He.ga K D)) f = some none) (ed : H dd = some (.xd [(f, v)])) (q : Q v H) : kErrF K f Q (.ref a) H :=
  ⟨a, _, dd, [(f, v)], v, rfl, e, T.1, T.2, ed, by simp [List.lookup], q⟩
end
theorem ty_same {K : PySem.W.Frag} {H H' : Hp} {v : V} {t : Value} (h : TyX K H v t) (m : ∀ a o, H a = some o → H' a = some o) : TyX K H' v t := by
  cases h with
  | base b =>
    refine .base ?_
    cases b with
    | non => exact .non
    | bl x => exact .bl x
    | int i => exact .int i
    | str x => exact .str x
    | flt x => exact .flt x
    | lst e => exact .lst (m _ _ e)
    | frz e => exact .frz (m _ _ e)
    | tup e => exact .tup (m _ _ e)
    | dK e => exact .dK (m _ _ e)
    | dT e => exact .dT (m _ _ e)
    | ins e cl ha hn htk hm => exact .ins (m _ _ e) cl ha hn htk hm
  | byt b => exact .byt b
  | set e => exact .set (m _ _ e)
  | kList e c => exact .kList e c
  | kTuple e c => exact .kTuple e c
  | kDict e c => exact .kDict e c
  | fTuple e => exact .fTuple (m _ _ e)
  | fDict e => exact .fDict (m _ _ e)
end EVV

set_option Elab.async false
set_option linter.all false
set_option maxRecDepth 100000
set_option maxHeartbeats 2000000
/-! HXw: steps of a reading over attributes, methods, makings, dicts and their views, sets, tuples. -/
namespace HX
open PySem PySem.Spec PyProof.Rows L2
def kFld (K : PySem.W.Frag) (f : Str) (Q : VK) : VK := fun x H1 => ∃ a C dx fs v, x = .ref a ∧ H1 a = some (.ins C dx fs) ∧ Cls K C ∧ NoAttr K C f ∧ fs.lookup f = some v ∧ Q v H1
def kSFld (K : PySem.W.Frag) (f : Str) (y : V) (D : Ends) (σ : L2.St) : VK := fun x H2 => ∃ a C dx fs, x = .ref a ∧ H2 a = some (.ins C dx fs) ∧ Cls K C ∧ NoAttr K C f ∧ fs.length < 1000 ∧ D.nx σ (upd H2 a (.ins C dx (putF f y fs)))
def kMeth (m : Str) (sp : Sp) (dvs : List V) (E : XK) (t : TA) (σ : L2.St) (Q : VK) : VK := fun x H1 => ∃ a C dx fs, x = .ref a ∧ H1 a = some (.ins C dx fs) ∧ fs.lookup m = none ∧ t σ H1 fun vs H2 => sp (x :: (vs ++ dvs)) H2 Q E
def kFldAug (K : PySem.W.Frag) (tv : TE) (rd : V → V → Hp → VK → Prop) (f : Str) (D : Ends) (σ : L2.St) : VK := fun x H1 => ∃ a C dx fs v, x = .ref a ∧ H1 a = some (.ins C dx fs) ∧ Cls K C ∧ NoAttr K C f ∧ fs.lookup f = some v ∧ tv σ H1 fun y H2 => rd v y H2 fun z H3 => ∃ dx' fs', H3 a = some (.ins C dx' fs') ∧ fs'.length < 1000 ∧ D.nx σ (upd H3 a (.ins C dx' (putF f z fs')))
def kVals (R : It → Hp → Prop) : VK := fun x H1 => ∃ d o kvs, x = .ref d ∧ H1 d = some (.frz o (.dK kvs)) ∧ R (Itd d o kvs) H1
def kItems (R : It → Hp → Prop) : VK := fun x H1 => ∃ d o kvs, x = .ref d ∧ H1 d = some (.frz o (.dK kvs)) ∧ R (Iti d o kvs) H1
def kDGet (x : V) (Q : VK) : VK := fun y H2 => ∃ a v, x = .ref a ∧ DGet H2 a y (some v) ∧ Q v H2
def kDPut (x v : V) (D : Ends) (σ : L2.St) : VK := fun y H3 => ∃ a H4, x = .ref a ∧ DPut H3 a y v H4 ∧ D.nx σ H4
def kDIn (y : V) (Q : VK) : VK := fun x H2 => ∃ a o, x = .ref a ∧ DGet H2 a y o ∧ Q (.bl o.isSome) H2
def kDNotIn (y : V) (Q : VK) : VK := fun x H2 => ∃ a o, x = .ref a ∧ DGet H2 a y o ∧ Q (.bl !o.isSome) H2
def kDPop1 (ty : TE) (σ : L2.St) (Q : VK) : VK := fun x H1 => ∃ a, x = .ref a ∧ IsD H1 a ∧ ty σ H1 fun y H2 => ∃ kvs k v, H2 a = some (.dK kvs) ∧ y = kV k ∧ valV kvs k = some v ∧ Q v (upd H2 a (.dK (dropK kvs k)))
def kDDel (x : V) (D : Ends) (σ : L2.St) : VK := fun y H2 => ∃ a kvs k, x = .ref a ∧ H2 a = some (.dK kvs) ∧ y = kV k ∧ (valV kvs k).isSome = true ∧ D.nx σ (upd H2 a (.dK (dropK kvs k)))
def DcW (J : It) (g : TG) (tt : TT) (tk tv : TE) (vs : List Nat) (σ : L2.St) (H1 : Hp) (Q : VK) : Prop := ∀ D, H1 D = none → ∃ W : Nat → Nat → Hp → Prop, (∃ m, W 0 m (upd H1 D (.dK []))) ∧ ∀ i m H, W i m H →
  (J.stop i H ∧ Q (.ref D) H) ∨ (J.go i H ∧ ∃ Nx : Hp → Prop, (∀ H', Nx H' → ∃ m', m' < m ∧ W (i + 1) m' H') ∧ ∀ x H', J.yld i H x H' → g x (wipe σ vs) H' fun σ2 H2 => wipe σ2 vs = wipe σ vs ∧ tt σ2 H2 fun b H3 =>
    if b = true then tk σ2 H3 fun y H4 => tv σ2 H4 fun z H5 => ∃ kvs k, y = kV k ∧ H5 D = some (.dK kvs) ∧ kvs.length < sizeLine ∧ Nx (upd H5 D (.dK (putK kvs k z))) else Nx H3)
def kEnum (K : PySem.W.Frag) (R : It → Hp → Prop) : List V → Hp → Prop := fun vs H1 => ∃ a xs, vs = [.ref a] ∧ SqL K H1 a xs ∧ R (Ite K a) H1
section
variable {K : PySem.W.Frag} {σ : L2.St} {H : Hp} {i : Nat} {v x y z : V} {ta tb te tc td tv ty tk : TE} {tas : TA} {Q : VK} {D : Ends} {t u : TS} {g : TG} {tt : TT} {R : It → Hp → Prop} {a C dx : Addr} {fs : List (Str × V)} {f : Str} {sp : Sp} {dvs : List V} {E : XK} {kvs : List (Key × V)} {k : Key} {QB : Bool → Hp → Prop}
theorem i_fld (q : ta σ H (kFld K f Q)) : tFld K ta f σ H Q := q
theorem i_kFld (h : H a = some (.ins C dx fs)) (c1 : Cls K C) (c2 : NoAttr K C f) (e : fs.lookup f = some v) (q : Q v H) : kFld K f Q (.ref a) H := ⟨a, C, dx, fs, v, rfl, h, c1, c2, e, q⟩
theorem i_sfld (q : tv σ H fun y H1 => ta σ H1 (kSFld K f y D σ)) : sFld K ta tv f D σ H := q
theorem i_kSFld (h : H a = some (.ins C dx fs)) (c1 : Cls K C) (c2 : NoAttr K C f) (e : fs.length < 1000) (q : D.nx σ (upd H a (.ins C dx (putF f y fs)))) : kSFld K f y D σ (.ref a) H := ⟨a, C, dx, fs, rfl, h, c1, c2, e, q⟩
theorem i_meth (q : ta σ H (kMeth f sp dvs E tas σ Q)) (hC : ∀ a C' dx fs, H a = some (.ins C' dx fs) → C' = C) : True := trivial
def kMethC (C : Addr) (m : Str) (sp : Sp) (dvs : List V) (E : XK) (t : TA) (σ : L2.St) (Q : VK) : VK := fun x H1 => ∃ a dx fs, x = .ref a ∧ H1 a = some (.ins C dx fs) ∧ fs.lookup m = none ∧ t σ H1 fun vs H2 => sp (x :: (vs ++ dvs)) H2 Q E
theorem i_methC (q : ta σ H (kMethC C f sp dvs E tas σ Q)) : tMeth C f sp dvs E ta tas σ H Q := q
theorem i_kMethC (h : H a = some (.ins C dx fs)) (e : fs.lookup f = none) (q : tas σ H fun vs H2 => sp (.ref a :: (vs ++ dvs)) H2 Q E) : kMethC C f sp dvs E tas σ Q (.ref a) H := ⟨a, dx, fs, rfl, h, e, q⟩
theorem i_make (q : tas σ H fun vs H1 => ∀ x dx : Addr, H1 x = none → H1 dx = none → dx ≠ x → sp (.ref x :: (vs ++ dvs)) (upd (upd H1 dx (.own x)) x (.ins C dx [])) (fun v H2 => v = .non ∧ Q (.ref x) H2) E) : tMake C sp dvs E tas σ H Q := q
theorem i_fldaug {rd : V → V → Hp → VK → Prop} (q : ta σ H (kFldAug K tv rd f D σ)) : sFldAug K ta tv rd f D σ H := q
theorem i_kFldAugI {j : Int} {m : Int} (h : H a = some (.ins C dx fs)) (c1 : Cls K C) (c2 : NoAttr K C f) (e : fs.lookup f = some (.int j)) (n : fs.length < 1000) (q : D.nx σ (upd H a (.ins C dx (putF f (.int (j + m)) fs)))) : kFldAug K (tC (.int m)) rAdd f D σ (.ref a) H := ⟨a, C, dx, fs, .int j, rfl, h, c1, c2, e, ⟨j, m, rfl, rfl, dx, fs, h, n, q⟩⟩
theorem i_lock {d : Addr} {o : HO} (h : H d = some o) (c : Mut (some o)) (q : ∀ od, t { nx := fun σ' H' => H' d = some (.frz od o) ∧ D.nx σ' (upd H' d o), rt := fun v H' => H' d = some (.frz od o) ∧ D.rt v (upd H' d o), bk := fun σ' H' => H' d = some (.frz od o) ∧ D.bk σ' (upd H' d o), ct := fun σ' H' => H' d = some (.frz od o) ∧ D.ct σ' (upd H' d o) } σ (upd H d (.frz od o))) : tLock t D σ H := ⟨d, o, h, c, q⟩
theorem i_lockE {d : Addr} {o : HO} (h : H d = some o) (c : Mut (some o)) (q : ∀ od, te σ (upd H d (.frz od o)) fun v H' => H' d = some (.frz od o) ∧ Q v (upd H' d o)) : tLockE te σ H Q := ⟨d, o, h, c, q⟩
theorem i_vals (q : td σ H (kVals R)) : iVals td σ H R := q
theorem i_items (q : td σ H (kItems R)) : iItems td σ H R := q
theorem i_kVals {d : Addr} {o : Obj} (h : H d = some (.frz o (.dK kvs))) (q : R (Itd d o kvs) H) : kVals R (.ref d) H := ⟨d, o, kvs, rfl, h, q⟩
theorem i_kItems {d : Addr} {o : Obj} (h : H d = some (.frz o (.dK kvs))) (q : R (Iti d o kvs) H) : kItems R (.ref d) H := ⟨d, o, kvs, rfl, h, q⟩
theorem i_dget (q : td σ H fun x H1 => ty σ H1 (kDGet x Q)) : tDGet td ty σ H Q := q
theorem i_kDGet (h : H a = some (.dK kvs)) (e : valV kvs k = some v) (q : Q v H) : kDGet (.ref a) Q (kV k) H := ⟨a, v, rfl, .inl ⟨kvs, k, .inl h, rfl, e.symm⟩, q⟩
theorem i_kDGetI {j : Int} (h : H a = some (.dK kvs)) (e : valV kvs (Sum.inl j) = some v) (q : Q v H) : kDGet (.ref a) Q (.int j) H := i_kDGet (k := Sum.inl j) h e q
theorem i_kDGetS {j : Str} (h : H a = some (.dK kvs)) (e : valV kvs (Sum.inr j) = some v) (q : Q v H) : kDGet (.ref a) Q (.str j) H := i_kDGet (k := Sum.inr j) h e q
theorem i_dput (q : tv σ H fun v H1 => td σ H1 fun x H2 => ty σ H2 (kDPut x v D σ)) : sDPut td ty tv D σ H := q
theorem i_kDPutI {j : Int} (h : H a = some (.dK kvs)) (c : kvs.length < sizeLine) (q : D.nx σ (upd H a (.dK (putK kvs (Sum.inl j) v)))) : kDPut (.ref a) v D σ (.int j) H := ⟨a, _, rfl, .inl ⟨kvs, Sum.inl j, h, rfl, c, rfl⟩, q⟩
theorem i_kDPutS {j : Str} (h : H a = some (.dK kvs)) (c : kvs.length < sizeLine) (q : D.nx σ (upd H a (.dK (putK kvs (Sum.inr j) v)))) : kDPut (.ref a) v D σ (.str j) H := ⟨a, _, rfl, .inl ⟨kvs, Sum.inr j, h, rfl, c, rfl⟩, q⟩
theorem i_din (q : ty σ H fun y H1 => td σ H1 (kDIn y Q)) : tDIn ty td σ H Q := q
theorem i_kDInI {j : Int} (h : H a = some (.dK kvs)) (q : Q (.bl (valV kvs (Sum.inl j)).isSome) H) : kDIn (.int j) Q (.ref a) H := ⟨a, _, rfl, .inl ⟨kvs, Sum.inl j, .inl h, rfl, rfl⟩, q⟩
theorem i_dnotin (q : ty σ H fun y H1 => td σ H1 (kDNotIn y Q)) : tDNotIn ty td σ H Q := q
theorem i_kDNotInI {j : Int} (h : H a = some (.dK kvs)) (q : Q (.bl !(valV kvs (Sum.inl j)).isSome) H) : kDNotIn (.int j) Q (.ref a) H := ⟨a, _, rfl, .inl ⟨kvs, Sum.inl j, .inl h, rfl, rfl⟩, q⟩
theorem i_isL {xs : List V} (h : H a = some (.lst xs)) (q : Q (.bl true) H) : rIsi K [.ref a, .ty "list"] H Q := ⟨_, _, _, _, _, rfl, .ty _, .base (.lst h), kit_ty (by decide +kernel), q⟩
theorem i_dpop1 (q : td σ H (kDPop1 ty σ Q)) : tDPop1 td ty σ H Q := q
theorem i_kDPop1I {j : Int} (h : H a = some (.dK kvs)) (q : ty σ H fun y H2 => y = .int j ∧ H2 = H) (e : valV kvs (Sum.inl j) = some v) (r : Q v (upd H a (.dK (dropK kvs (Sum.inl j))))) : True := trivial
theorem i_ddel (q : td σ H fun x H1 => ty σ H1 (kDDel x D σ)) : sDDel td ty D σ H := q
theorem i_kDDelI {j : Int} (h : H a = some (.dK kvs)) (e : (valV kvs (Sum.inl j)).isSome = true) (q : D.nx σ (upd H a (.dK (dropK kvs (Sum.inl j))))) : kDDel (.ref a) D σ (.int j) H := ⟨a, kvs, Sum.inl j, rfl, h, rfl, e, q⟩
theorem i_dc {wi : TI} {vs : List Nat} (q : wi σ H fun J H1 => DcW J g tt tk tv vs σ H1 Q) : tDc wi g tt tk tv vs σ H Q := q
theorem i_enum (q : tas σ H (kEnum K R)) : iEnum K tas σ H R := q
theorem i_kEnum {xs : List V} (h : SqL K H a xs) (q : R (Ite K a) H) : kEnum K R [.ref a] H := ⟨a, xs, rfl, h, q⟩
theorem i_rIn {xs : List V} {b : Bool} (h : SqL K H a xs) (c1 : flatV x = true) (c2 : xs.all flatV = true) (q : Q (.bl (if b = true then !inV x xs else inV x xs)) H) : rIn K b x (.ref a) H Q := ⟨a, xs, rfl, .inl h, c1, c2, q⟩
theorem i_rInT {xs : List V} {b : Bool} (h : SqT K H a xs) (c1 : flatV x = true) (c2 : xs.all flatV = true) (q : Q (.bl (if b = true then !inV x xs else inV x xs)) H) : rIn K b x (.ref a) H Q := ⟨a, xs, rfl, .inr h, c1, c2, q⟩
theorem i_dict (h : H a = some (.dK kvs)) (q : ∀ p, H p = none → Q (.ref p) (upd H p (.dK kvs))) : xDict [.ref a] H Q := ⟨a, kvs, rfl, .inl h, q⟩
theorem i_slT {xs : List V} {lo hi : Option Int} (h : SqT K H a xs) (c : ¬(HT.sIx xs.length 0 lo = 0 ∧ HT.sIx xs.length xs.length hi = xs.length)) (q : ∀ p, H p = none → Q (.ref p) (upd H p (.tup (cutV xs lo hi)))) : rSlT K (.ref a) lo hi H Q := ⟨a, xs, rfl, h, c, q⟩
theorem i_slS {z : Str} {lo hi : Option Int} (c : z.length ≤ sizeLine) (q : Q (.str (cutS z lo hi)) H) : rSlS (.str z) lo hi H Q := ⟨z, rfl, c, q⟩
end
/-- a dict's comprehension, by an invariant -/
theorem dc_it {J : It} {n : Nat} {G : Hp → Prop} {Y : Nat → Hp → V → Hp → Prop} (w : Walk J n G Y) {g : TG} {tt : TT} {tk tv : TE} {vs : List Nat} {σ : L2.St} {H1 : Hp} {D : Addr} {Qd : Hp → Prop}
    (Pv : Nat → Hp → Prop) (h0 : Pv 0 (upd H1 D (.dK []))) (hG : ∀ i H, i ≤ n → Pv i H → G H)
    (hs : ∀ i x H H', i < n → Pv i H → Y i H x H' → g x (wipe σ vs) H' fun σ2 H2 => wipe σ2 vs = wipe σ vs ∧ tt σ2 H2 fun b H3 =>
      if b = true then tk σ2 H3 fun y H4 => tv σ2 H4 fun z H5 => ∃ kvs k, y = kV k ∧ H5 D = some (.dK kvs) ∧ kvs.length < sizeLine ∧ Pv (i + 1) (upd H5 D (.dK (putK kvs k z))) else Pv (i + 1) H3)
    (hd : ∀ H, Pv n H → Qd H) : ∃ W : Nat → Nat → Hp → Prop, (∃ m, W 0 m (upd H1 D (.dK []))) ∧ ∀ i m H, W i m H →
  (J.stop i H ∧ Qd H) ∨ (J.go i H ∧ ∃ Nx : Hp → Prop, (∀ H', Nx H' → ∃ m', m' < m ∧ W (i + 1) m' H') ∧ ∀ x H', J.yld i H x H' → g x (wipe σ vs) H' fun σ2 H2 => wipe σ2 vs = wipe σ vs ∧ tt σ2 H2 fun b H3 =>
    if b = true then tk σ2 H3 fun y H4 => tv σ2 H4 fun z H5 => ∃ kvs k, y = kV k ∧ H5 D = some (.dK kvs) ∧ kvs.length < sizeLine ∧ Nx (upd H5 D (.dK (putK kvs k z))) else Nx H3) := by
  refine ⟨fun i m H => i + m = n ∧ Pv i H, ⟨n, by omega, h0⟩, ?_⟩
  rintro i m H ⟨e, p⟩
  by_cases hi : i < n
  · refine .inr ⟨w.goes i H hi (hG i H (by omega) p), Pv (i + 1), fun H' p' => ⟨m - 1, by omega, by omega, p'⟩, fun x H' y => ?_⟩
    exact hs i x H H' hi p (w.yields i H x H' hi (hG i H (by omega) p) y)
  · obtain rfl : i = n := by omega
    exact .inl ⟨w.stops H (hG i H (by omega) p), hd H p⟩
end HX

set_option Elab.async false
set_option linter.all false
set_option maxRecDepth 100000
set_option maxHeartbeats 2000000
/-! HXl: a text some times over, slices by steps, sets of texts. -/
namespace L2
open PySem PySem.Spec PyProof.Rows
section
variable {X : Cx}
/-! ### s * k -/
def repS (z : Str) (n : Nat) : Str := ⟨(List.replicate n z.cps).foldl (fun a b => a ++ b) #[]⟩
theorem repS_tl (z : Str) : ∀ n : Nat, (repS z n).cps.toList = (List.replicate n z.cps.toList).flatten := by
  have g : ∀ (n : Nat) (acc : Array Nat), ((List.replicate n z.cps).foldl (fun a b => a ++ b) acc).toList = acc.toList ++ (List.replicate n z.cps.toList).flatten := by
    intro n
    induction n with
    | zero => intro acc; simp
    | succ n ih =>
      intro acc
      rw [List.replicate_succ, List.foldl_cons, ih, List.replicate_succ, List.flatten_cons, Array.toList_append, List.append_assoc]
  intro n
  have := g n #[]
  simpa [repS] using this
theorem repS_len (z : Str) (n : Nat) : (repS z n).length = n * z.length := by
  have e := congrArg List.length (repS_tl z n)
  have h1 : (repS z n).cps.toList.length = (repS z n).length := by simp [Str.length]
  have h2 : z.cps.toList.length = z.length := by simp [Str.length]
  rw [← h1, e, List.length_flatten, List.map_replicate, List.sum_replicate_nat, h2]
def rRepS : R2 := fun x y H Q => ∃ (z : Str) (k : Int), x = .str z ∧ y = .int k ∧ 1 ≤ k ∧ k ≤ 1000 ∧ 1 ≤ z.length ∧ z.length ≤ 100 ∧ Q (.str (repS z k.toNat)) H
theorem op_repS : OpR X (binaryOp .Mult) rRepS := by
  intro pins s σ H x y v u Q I rx ry h
  obtain ⟨z, k, rfl, rfl, k1, k2, z1, z2, q⟩ := h
  obtain ⟨t, rfl⟩ := rx
  obtain ⟨t2, rfl⟩ := ry
  have small : z.length * k.toNat ≤ 100 * 1000 := Nat.mul_le_mul z2 (by omega)
  refine PySem.P.mul_str ?_ (fun _ _ => ?_) (fun _ _ => ?_) ?_
  · have a1 : ¬ k < -(2 ^ 63 : Int) := by omega
    have a2 : ¬ k ≥ 2 ^ 63 := by omega
    rw [decide_eq_false a1, decide_eq_false a2]; rfl
  · have d : (2 ^ 63 - 1 : Int) / 1000 ≤ (2 ^ 63 - 1) / k := by
      have e1 : (2 ^ 63 - 1 : Int) / 1000 * k ≤ (2 ^ 63 - 1 : Int) / 1000 * 1000 := Int.mul_le_mul_of_nonneg_left k2 (by decide)
      have e2 : (2 ^ 63 - 1 : Int) / 1000 * 1000 ≤ 2 ^ 63 - 1 := by decide
      exact (Int.le_ediv_iff_mul_le (by omega)).mpr (Int.le_trans e1 e2)
    have e3 : (100 : Int) ≤ (2 ^ 63 - 1 : Int) / 1000 := by decide
    omega
  · exact decide_eq_false (by rw [sizeLine_eq]; omega)
  · have k3 : ¬ k < 1 := by omega
    rw [if_neg k3]
    by_cases c : (k == 1 || z.length == 0) = true
    · rw [if_pos c]
      have ek : k = 1 := by
        rcases Bool.or_eq_true_iff.mp c with c | c
        · simpa using c
        · have : z.length = 0 := by simpa using c
          omega
      subst ek
      have ez : repS z (1 : Int).toNat = z := by
        show (⟨#[] ++ z.cps⟩ : Str) = z
        rw [Array.empty_append]
      rw [ez] at q
      exact ⟨.str z, H, I, ⟨_, rfl⟩, q⟩
    · rw [if_neg c]
      refine ⟨?_, .str (repS z k.toNat), H, I.tok _, ⟨_, rfl⟩, q⟩
      show (repS z k.toNat).length ≤ sizeLine
      rw [repS_len, sizeLine_eq, Nat.mul_comm]
      omega
theorem i_rRepS {H : Hp} {z : Str} {k : Int} {Q : VK} (k1 : 1 ≤ k) (k2 : k ≤ 1000) (z1 : 1 ≤ z.length) (z2 : z.length ≤ 100) (q : Q (.str (repS z k.toNat)) H) : rRepS (.str z) (.int k) H Q := ⟨z, k, rfl, rfl, k1, k2, z1, z2, q⟩
/-! ### xs[i::k] -/
def Picked {α : Type} (xs ys : List α) : Prop := ∃ js : List Nat, js.Pairwise (· < ·) ∧ ys = js.filterMap (xs[·]?)
theorem vals_pick {xs : List V} {its : List Value} (r : Vals xs its) : ∀ js : List Nat, Vals (js.filterMap (xs[·]?)) (js.filterMap (its[·]?))
  | [] => .nil
  | j :: js => by
    have hl := r.length
    rw [List.filterMap_cons, List.filterMap_cons]
    rcases Nat.lt_or_ge j xs.length with h | h
    · obtain ⟨u, e2, rv⟩ := r.get (List.getElem?_eq_getElem h)
      rw [List.getElem?_eq_getElem h, e2]
      exact .cons rv (vals_pick r js)
    · rw [List.getElem?_eq_none_iff.mpr h, List.getElem?_eq_none_iff.mpr (by omega)]
      exact vals_pick r js
theorem pick_len {α : Type} (xs : List α) : ∀ (js : List Nat) (m : Nat), js.Pairwise (· < ·) → (∀ j ∈ js, m ≤ j) → (js.filterMap (xs[·]?)).length ≤ xs.length - m
  | [], m, _, _ => Nat.zero_le _
  | j :: js, m, h, hm => by
    obtain ⟨h1, h2⟩ := List.pairwise_cons.mp h
    have hj := hm j (List.mem_cons_self ..)
    have ih := pick_len xs js (j + 1) h2 (fun i hi => h1 i hi)
    rw [List.filterMap_cons]
    rcases Nat.lt_or_ge j xs.length with c | c
    · rw [List.getElem?_eq_getElem c]
      simp only [List.length_cons]
      omega
    · rw [List.getElem?_eq_none_iff.mpr c]
      simp only
      omega
theorem range_rise {a b k : Int} (h0 : 0 ≤ a) (hk : 0 < k) : (sliceRange a b k).Pairwise (· < ·) := by
  unfold sliceRange
  refine List.pairwise_map.mpr (List.Pairwise.imp ?_ List.pairwise_lt_range)
  intro i j hij
  have : k * (i : Int) < k * (j : Int) := Int.mul_lt_mul_of_pos_left (by omega) hk
  have : 0 ≤ k * (i : Int) := Int.mul_nonneg (by omega) (by omega)
  omega
theorem pick_rise (items : Array Value) {i k : Int} (hk : 0 < k) : ∃ js : List Nat, js.Pairwise (· < ·) ∧ slicePick items (some i) none (some k) = (js.filterMap (items[·]?)).toArray := by
  refine ⟨sliceRange (sliceBounds (some i) none (some k) items.size).1 (sliceBounds (some i) none (some k) items.size).2.1 k, range_rise ?_ hk, ?_⟩
  · show (0 : Int) ≤ (if k > 0 then max 0 (min (if i < 0 then i + (items.size : Int) else i) (items.size : Int)) else max (-1) (min (if i < 0 then i + (items.size : Int) else i) ((items.size : Int) - 1)))
    rw [if_pos hk]
    exact Int.le_max_left ..
  · rfl
def kStepLo (K : PySem.W.Frag) (x : V) (Q : VK) (ol : Option Int) : Option Int → Hp → Prop := fun o H2 => ∃ a xs i k, x = .ref a ∧ ol = some i ∧ o = some k ∧ SqL K H2 a xs ∧ 0 < k ∧ ∀ p ys, Picked xs ys → H2 p = none → Q (.ref p) (upd H2 p (.lst ys))
def tStepLo (K : PySem.W.Frag) (te : TE) (tl tk : TO) : TE := fun σ H Q => te σ H fun x H1 => tl σ H1 fun ol H2 => tk σ H2 (kStepLo K x Q ol)
theorem i_stepLo {K : PySem.W.Frag} {te : TE} {tl tk : TO} {σ : L2.St} {H : Hp} {Q : VK} (q : te σ H fun x H1 => tl σ H1 fun ol H2 => tk σ H2 (kStepLo K x Q ol)) : tStepLo K te tl tk σ H Q := q
theorem i_kStepLo {K : PySem.W.Frag} {H : Hp} {Q : VK} {a : Addr} {xs : List V} {i k : Int} (h : SqL K H a xs) (hk : 0 < k) (q : ∀ p ys, Picked xs ys → H p = none → Q (.ref p) (upd H p (.lst ys))) : kStepLo K (.ref a) Q (some i) (some k) H :=
  ⟨a, xs, i, k, rfl, rfl, rfl, h, hk, q⟩
theorem pe_stepLo {e el ek : Expr} {te tl tk : TE} {p3 pos : Pos} (he : PE X e te) (hl : PE X el tl) (hk : PE X ek tk) : PE X (.Subscript e (.Slice (some el) none (some ek) p3) pos) (tStepLo X.K te (tPart tl) (tPart tk)) := by
  refine ⟨fun pins s σ H Q I h => Subscript_ (thn (he.run pins s σ H _ I h) fun v s1 ⟨x, H1, I1, r1, q1⟩ => ?_)⟩
  refine wpAny_Slice (thn ((po_some hl : PO X (some el) (tPart tl)).run pins s1 σ H1 _ I1 q1) fun vl s2 ⟨ol, H2, I2, pl, q2⟩ => ?_)
  refine thn (po_none.run pins s2 σ H2 (fun o H3 => o = none ∧ H3 = H2) I2 ⟨rfl, rfl⟩) fun vu s3 ⟨u, H3, I3, pu, eu, e3⟩ => ?_
  subst eu e3
  refine thn ((po_some hk : PO X (some ek) (tPart tk)).run pins s3 σ H3 _ I3 q2) fun vs s4 ⟨o, H4, I4, ps, a, xs, i, k, ex, el', eo, hx, k0, q⟩ => ?_
  subst eo ex el'
  obtain rfl : v = Value.ref a := r1
  have I5 : Inv X pins σ H4 { s4 with heap := s4.heap.push { cls := .type "slice", data := .fields #[vl, vu, vs] } } := I4.kept (t' := s4.toks) fun b ob q => Heap.get?_push_of_some _ q
  obtain ⟨its, r, ht, hz⟩ := I5.list hx
  have hlen := r.length
  show wpAny (model X.prog X.w) X.A (subscriptTail e (.Slice (some el) none (some ek) p3) (.ref a) (.ref s4.heap.objs.size)) (EP X pins σ Q) X.xe { s4 with heap := s4.heap.push { cls := .type "slice", data := .fields #[vl, vu, vs] } }
  refine tail_any (ops := [.ref a, .ref s4.heap.objs.size]) ht.isList.typeIs (PySem.slot_list_getitem.lookup) ?_ (by with_unfolding_all rfl)
  refine wpAny_getItem_list_slice ht.isList (Heap.IsSliceOf.new _ vl vu vs) pl pu ps (fun c => by cases c; exact absurd k0 (by decide)) ?_ (by rw [List.size_toArray]; omega)
  obtain ⟨js, hj, ej⟩ := pick_rise its.toArray (i := i) k0
  have ej2 : js.filterMap (its.toArray[·]?) = js.filterMap (its[·]?) := by congr 1; funext j; simp
  rw [ej, ej2]
  have rp := vals_pick r js
  refine ⟨.ref _, _, I5.laid (t' := s4.toks) (o := .lst (js.filterMap (xs[·]?))) (fun b ob q => Heap.get?_push_of_some _ q) (Nat.le_refl _) ?_, rfl, q _ _ ⟨js, hj, rfl⟩ (I5.hok.fresh (Nat.le_refl _))⟩
  exact ⟨Nat.le_trans (by simpa using pick_len xs js 0 hj (fun _ _ => Nat.zero_le _)) hz, _, 0, rp, Heap.get?_push_size _ rfl⟩
end
end L2

set_option Elab.async false
set_option linter.all false
set_option maxRecDepth 100000
set_option maxHeartbeats 3200000
/-! HXs: how many unlike texts a list has, where all are unlike. -/
namespace L2
open PySem PySem.Spec PyProof.Rows
section
variable {prog : Program} {w : World} {A : Around} {E : Value → Shared → Prop} {s : Shared}
/-- the first i texts -/
abbrev upTo (xs : List Str) (i : Nat) : Str → Bool := fun z => decide (z ∈ xs.take i)
theorem upTo_next {xs : List Str} {i : Nat} (h : i < xs.length) (z : Str) : (upTo xs i z || decide (z = xs.getD i Str.empty)) = upTo xs (i + 1) z := by
  have e : xs.getD i Str.empty = xs[i] := by rw [List.getD_eq_getElem?_getD, List.getElem?_eq_getElem h]; rfl
  unfold upTo
  rw [e, ← Bool.decide_or, List.take_add_one, List.getElem?_eq_getElem h]
  exact decide_eq_decide.mpr (by rw [List.mem_append]; simp only [Option.toList_some, List.mem_singleton])
theorem upTo_new {xs : List Str} (nd : xs.Nodup) {i : Nat} (h : i < xs.length) : upTo xs i (xs.getD i Str.empty) = false := by
  have e : xs.getD i Str.empty = xs[i] := by rw [List.getD_eq_getElem?_getD, List.getElem?_eq_getElem h]; rfl
  refine decide_eq_false fun m => ?_
  rw [e] at m
  obtain ⟨k, hk, ek⟩ := List.mem_take_iff_getElem.mp m
  have := (List.getElem_inj nd (h₀ := by omega) (h₁ := h)).mp ek
  omega
theorem texts_in {R : Result → Shared → Prop} {I T : Addr} {fp wr : List Addr} {G : Array GenState → Array GenState → Prop} {P : Nat → Value → Prop} {St : Nat → Shared → Prop} {xs : List Str}
    (W : WalksS prog w A.in1 I fp wr G xs.length P St) (apart : T ∉ fp) (nd : xs.Nodup) (few : xs.length ≤ 4000) (txt : ∀ i v, P i v → ∃ t, v = .str (xs.getD i Str.empty) t)
    (fin : ∀ s', Moved (T :: wr) G s s' → s'.heap.SetOf (PySem.strKind prog w) T (upTo xs xs.length) xs.length → R (.ok (.ret .none)) s') (h0 : St 0 s) (hT : s.heap.SetOf (PySem.strKind prog w) T (upTo xs 0) 0) :
    codeAny (model prog w) A (.builtin "set.update.loop" ⟨[.ref T, .ref I], []⟩) R s := by
  have off : T ∉ wr := fun m => apart (W.sub _ m)
  have wide : ∀ b ∈ wr, b ∈ T :: wr := fun _ m => List.mem_cons_of_mem _ m
  have all : ∀ (left i : Nat) (s : Shared), i + left = xs.length → St i s → s.heap.SetOf (PySem.strKind prog w) T (upTo xs i) i →
      (∀ s', Moved (T :: wr) G s s' → s'.heap.SetOf (PySem.strKind prog w) T (upTo xs xs.length) xs.length → R (.ok (.ret .none)) s') → codeAny (model prog w) A (.builtin "set.update.loop" ⟨[.ref T, .ref I], []⟩) R s := by
    intro left
    induction left with
    | zero =>
      intro i s e hi hS q
      obtain rfl : i = xs.length := by omega
      refine codeAny_builtin PyProof.Rows.F.entry_set_update_loop (?_ : _)
      rw [Around.under_plainId PyProof.Rows.F.plain_set_update_loop _]
      show wpAny (model prog w) A.in1 (pyNext (.ref I) >>= _) _ _ s
      refine wpAny_bind (W.done s _ _ hi fun t mv => (wpAny_pure (q t (mv.mono wide) ?_) : wpAny (model prog w) A.in1 (ret Value.none) _ _ t))
      obtain ⟨o, es, ep, tb, ho, more⟩ := hS
      exact ⟨o, es, ep, tb, mv.heap T _ off ho, more⟩
    | succ left ih =>
      intro i s e hi hS q
      have lt : i < xs.length := by omega
      refine codeAny_builtin PyProof.Rows.F.entry_set_update_loop (?_ : _)
      rw [Around.under_plainId PyProof.Rows.F.plain_set_update_loop _]
      show wpAny (model prog w) A.in1 (pyNext (.ref I) >>= _) _ _ s
      refine wpAny_bind (W.item i s _ _ lt hi fun v t hv ht mv => ?_)
      obtain ⟨tk, rfl⟩ := txt i v hv
      have hS2 : t.heap.SetOf (PySem.strKind prog w) T (upTo xs i) i := by
        obtain ⟨o, es, ep, tb, ho, more⟩ := hS
        exact ⟨o, es, ep, tb, mv.heap T _ off ho, more⟩
      generalize ez : xs.getD i Str.empty = z
      show wpAny (model prog w) A.in1 (holding [Value.str z tk] (setAdd T (.str z tk)) >>= _) _ _ t
      refine wpAny_bind (wpAny_holding (?_ : _))
      unfold setAdd
      refine wpAny_holding (wpAny_bind ((PySem.strKind prog w).pyHash (k := z) (strKind_is _ _ _ _) ?_))
      refine wpAny_setAddHashed_of (knd := PySem.strKind prog w) (s := { t with toks := t.toks + 1 }) (strKind_is _ _ _ _) rfl hS2 (by unfold scanBound; omega) fun h2 but hS3 => ?_
      have new : upTo xs i z = false := by rw [← ez]; exact upTo_new nd lt
      have hS4 : h2.SetOf (PySem.strKind prog w) T (upTo xs (i + 1)) (i + 1) := SetOf_congr hS3 (fun y => by rw [← upTo_next lt, ez]) (by rw [new]; rfl)
      refine wpAny_pure ⟨plainId_quiet PyProof.Rows.F.plain_set_update_loop _, ih (i + 1) _ (by omega) (W.frame _ t _ _ ht (Nat.le_succ _) fun b hb o eb => (but.2 b (fun c => apart (c ▸ hb))).trans eb) hS4 fun t2 mv2 hS5 => ?_⟩
      exact q t2 (Moved.trans W.gtrans ((mv.mono wide).then_heap (Nat.le_succ _) fun b o hb eb => (but.2 b (fun c => hb (c ▸ List.mem_cons_self))).trans eb) mv2) hS5
  exact all xs.length 0 s (Nat.zero_add _) h0 hT fin
/-- an empty set, as it is made -/
abbrev emptyS (led : Bool) : Obj := { cls := .type "set", dict := none, data := .set #[] 0 (.fresh 0 0 led) }
/-- the set of a list of unlike texts -/
theorem set_of_texts {l : Addr} {its : Array Value} {xs : List Str} {Q : Value → Shared → Prop} (calm : A.handled = none) (hl : s.heap.IsList l its) (ht : StrsAre its.toList xs) (nd : xs.Nodup) (few : xs.length ≤ 4000)
    (q : ∀ (h' : Heap) (tk : Nat), h'.SetOf (PySem.strKind prog w) s.heap.objs.size (upTo xs xs.length) xs.length → (∀ b o, b < s.heap.objs.size → s.heap.get? b = some o → h'.get? b = some o) → Q (.ref s.heap.objs.size) { s with heap := h', toks := tk }) :
    wpAny (model prog w) A (call (.type "set") [.ref l]) Q E s := by
  have size : its.size = xs.length := by rw [← StrsAre.len_eq ht, Array.length_toList]
  obtain ⟨c, tl, m1⟩ := PySem.F.called_set.mro
  have m2 := PySem.F.called_set.made
  have m3 := PySem.F.called_set.sub
  refine wpAny_call (codeAny_of_tree (?_ : wpAny _ _ (callAny (.type "set") _) _ _ _))
  refine wpAny_pure ⟨Code.quiet_builtin _ (by decide +kernel), codeAny_builtin PySem.F.entry_type_call (?_ : _)⟩
  rw [Around.under_plain (weight_type_call_type "set" [.ref l] []) rfl]
  have m4 := PySem.F.called_set.notType
  have m5 := PySem.F.called_set.canCreate
  have m6 := PySem.F.typeCall_set_1 (.ref l)
  repeat (any_goals (first | assumption | wp_step))
  refine codeAny_mono (code_set_new_1 (.ref l) (E := E) (Q₁ := fun made t => ∃ led : Bool, made = .ref s.heap.objs.size ∧ t = { s with heap := s.heap.push (emptyS led) }) fun led => ⟨led, rfl, rfl⟩) fun r t hr => ?_
  rcases r with e | fl
  · exact hr
  rcases fl with made | _ | _ | _
  rotate_left
  all_goals first | exact hr.elim | skip
  obtain ⟨led, rfl, rfl⟩ := hr
  have at' : (s.heap.push (emptyS led)).get? s.heap.objs.size = some (emptyS led) := Heap.get?_push_size _ rfl
  have ty : Shared.TypeIs { s with heap := s.heap.push (emptyS led) } (.ref s.heap.objs.size) "set" := ⟨_, at', rfl⟩
  have m7 := PySem.F.called_set.init.lookup
  have m8 := PySem.F.called_set.init.bind (.ref s.heap.objs.size)
  repeat (any_goals (first | assumption | wp_step))
  refine codeAny_mono (codeAny_call_builtin (R := wants (fun r t => r = .none ∧ ∃ h' tk, t = { s with heap := h', toks := tk } ∧ h'.SetOf (PySem.strKind prog w) s.heap.objs.size (upTo xs xs.length) xs.length ∧
      (∀ b o, b < s.heap.objs.size → s.heap.get? b = some o → h'.get? b = some o)) E) PySem.F.called_set.init.plain PySem.F.entry_set_init (check_set_init_1 ty (?_ : _))) fun r t hr => ?_
  · obtain ⟨⟨oc, od, oda, os⟩, ho, hc, n, hd⟩ := hl
    dsimp only at hc hd
    subst hc hd
    have ho2 : (s.heap.push (emptyS led)).get? l = some { cls := .type "list", dict := od, data := .seq its n, slots := os } := Heap.get?_push_of_some _ ho
    have n1 := PySem.F.sub_list_set
    have n2 := PySem.F.sub_list_frozenset
    have n3 : (Value.type "list" == Value.type "dict") = false := by decide
    have hl1 : (s.heap.push (emptyS led)).IsList l its := ⟨_, ho2, rfl, n, rfl⟩
    unfold Builtin.«set.__init__» noKeywords Builtin.Frozenset.updateFrom
    generalize ep : pyIter = pit
    wp_walk
    subst ep
    have lt : l < s.heap.objs.size := Heap.lt_size ho
    have lS : (s.heap.push (emptyS led)).objs.size = s.heap.objs.size + 1 := Heap.size_push ..
    refine wpAny_pyIter_list hl1 (wpAny_bind (wpAny_runValue ?_))
    have key : ∀ (i : Nat) (v : Value), its[i]? = some v → ∃ t, v = .str (xs.getD i Str.empty) t := fun i v hv => SS.strs_at ht i v (by rw [Array.getElem?_toList]; exact hv)
    have walk := (Walks.list (prog := prog) (w := w) (A := A.in1.in1.in1) (by simp [calm]) (s.heap.push (emptyS led)).objs.size l (by rw [lS]; exact Nat.ne_of_lt (Nat.lt_succ_of_lt lt)) its).toS
    rw [size] at walk
    refine texts_in walk (by rw [lS]; simp only [List.mem_cons, List.not_mem_nil, or_false, not_or]; exact ⟨Nat.ne_of_lt (Nat.lt_succ_self _), Nat.ne_of_gt lt⟩) nd few key (fun t mv hS => ?_) ⟨⟨_, Heap.get?_push_size _ rfl, rfl, rfl⟩, hl1.push _⟩ ?_
    · obtain ⟨h', g', d', tk', os'⟩ := t
      obtain rfl : g' = s.gens := mv.gens
      obtain rfl : d' = s.drawn := mv.drawn
      obtain rfl : os' = s.os := mv.os
      show wpAny (model prog w) _ _ _ _ _
      refine wpAny_pure ?_
      show wpAny (model prog w) _ (ret Value.none) _ _ _
      refine wpAny_pure ⟨rfl, h', tk', rfl, hS, fun b o hb eb => mv.heap b o (by rw [lS]; simp only [List.mem_cons, List.not_mem_nil, or_false, not_or]; exact ⟨Nat.ne_of_lt hb, Nat.ne_of_lt (Nat.lt_succ_of_lt hb)⟩) (Heap.get?_push_of_some _ (Heap.get?_push_of_some _ eb))⟩
    · exact SetOf_congr ((PyProof.Rows.setObjOf_fresh (knd := PySem.strKind prog w) led).setOf (Heap.get?_push_of_some _ at') (by unfold scanBound; omega)) (fun z => by simp [upTo]) rfl
  · rcases r with e | fl
    · exact hr
    rcases fl with made | _ | _ | _
    rotate_left
    all_goals first | exact hr.elim | skip
    obtain ⟨rfl, h', tk, rfl, hS, keep⟩ := hr
    repeat (any_goals (first | assumption | wp_step))
    exact q _ _ hS keep
end
/-! ### len(set(xs)) -/
section
variable {X : Cx}
def tLenSetT (K : PySem.W.Frag) (ta : TE) : TE := fun σ H Q => ta σ H fun x H1 => ∃ (l : Addr) (xs : List Str), x = .ref l ∧ SqL K H1 l (xs.map V.str) ∧ xs.Nodup ∧ xs.length ≤ 4000 ∧ Q (.int (xs.length : Nat)) H1
theorem i_lenSetT {K : PySem.W.Frag} {ta : TE} {σ : L2.St} {H : Hp} {Q : VK} (q : ta σ H fun x H1 => ∃ (l : Addr) (xs : List Str), x = .ref l ∧ SqL K H1 l (xs.map V.str) ∧ xs.Nodup ∧ xs.length ≤ 4000 ∧ Q (.int (xs.length : Nat)) H1) : tLenSetT K ta σ H Q := q
theorem pe_lenSetT {a : Expr} {ta : TE} {p p2 q pos : Pos} (hg : Gl X "len") (hm : X.mg "len" = none) (hg2 : Gl X "set") (hm2 : X.mg "set" = none) (ha : PE X a ta) (hc : X.calm = true := by rfl)
    (na : starEach [a] X.env = (false, eval a X.env) :: starEach [] X.env := by rfl) : PE X (.Call (.Name "len" p) [.Call (.Name "set" p2) [a] [] q] [] pos) (tLenSetT X.K ta) :=
  ⟨fun pins s σ H Q I h => Call_ (ld_blt I hg hm boot_len (PyProof.Rows.callWith_builtin1 (PyProof.Rows.args_cons (Call_ (ld_blt I hg2 hm2 boot_set (PyProof.Rows.callWith_type1 (PyProof.Rows.args_cons
    (thn (ha.run pins s σ H _ I h) fun v s1 ⟨x, H1, I1, r1, q1⟩ => PyProof.Rows.args_nil (by
      obtain ⟨l, xs, rfl, hq, nd, few, q1⟩ := q1
      obtain rfl : v = Value.ref l := r1
      obtain ⟨its, r, pl, hz⟩ := I1.list hq
      refine set_of_texts (its := its.toArray) (I1.ok.hd hc) pl.isList (by simpa using strsAre_of r) nd few fun h' tk hS hk => PyProof.Rows.args_nil ?_
      obtain ⟨o, es, ep, t, ho, hex, hd, _, _, _, hf, hn⟩ := hS
      have I2 : Inv X pins σ H1 { s1 with heap := h', toks := tk } := I1.kept fun b o e => hk b o (Heap.lt_size e) e
      exact call_len_set ho hex hd hf (by rw [hn]; omega) ⟨.int (xs.length : Nat), H1, I2.tok _, ⟨_, by rw [hn]⟩, q1⟩)) na) na rfl))) rfl) rfl rfl))⟩
end
end L2

set_option Elab.async false
set_option linter.all false
set_option maxRecDepth 100000
set_option maxHeartbeats 3200000
/-! HXt: how many unlike texts a list has. -/
namespace LSU
open PySem PySem.Spec PyProof.Rows L2
section
variable {prog : Program} {w : World} {A : Around} {E : Value → Shared → Prop} {s : Shared}
/-- how many unlike ones the first i texts are -/
def cntU (xs : List Str) : Nat → Nat
  | 0 => 0
  | i + 1 => if upTo xs i (xs.getD i Str.empty) = true then cntU xs i else cntU xs i + 1
theorem cntU_le (xs : List Str) : ∀ i, cntU xs i ≤ i
  | 0 => Nat.le_refl _
  | i + 1 => by
    have := cntU_le xs i
    unfold cntU
    split <;> omega
theorem cntU_nd {xs : List Str} (nd : xs.Nodup) : cntU xs xs.length = xs.length := by
  have : ∀ i, i ≤ xs.length → cntU xs i = i := by
    intro i
    induction i with
    | zero => intro _; rfl
    | succ i ih =>
      intro h
      show (if upTo xs i (xs.getD i Str.empty) = true then cntU xs i else cntU xs i + 1) = i + 1
      rw [upTo_new nd (by omega), if_neg Bool.false_ne_true, ih (by omega)]
  exact this _ (Nat.le_refl _)
theorem cntU_lt {xs : List Str} (h : ¬ xs.Nodup) : cntU xs xs.length < xs.length := by
  have step : ∀ i j, i ≤ j → cntU xs i < i → cntU xs j < j := by
    intro i j hij hi
    induction j with
    | zero => omega
    | succ j ih =>
      by_cases e : i = j + 1
      · rw [← e]; exact hi
      · have := ih (by omega)
        unfold cntU
        split <;> omega
  have ⟨i, hi, hm⟩ : ∃ i, i < xs.length ∧ upTo xs i (xs.getD i Str.empty) = true := by
    refine Classical.byContradiction fun c => h ?_
    refine List.pairwise_iff_getElem.mpr fun i j hi hj hij e => c ⟨j, hj, ?_⟩
    have e2 : xs.getD j Str.empty = xs[j] := by rw [List.getD_eq_getElem?_getD, List.getElem?_eq_getElem hj]; rfl
    rw [e2, ← e]
    exact decide_eq_true (List.mem_take_iff_getElem.mpr ⟨i, by omega, rfl⟩)
  refine step (i + 1) xs.length hi ?_
  have := cntU_le xs i
  show (if upTo xs i (xs.getD i Str.empty) = true then cntU xs i else cntU xs i + 1) < i + 1
  rw [if_pos hm]
  omega
theorem texts_in {R : Result → Shared → Prop} {I T : Addr} {fp wr : List Addr} {G : Array GenState → Array GenState → Prop} {P : Nat → Value → Prop} {St : Nat → Shared → Prop} {xs : List Str}
    (W : WalksS prog w A.in1 I fp wr G xs.length P St) (apart : T ∉ fp) (few : xs.length ≤ 4000) (txt : ∀ i v, P i v → ∃ t, v = .str (xs.getD i Str.empty) t)
    (fin : ∀ s', Moved (T :: wr) G s s' → s'.heap.SetOf (PySem.strKind prog w) T (upTo xs xs.length) (cntU xs xs.length) → R (.ok (.ret .none)) s') (h0 : St 0 s) (hT : s.heap.SetOf (PySem.strKind prog w) T (upTo xs 0) 0) :
    codeAny (model prog w) A (.builtin "set.update.loop" ⟨[.ref T, .ref I], []⟩) R s := by
  have off : T ∉ wr := fun m => apart (W.sub _ m)
  have wide : ∀ b ∈ wr, b ∈ T :: wr := fun _ m => List.mem_cons_of_mem _ m
  have all : ∀ (left i : Nat) (s : Shared), i + left = xs.length → St i s → s.heap.SetOf (PySem.strKind prog w) T (upTo xs i) (cntU xs i) →
      (∀ s', Moved (T :: wr) G s s' → s'.heap.SetOf (PySem.strKind prog w) T (upTo xs xs.length) (cntU xs xs.length) → R (.ok (.ret .none)) s') → codeAny (model prog w) A (.builtin "set.update.loop" ⟨[.ref T, .ref I], []⟩) R s := by
    intro left
    induction left with
    | zero =>
      intro i s e hi hS q
      obtain rfl : i = xs.length := by omega
      refine codeAny_builtin PyProof.Rows.F.entry_set_update_loop (?_ : _)
      rw [Around.under_plainId PyProof.Rows.F.plain_set_update_loop _]
      show wpAny (model prog w) A.in1 (pyNext (.ref I) >>= _) _ _ s
      refine wpAny_bind (W.done s _ _ hi fun t mv => (wpAny_pure (q t (mv.mono wide) ?_) : wpAny (model prog w) A.in1 (ret Value.none) _ _ t))
      obtain ⟨o, es, ep, tb, ho, more⟩ := hS
      exact ⟨o, es, ep, tb, mv.heap T _ off ho, more⟩
    | succ left ih =>
      intro i s e hi hS q
      have lt : i < xs.length := by omega
      refine codeAny_builtin PyProof.Rows.F.entry_set_update_loop (?_ : _)
      rw [Around.under_plainId PyProof.Rows.F.plain_set_update_loop _]
      show wpAny (model prog w) A.in1 (pyNext (.ref I) >>= _) _ _ s
      refine wpAny_bind (W.item i s _ _ lt hi fun v t hv ht mv => ?_)
      obtain ⟨tk, rfl⟩ := txt i v hv
      have hS2 : t.heap.SetOf (PySem.strKind prog w) T (upTo xs i) (cntU xs i) := by
        obtain ⟨o, es, ep, tb, ho, more⟩ := hS
        exact ⟨o, es, ep, tb, mv.heap T _ off ho, more⟩
      generalize ez : xs.getD i Str.empty = z
      show wpAny (model prog w) A.in1 (holding [Value.str z tk] (setAdd T (.str z tk)) >>= _) _ _ t
      refine wpAny_bind (wpAny_holding (?_ : _))
      unfold setAdd
      refine wpAny_holding (wpAny_bind ((PySem.strKind prog w).pyHash (k := z) (strKind_is _ _ _ _) ?_))
      refine wpAny_setAddHashed_of (knd := PySem.strKind prog w) (s := { t with toks := t.toks + 1 }) (strKind_is _ _ _ _) rfl hS2 (by have := cntU_le xs i; unfold scanBound; omega) fun h2 but hS3 => ?_
      have hS4 : h2.SetOf (PySem.strKind prog w) T (upTo xs (i + 1)) (cntU xs (i + 1)) := SetOf_congr hS3 (fun y => by rw [← upTo_next lt, ez]) (by show _ = (if upTo xs i (xs.getD i Str.empty) = true then cntU xs i else cntU xs i + 1); rw [ez])
      refine wpAny_pure ⟨plainId_quiet PyProof.Rows.F.plain_set_update_loop _, ih (i + 1) _ (by omega) (W.frame _ t _ _ ht (Nat.le_succ _) fun b hb o eb => (but.2 b (fun c => apart (c ▸ hb))).trans eb) hS4 fun t2 mv2 hS5 => ?_⟩
      exact q t2 (Moved.trans W.gtrans ((mv.mono wide).then_heap (Nat.le_succ _) fun b o hb eb => (but.2 b (fun c => hb (c ▸ List.mem_cons_self))).trans eb) mv2) hS5
  exact all xs.length 0 s (Nat.zero_add _) h0 hT fin
/-- an empty set, as it is made -/
abbrev emptyS (led : Bool) : Obj := { cls := .type "set", dict := none, data := .set #[] 0 (.fresh 0 0 led) }
/-- the set of a list of unlike texts -/
theorem set_of_texts {l : Addr} {its : Array Value} {xs : List Str} {Q : Value → Shared → Prop} (calm : A.handled = none) (hl : s.heap.IsList l its) (ht : StrsAre its.toList xs) (few : xs.length ≤ 4000)
    (q : ∀ (h' : Heap) (tk : Nat), h'.SetOf (PySem.strKind prog w) s.heap.objs.size (upTo xs xs.length) (cntU xs xs.length) → (∀ b o, b < s.heap.objs.size → s.heap.get? b = some o → h'.get? b = some o) → Q (.ref s.heap.objs.size) { s with heap := h', toks := tk }) :
    wpAny (model prog w) A (call (.type "set") [.ref l]) Q E s := by
  have size : its.size = xs.length := by rw [← StrsAre.len_eq ht, Array.length_toList]
  obtain ⟨c, tl, m1⟩ := PySem.F.called_set.mro
  have m2 := PySem.F.called_set.made
  have m3 := PySem.F.called_set.sub
  refine wpAny_call (codeAny_of_tree (?_ : wpAny _ _ (callAny (.type "set") _) _ _ _))
  refine wpAny_pure ⟨Code.quiet_builtin _ (by decide +kernel), codeAny_builtin PySem.F.entry_type_call (?_ : _)⟩
  rw [Around.under_plain (weight_type_call_type "set" [.ref l] []) rfl]
  have m4 := PySem.F.called_set.notType
  have m5 := PySem.F.called_set.canCreate
  have m6 := PySem.F.typeCall_set_1 (.ref l)
  repeat (any_goals (first | assumption | wp_step))
  refine codeAny_mono (code_set_new_1 (.ref l) (E := E) (Q₁ := fun made t => ∃ led : Bool, made = .ref s.heap.objs.size ∧ t = { s with heap := s.heap.push (emptyS led) }) fun led => ⟨led, rfl, rfl⟩) fun r t hr => ?_
  rcases r with e | fl
  · exact hr
  rcases fl with made | _ | _ | _
  rotate_left
  all_goals first | exact hr.elim | skip
  obtain ⟨led, rfl, rfl⟩ := hr
  have at' : (s.heap.push (emptyS led)).get? s.heap.objs.size = some (emptyS led) := Heap.get?_push_size _ rfl
  have ty : Shared.TypeIs { s with heap := s.heap.push (emptyS led) } (.ref s.heap.objs.size) "set" := ⟨_, at', rfl⟩
  have m7 := PySem.F.called_set.init.lookup
  have m8 := PySem.F.called_set.init.bind (.ref s.heap.objs.size)
  repeat (any_goals (first | assumption | wp_step))
  refine codeAny_mono (codeAny_call_builtin (R := wants (fun r t => r = .none ∧ ∃ h' tk, t = { s with heap := h', toks := tk } ∧ h'.SetOf (PySem.strKind prog w) s.heap.objs.size (upTo xs xs.length) (cntU xs xs.length) ∧
      (∀ b o, b < s.heap.objs.size → s.heap.get? b = some o → h'.get? b = some o)) E) PySem.F.called_set.init.plain PySem.F.entry_set_init (check_set_init_1 ty (?_ : _))) fun r t hr => ?_
  · obtain ⟨⟨oc, od, oda, os⟩, ho, hc, n, hd⟩ := hl
    dsimp only at hc hd
    subst hc hd
    have ho2 : (s.heap.push (emptyS led)).get? l = some { cls := .type "list", dict := od, data := .seq its n, slots := os } := Heap.get?_push_of_some _ ho
    have n1 := PySem.F.sub_list_set
    have n2 := PySem.F.sub_list_frozenset
    have n3 : (Value.type "list" == Value.type "dict") = false := by decide
    have hl1 : (s.heap.push (emptyS led)).IsList l its := ⟨_, ho2, rfl, n, rfl⟩
    unfold Builtin.«set.__init__» noKeywords Builtin.Frozenset.updateFrom
    generalize ep : pyIter = pit
    wp_walk
    subst ep
    have lt : l < s.heap.objs.size := Heap.lt_size ho
    have lS : (s.heap.push (emptyS led)).objs.size = s.heap.objs.size + 1 := Heap.size_push ..
    refine wpAny_pyIter_list hl1 (wpAny_bind (wpAny_runValue ?_))
    have key : ∀ (i : Nat) (v : Value), its[i]? = some v → ∃ t, v = .str (xs.getD i Str.empty) t := fun i v hv => SS.strs_at ht i v (by rw [Array.getElem?_toList]; exact hv)
    have walk := (Walks.list (prog := prog) (w := w) (A := A.in1.in1.in1) (by simp [calm]) (s.heap.push (emptyS led)).objs.size l (by rw [lS]; exact Nat.ne_of_lt (Nat.lt_succ_of_lt lt)) its).toS
    rw [size] at walk
    refine texts_in walk (by rw [lS]; simp only [List.mem_cons, List.not_mem_nil, or_false, not_or]; exact ⟨Nat.ne_of_lt (Nat.lt_succ_self _), Nat.ne_of_gt lt⟩) few key (fun t mv hS => ?_) ⟨⟨_, Heap.get?_push_size _ rfl, rfl, rfl⟩, hl1.push _⟩ ?_
    · obtain ⟨h', g', d', tk', os'⟩ := t
      obtain rfl : g' = s.gens := mv.gens
      obtain rfl : d' = s.drawn := mv.drawn
      obtain rfl : os' = s.os := mv.os
      show wpAny (model prog w) _ _ _ _ _
      refine wpAny_pure ?_
      show wpAny (model prog w) _ (ret Value.none) _ _ _
      refine wpAny_pure ⟨rfl, h', tk', rfl, hS, fun b o hb eb => mv.heap b o (by rw [lS]; simp only [List.mem_cons, List.not_mem_nil, or_false, not_or]; exact ⟨Nat.ne_of_lt hb, Nat.ne_of_lt (Nat.lt_succ_of_lt hb)⟩) (Heap.get?_push_of_some _ (Heap.get?_push_of_some _ eb))⟩
    · exact SetOf_congr ((PyProof.Rows.setObjOf_fresh (knd := PySem.strKind prog w) led).setOf (Heap.get?_push_of_some _ at') (by unfold scanBound; omega)) (fun z => by simp [L2.upTo]) rfl
  · rcases r with e | fl
    · exact hr
    rcases fl with made | _ | _ | _
    rotate_left
    all_goals first | exact hr.elim | skip
    obtain ⟨rfl, h', tk, rfl, hS, keep⟩ := hr
    repeat (any_goals (first | assumption | wp_step))
    exact q _ _ hS keep
end
/-! ### len(set(xs)) -/
section
variable {X : Cx}
def kLenU (K : PySem.W.Frag) (Q : VK) : VK := fun x H1 => ∃ (l : Addr) (xs : List Str), x = .ref l ∧ SqL K H1 l (xs.map V.str) ∧ xs.length ≤ 4000 ∧ Q (.int (cntU xs xs.length : Nat)) H1
def tLenU (K : PySem.W.Frag) (ta : TE) : TE := fun σ H Q => ta σ H (kLenU K Q)
theorem i_lenU {K : PySem.W.Frag} {ta : TE} {σ : L2.St} {H : Hp} {Q : VK} (q : ta σ H (kLenU K Q)) : tLenU K ta σ H Q := q
theorem i_kLenU {K : PySem.W.Frag} {H : Hp} {Q : VK} {l : Addr} {xs : List Str} (h : SqL K H l (xs.map V.str)) (c : xs.length ≤ 4000) (q : Q (.int (cntU xs xs.length : Nat)) H) : kLenU K Q (.ref l) H := ⟨l, xs, rfl, h, c, q⟩
theorem pe_lenU {a : Expr} {ta : TE} {p p2 q pos : Pos} (hg : Gl X "len") (hm : X.mg "len" = none) (hg2 : Gl X "set") (hm2 : X.mg "set" = none) (ha : PE X a ta) (hc : X.calm = true := by rfl)
    (na : starEach [a] X.env = (false, eval a X.env) :: starEach [] X.env := by rfl) : PE X (.Call (.Name "len" p) [.Call (.Name "set" p2) [a] [] q] [] pos) (tLenU X.K ta) :=
  ⟨fun pins s σ H Q I h => Call_ (ld_blt I hg hm boot_len (PyProof.Rows.callWith_builtin1 (PyProof.Rows.args_cons (Call_ (ld_blt I hg2 hm2 boot_set (PyProof.Rows.callWith_type1 (PyProof.Rows.args_cons
    (thn (ha.run pins s σ H _ I h) fun v s1 ⟨x, H1, I1, r1, q1⟩ => PyProof.Rows.args_nil (by
      obtain ⟨l, xs, rfl, hq, few, q1⟩ := q1
      obtain rfl : v = Value.ref l := r1
      obtain ⟨its, r, pl, hz⟩ := I1.list hq
      refine set_of_texts (its := its.toArray) (I1.ok.hd hc) pl.isList (by simpa using strsAre_of r) few fun h' tk hS hk => PyProof.Rows.args_nil ?_
      obtain ⟨o, es, ep, t, ho, hex, hd, _, _, _, hf, hn⟩ := hS
      have I2 : Inv X pins σ H1 { s1 with heap := h', toks := tk } := I1.kept fun b o e => hk b o (Heap.lt_size e) e
      have cl := cntU_le xs xs.length
      exact call_len_set ho hex hd hf (by rw [hn]; omega) ⟨.int (cntU xs xs.length : Nat), H1, I2.tok _, ⟨_, by rw [hn]⟩, q1⟩)) na) na rfl))) rfl) rfl rfl))⟩
end
end LSU

set_option Elab.async false
set_option linter.all false
set_option maxRecDepth 100000
set_option maxHeartbeats 2000000
/-! HXu: d.update(e), e a dict. -/
namespace HX
open PySem PySem.Spec PyProof.Rows L2
theorem mergeK_len : ∀ (more kvs : List (Key × V)), (mergeK kvs more).length ≤ kvs.length + more.length
  | [], kvs => by simp [mergeK]
  | kv :: r, kvs => by
    have h := mergeK_len r (putK kvs kv.1 kv.2)
    have h2 : (putK kvs kv.1 kv.2).length ≤ kvs.length + 1 := by
      unfold putK
      split
      · simp
      · simp
    show (mergeK (putK kvs kv.1 kv.2) r).length ≤ _
    simp only [List.length_cons]
    omega
def rDUpd : V → List V → Hp → VK → Prop := fun x vs H Q => ∃ (d o : Addr) (ks os : List (Key × V)), x = .ref d ∧ vs = [.ref o] ∧ H d = some (.dK ks) ∧ H o = some (.dK os) ∧ d ≠ o ∧ ks.length + os.length ≤ sizeLine ∧ Q .non (upd H d (.dK (mergeK ks os)))
section
variable {X : Cx}
theorem mt_dupd : MtR X "dict.update" rDUpd := by
  intro pins s σ H x xs v us Q I rx rxs h
  obtain ⟨d, o, ks, os, rfl, rfl, hd, ho, hne, hl, q⟩ := h
  cases rx
  obtain ⟨u, rfl, ru⟩ := rxs.one
  cases ru
  obtain ⟨_, yd, vd, rd, dd⟩ := (show ObjOk X.prog X.w H s.heap d (.dK ks) from I.hok d _ hd)
  obtain ⟨_, yo, vo, ro, d2⟩ := (show ObjOk X.prog X.w H s.heap o (.dK os) from I.hok o _ ho)
  refine call_meetsIn PySem.F.slot_dict_update dd.typeIs PySem.F.entry_dict_update (PySem.F.args_dict_update_2 _ _) (meets_dict_update (mixKind X.prog X.w) d o hne yo)
    ⟨vd, vo, dd, d2, (by rw [← rd.length, ← ro.length]; exact hl), fun h' hm _ hs => ?_⟩
  have ml := mergeK_len os ks
  obtain ⟨ob, es, ep, e1, e2⟩ := id hm
  exact ⟨.non, _, I.write (x := d) (e := d) (o := .dK (mergeK ks os)) (t' := s.toks) (by rw [hd]; trivial) (.inl rfl) (fun b u hb e => (hs.2 b hb).trans e) ⟨_, e1⟩ ⟨by omega, yd, _, ro.merge rd, hm⟩, rfl, q⟩
end
theorem i_kTyD {K : PySem.W.Frag} {H : Hp} {p : Addr} {ks : List (Key × V)} {Q : VK} (h : H p = some (.dK ks)) (q : Q (.ref p) H) : kTy K "dict" Q (.ref p) H := ⟨.inr (.inr (.inl ⟨rfl, .inl ⟨ks, h⟩⟩)), q⟩
end HX

set_option Elab.async false
set_option linter.all false
set_option maxRecDepth 100000
set_option maxHeartbeats 4000000
namespace K04
open PySem PySem.Spec PyProof.Rows L2 HX
def top (i : Nat) : Stmt := PySem.Challenge.pw_reachbook_k04_lines_there_and_back.main.body.getD i (.Pass ⟨0, 0, 0, 0⟩)
abbrev s_wall : Stmt := (top 0)
abbrev N_wall : List Str := ["k"]
theorem sc_wall : FnScope N_wall ["k"] (defScope s_wall) := ⟨rfl, rfl, rfl, by decide +kernel, rfl, by decide +kernel, by decide +kernel⟩
abbrev s_has_only : Stmt := (top 23)
abbrev N_has_only : List Str := ["text", "signs", "sign"]
theorem sc_has_only : FnScope N_has_only ["text", "signs"] (defScope s_has_only) := ⟨rfl, rfl, rfl, by decide +kernel, rfl, by decide +kernel, by decide +kernel⟩
abbrev s_is_whole : Stmt := (top 24)
abbrev N_is_whole : List Str := ["thing"]
theorem sc_is_whole : FnScope N_is_whole ["thing"] (defScope s_is_whole) := ⟨rfl, rfl, rfl, by decide +kernel, rfl, by decide +kernel, by decide +kernel⟩
abbrev s_is_among : Stmt := (top 25)
abbrev N_is_among : List Str := ["thing", "least", "most"]
theorem sc_is_among : FnScope N_is_among ["thing", "least", "most"] (defScope s_is_among) := ⟨rfl, rfl, rfl, by decide +kernel, rfl, by decide +kernel, by decide +kernel⟩
abbrev s_is_name : Stmt := (top 26)
abbrev N_is_name : List Str := ["thing"]
theorem sc_is_name : FnScope N_is_name ["thing"] (defScope s_is_name) := ⟨rfl, rfl, rfl, by decide +kernel, rfl, by decide +kernel, by decide +kernel⟩
abbrev s_number_text : Stmt := (top 27)
abbrev N_number_text : List Str := ["number"]
theorem sc_number_text : FnScope N_number_text ["number"] (defScope s_number_text) := ⟨rfl, rfl, rfl, by decide +kernel, rfl, by decide +kernel, by decide +kernel⟩
abbrev s_number_of : Stmt := (top 28)
abbrev N_number_of : List Str := ["word"]
theorem sc_number_of : FnScope N_number_of ["word"] (defScope s_number_of) := ⟨rfl, rfl, rfl, by decide +kernel, rfl, by decide +kernel, by decide +kernel⟩
abbrev s_words_of : Stmt := (top 29)
abbrev N_words_of : List Str := ["line", "words"]
theorem sc_words_of : FnScope N_words_of ["line"] (defScope s_words_of) := ⟨rfl, rfl, rfl, by decide +kernel, rfl, by decide +kernel, by decide +kernel⟩
abbrev s_Tie_init : Stmt := (inClass (top 34) 0)
abbrev N_Tie_init : List Str := ["self", "number", "tail", "head", "load", "is_oneway"]
theorem sc_Tie_init : FnScope N_Tie_init ["self", "number", "tail", "head", "load", "is_oneway"] (defScope s_Tie_init) := ⟨rfl, rfl, rfl, by decide +kernel, rfl, by decide +kernel, by decide +kernel⟩
abbrev s_between : Stmt := (top 35)
abbrev N_between : List Str := ["tie", "tail", "head"]
theorem sc_between : FnScope N_between ["tie", "tail", "head"] (defScope s_between) := ⟨rfl, rfl, rfl, by decide +kernel, rfl, by decide +kernel, by decide +kernel⟩
abbrev s_turned : Stmt := (top 36)
abbrev N_turned : List Str := ["tie", "name", "other", "tail", "head"]
theorem sc_turned : FnScope N_turned ["tie", "name", "other"] (defScope s_turned) := ⟨rfl, rfl, rfl, by decide +kernel, rfl, by decide +kernel, by decide +kernel⟩
abbrev s_Web_init : Stmt := (inClass (top 37) 0)
abbrev N_Web_init : List Str := ["self"]
theorem sc_Web_init : FnScope N_Web_init ["self"] (defScope s_Web_init) := ⟨rfl, rfl, rfl, by decide +kernel, rfl, by decide +kernel, by decide +kernel⟩
abbrev s_Web_points : Stmt := (inClass (top 37) 1)
abbrev N_Web_points : List Str := ["self"]
theorem sc_Web_points : FnScope N_Web_points ["self"] (defScope s_Web_points) := ⟨rfl, rfl, rfl, by decide +kernel, rfl, by decide +kernel, by decide +kernel⟩
abbrev s_Web_ties : Stmt := (inClass (top 37) 2)
abbrev N_Web_ties : List Str := ["self", "tie"]
theorem sc_Web_ties : FnScope N_Web_ties ["self"] (defScope s_Web_ties) := ⟨rfl, rfl, rfl, by decide +kernel, rfl, by decide +kernel, by decide +kernel⟩
abbrev s_Web_given : Stmt := (inClass (top 37) 3)
abbrev N_Web_given : List Str := ["self"]
theorem sc_Web_given : FnScope N_Web_given ["self"] (defScope s_Web_given) := ⟨rfl, rfl, rfl, by decide +kernel, rfl, by decide +kernel, by decide +kernel⟩
abbrev s_Web_put_point : Stmt := (inClass (top 37) 4)
abbrev N_Web_put_point : List Str := ["self", "name"]
theorem sc_Web_put_point : FnScope N_Web_put_point ["self", "name"] (defScope s_Web_put_point) := ⟨rfl, rfl, rfl, by decide +kernel, rfl, by decide +kernel, by decide +kernel⟩
abbrev s_Web_drop_point : Stmt := (inClass (top 37) 5)
abbrev N_Web_drop_point : List Str := ["self", "name", "tie"]
theorem sc_Web_drop_point : FnScope N_Web_drop_point ["self", "name"] (defScope s_Web_drop_point) := ⟨rfl, rfl, rfl, by decide +kernel, rfl, by decide +kernel, by decide +kernel⟩
abbrev s_Web_rename : Stmt := (inClass (top 37) 6)
abbrev N_Web_rename : List Str := ["self", "name", "other", "number", "tie"]
theorem sc_Web_rename : FnScope N_Web_rename ["self", "name", "other"] (defScope s_Web_rename) := ⟨rfl, rfl, rfl, by decide +kernel, rfl, by decide +kernel, by decide +kernel⟩
abbrev s_Web_put_tie : Stmt := (inClass (top 37) 7)
abbrev N_Web_put_tie : List Str := ["self", "tail", "head", "load", "is_oneway"]
theorem sc_Web_put_tie : FnScope N_Web_put_tie ["self", "tail", "head", "load", "is_oneway"] (defScope s_Web_put_tie) := ⟨rfl, rfl, rfl, by decide +kernel, rfl, by decide +kernel, by decide +kernel⟩
abbrev s_Web_drop_tie : Stmt := (inClass (top 37) 9)
abbrev N_Web_drop_tie : List Str := ["self", "number"]
theorem sc_Web_drop_tie : FnScope N_Web_drop_tie ["self", "number"] (defScope s_Web_drop_tie) := ⟨rfl, rfl, rfl, by decide +kernel, rfl, by decide +kernel, by decide +kernel⟩
abbrev s_Web_set_load : Stmt := (inClass (top 37) 10)
abbrev N_Web_set_load : List Str := ["self", "number", "load", "tie"]
theorem sc_Web_set_load : FnScope N_Web_set_load ["self", "number", "load"] (defScope s_Web_set_load) := ⟨rfl, rfl, rfl, by decide +kernel, rfl, by decide +kernel, by decide +kernel⟩
abbrev s_Web_join : Stmt := (inClass (top 37) 11)
abbrev N_Web_join : List Str := ["self", "name", "other", "turned", "tie"]
theorem sc_Web_join : FnScope N_Web_join ["self", "name", "other"] (defScope s_Web_join) := ⟨rfl, rfl, rfl, by decide +kernel, rfl, by decide +kernel, by decide +kernel⟩
abbrev s_Web_part : Stmt := (inClass (top 37) 12)
abbrev N_Web_part : List Str := ["self", "name", "other", "numbers", "number"]
theorem sc_Web_part : FnScope N_Web_part ["self", "name", "other", "numbers"] (defScope s_Web_part) := ⟨rfl, rfl, rfl, by decide +kernel, rfl, by decide +kernel, by decide +kernel⟩
abbrev s_Web_need_point : Stmt := (inClass (top 37) 14)
abbrev N_Web_need_point : List Str := ["self", "name"]
theorem sc_Web_need_point : FnScope N_Web_need_point ["self", "name"] (defScope s_Web_need_point) := ⟨rfl, rfl, rfl, by decide +kernel, rfl, by decide +kernel, by decide +kernel⟩
abbrev s_Web_need_new_name : Stmt := (inClass (top 37) 15)
abbrev N_Web_need_new_name : List Str := ["self", "name"]
theorem sc_Web_need_new_name : FnScope N_Web_need_new_name ["self", "name"] (defScope s_Web_need_new_name) := ⟨rfl, rfl, rfl, by decide +kernel, rfl, by decide +kernel, by decide +kernel⟩
abbrev s_Web_need_new_point : Stmt := (inClass (top 37) 16)
abbrev N_Web_need_new_point : List Str := ["self", "name"]
theorem sc_Web_need_new_point : FnScope N_Web_need_new_point ["self", "name"] (defScope s_Web_need_new_point) := ⟨rfl, rfl, rfl, by decide +kernel, rfl, by decide +kernel, by decide +kernel⟩
abbrev s_Web_need_tie : Stmt := (inClass (top 37) 17)
abbrev N_Web_need_tie : List Str := ["self", "number"]
theorem sc_Web_need_tie : FnScope N_Web_need_tie ["self", "number"] (defScope s_Web_need_tie) := ⟨rfl, rfl, rfl, by decide +kernel, rfl, by decide +kernel, by decide +kernel⟩
abbrev s_Web_need_ties_at : Stmt := (inClass (top 37) 18)
abbrev N_Web_need_ties_at : List Str := ["self", "name", "numbers", "seen", "number", "tie"]
theorem sc_Web_need_ties_at : FnScope N_Web_need_ties_at ["self", "name", "numbers"] (defScope s_Web_need_ties_at) := ⟨rfl, rfl, rfl, by decide +kernel, rfl, by decide +kernel, by decide +kernel⟩
abbrev s_need_load : Stmt := (top 38)
abbrev N_need_load : List Str := ["load"]
theorem sc_need_load : FnScope N_need_load ["load"] (defScope s_need_load) := ⟨rfl, rfl, rfl, by decide +kernel, rfl, by decide +kernel, by decide +kernel⟩
abbrev s_tie_line : Stmt := (top 39)
abbrev N_tie_line : List Str := ["tie", "word", "number"]
theorem sc_tie_line : FnScope N_tie_line ["tie"] (defScope s_tie_line) := ⟨rfl, rfl, rfl, by decide +kernel, rfl, by decide +kernel, by decide +kernel⟩
abbrev s_web_lines : Stmt := (top 40)
abbrev N_web_lines : List Str := ["web", "lines", "name", "tie"]
theorem sc_web_lines : FnScope N_web_lines ["web"] (defScope s_web_lines) := ⟨rfl, rfl, rfl, by decide +kernel, rfl, by decide +kernel, by decide +kernel⟩
abbrev s_put_point_words : Stmt := (top 41)
abbrev N_put_point_words : List Str := ["web", "words"]
theorem sc_put_point_words : FnScope N_put_point_words ["web", "words"] (defScope s_put_point_words) := ⟨rfl, rfl, rfl, by decide +kernel, rfl, by decide +kernel, by decide +kernel⟩
abbrev s_put_tie_words : Stmt := (top 42)
abbrev N_put_tie_words : List Str := ["web", "words", "number", "load"]
theorem sc_put_tie_words : FnScope N_put_tie_words ["web", "words"] (defScope s_put_tie_words) := ⟨rfl, rfl, rfl, by decide +kernel, rfl, by decide +kernel, by decide +kernel⟩
abbrev s_set_given_words : Stmt := (top 43)
abbrev N_set_given_words : List Str := ["web", "words", "number"]
theorem sc_set_given_words : FnScope N_set_given_words ["web", "words"] (defScope s_set_given_words) := ⟨rfl, rfl, rfl, by decide +kernel, rfl, by decide +kernel, by decide +kernel⟩
abbrev s_take_words : Stmt := (top 44)
abbrev N_take_words : List Str := ["web", "words"]
theorem sc_take_words : FnScope N_take_words ["web", "words"] (defScope s_take_words) := ⟨rfl, rfl, rfl, by decide +kernel, rfl, by decide +kernel, by decide +kernel⟩
abbrev s_stands : Stmt := (top 45)
abbrev N_stands : List Str := ["web", "words"]
theorem sc_stands : FnScope N_stands ["web", "words"] (defScope s_stands) := ⟨rfl, rfl, rfl, by decide +kernel, rfl, by decide +kernel, by decide +kernel⟩
abbrev s_web_of : Stmt := (top 46)
abbrev N_web_of : List Str := ["lines", "web", "is_ended", "place", "line", "words"]
theorem sc_web_of : FnScope N_web_of ["lines"] (defScope s_web_of) := ⟨rfl, rfl, rfl, by decide +kernel, rfl, by decide +kernel, by decide +kernel⟩
abbrev s_law_draw : Stmt := (top 48)
abbrev N_law_draw : List Str := ["_law_cell", "_law_k", "_law_j", "_law_more"]
theorem sc_law_draw : FnScope N_law_draw ["_law_cell", "_law_k", "_law_j"] (defScope s_law_draw) := ⟨rfl, rfl, rfl, by decide +kernel, rfl, by decide +kernel, by decide +kernel⟩
abbrev s_law_load : Stmt := (top 49)
abbrev N_law_load : List Str := ["_law_cell", "_law_k", "_law_j", "_law_n", "_law_some"]
theorem sc_law_load : FnScope N_law_load ["_law_cell", "_law_k", "_law_j"] (defScope s_law_load) := ⟨rfl, rfl, rfl, by decide +kernel, rfl, by decide +kernel, by decide +kernel⟩
abbrev s_law_pool : Stmt := (top 50)
abbrev N_law_pool : List Str := ["_law_cell", "_law_letters", "_law_n", "_law_base", "_law_frame", "_law_at_here", "_law_signs", "_law_found", "_law_j", "_law_sign", "_law_name"]
theorem sc_law_pool : FnScope N_law_pool ["_law_cell"] (defScope s_law_pool) := ⟨rfl, rfl, rfl, by decide +kernel, rfl, by decide +kernel, by decide +kernel⟩
abbrev s_law_whole : Stmt := (top 51)
abbrev N_law_whole : List Str := ["_law_thing", "_law_due"]
theorem sc_law_whole : FnScope N_law_whole ["_law_thing", "_law_due"] (defScope s_law_whole) := ⟨rfl, rfl, rfl, by decide +kernel, rfl, by decide +kernel, by decide +kernel⟩
abbrev s_law_put_tie : Stmt := (top 52)
abbrev N_law_put_tie : List Str := ["_law_web", "_law_model", "_law_cell", "_law_k", "_law_names", "_law_n", "_law_tail", "_law_head", "_law_load_here", "_law_oneway", "_law_found"]
theorem sc_law_put_tie : FnScope N_law_put_tie ["_law_web", "_law_model", "_law_cell", "_law_k"] (defScope s_law_put_tie) := ⟨rfl, rfl, rfl, by decide +kernel, rfl, by decide +kernel, by decide +kernel⟩
abbrev s_law_tie_changed : Stmt := (top 53)
abbrev N_law_tie_changed : List Str := ["_law_web", "_law_model", "_law_cell", "_law_k", "_law_is_gone", "_law_n", "_law_number_here", "_law_tail", "_law_head", "_law_load_here", "_law_oneway"]
theorem sc_law_tie_changed : FnScope N_law_tie_changed ["_law_web", "_law_model", "_law_cell", "_law_k", "_law_is_gone"] (defScope s_law_tie_changed) := ⟨rfl, rfl, rfl, by decide +kernel, rfl, by decide +kernel, by decide +kernel⟩
abbrev s_law_moved : Stmt := (top 54)
abbrev N_law_moved : List Str := ["_law_model", "_law_name", "_law_other", "_law_numbers", "_law_number_here", "_law_tail", "_law_head", "_law_load_here", "_law_oneway"]
theorem sc_law_moved : FnScope N_law_moved ["_law_model", "_law_name", "_law_other", "_law_numbers"] (defScope s_law_moved) := ⟨rfl, rfl, rfl, by decide +kernel, rfl, by decide +kernel, by decide +kernel⟩
abbrev s_law_at : Stmt := (top 55)
abbrev N_law_at : List Str := ["_law_model", "_law_name", "_law_number_here"]
theorem sc_law_at : FnScope N_law_at ["_law_model", "_law_name"] (defScope s_law_at) := ⟨rfl, rfl, rfl, by decide +kernel, rfl, by decide +kernel, by decide +kernel⟩
abbrev s_law_point_changed : Stmt := (top 56)
abbrev N_law_point_changed : List Str := ["_law_web", "_law_model", "_law_free", "_law_cell", "_law_k", "_law_way", "_law_names", "_law_n", "_law_name", "_law_own", "_law_other", "_law_bits", "_law_chosen", "_law_handed", "_law_number_here", "_law_idle", "_law_gone", "_law_j", "_law_bit", "_law_one"]
theorem sc_law_point_changed : FnScope N_law_point_changed ["_law_web", "_law_model", "_law_free", "_law_cell", "_law_k", "_law_way"] (defScope s_law_point_changed) := ⟨rfl, rfl, rfl, by decide +kernel, rfl, by decide +kernel, by decide +kernel⟩
abbrev s_law_deed : Stmt := (top 57)
abbrev N_law_deed : List Str := ["_law_web", "_law_model", "_law_pool_here", "_law_cell", "_law_k", "_law_names", "_law_way", "_law_free", "_law_name"]
theorem sc_law_deed : FnScope N_law_deed ["_law_web", "_law_model", "_law_pool_here", "_law_cell", "_law_k"] (defScope s_law_deed) := ⟨rfl, rfl, rfl, by decide +kernel, rfl, by decide +kernel, by decide +kernel⟩
abbrev s_law_row : Stmt := (top 58)
abbrev N_law_row : List Str := ["_law_tie", "_law_row_here", "_law_one"]
theorem sc_law_row : FnScope N_law_row ["_law_tie"] (defScope s_law_row) := ⟨rfl, rfl, rfl, by decide +kernel, rfl, by decide +kernel, by decide +kernel⟩
abbrev s_law_rows : Stmt := (top 59)
abbrev N_law_rows : List Str := ["_law_model", "_law_number_here"]
theorem sc_law_rows : FnScope N_law_rows ["_law_model"] (defScope s_law_rows) := ⟨rfl, rfl, rfl, by decide +kernel, rfl, by decide +kernel, by decide +kernel⟩
abbrev s_law_stands : Stmt := (top 60)
abbrev N_law_stands : List Str := ["_law_web", "_law_model", "_law_found", "_law_tie"]
theorem sc_law_stands : FnScope N_law_stands ["_law_web", "_law_model"] (defScope s_law_stands) := ⟨rfl, rfl, rfl, by decide +kernel, rfl, by decide +kernel, by decide +kernel⟩
abbrev s_law_none : Stmt := (top 61)
abbrev N_law_none : List Str := []
theorem sc_law_none : FnScope N_law_none [] (defScope s_law_none) := ⟨rfl, rfl, rfl, by decide +kernel, rfl, by decide +kernel, by decide +kernel⟩
abbrev s_law_built : Stmt := (top 62)
abbrev N_law_built : List Str := ["_law_cells", "_law_pool_here", "_law_web", "_law_model", "_law_good_here", "_law_k", "_law_cell"]
theorem sc_law_built : FnScope N_law_built ["_law_cells", "_law_pool_here"] (defScope s_law_built) := ⟨rfl, rfl, rfl, by decide +kernel, rfl, by decide +kernel, by decide +kernel⟩
abbrev s_law_word : Stmt := (top 63)
abbrev N_law_word : List Str := ["_law_e", "_law_some", "_law_found", "_law_word_here", "_law_good_here"]
theorem sc_law_word : FnScope N_law_word ["_law_e"] (defScope s_law_word) := ⟨rfl, rfl, rfl, by decide +kernel, rfl, by decide +kernel, by decide +kernel⟩
abbrev s_law_lines : Stmt := (top 64)
abbrev N_law_lines : List Str := ["_law_model", "_law_found", "_law_number_here", "_law_tail", "_law_head", "_law_load_here", "_law_oneway", "_law_name"]
theorem sc_law_lines : FnScope N_law_lines ["_law_model"] (defScope s_law_lines) := ⟨rfl, rfl, rfl, by decide +kernel, rfl, by decide +kernel, by decide +kernel⟩
abbrev s_law_number : Stmt := (top 65)
abbrev N_law_number : List Str := ["_law_word_here", "_law_sign"]
theorem sc_law_number : FnScope N_law_number ["_law_word_here"] (defScope s_law_number) := ⟨rfl, rfl, rfl, by decide +kernel, rfl, by decide +kernel, by decide +kernel⟩
abbrev s_law_is_name : Stmt := (top 66)
abbrev N_law_is_name : List Str := ["_law_word_here", "_law_sign"]
theorem sc_law_is_name : FnScope N_law_is_name ["_law_word_here"] (defScope s_law_is_name) := ⟨rfl, rfl, rfl, by decide +kernel, rfl, by decide +kernel, by decide +kernel⟩
abbrev s_law_among : Stmt := (top 67)
abbrev N_law_among : List Str := ["_law_number_here", "_law_least", "_law_most"]
theorem sc_law_among : FnScope N_law_among ["_law_number_here", "_law_least", "_law_most"] (defScope s_law_among) := ⟨rfl, rfl, rfl, by decide +kernel, rfl, by decide +kernel, by decide +kernel⟩
abbrev s_law_tie_read : Stmt := (top 68)
abbrev N_law_tie_read : List Str := ["_law_model", "_law_words", "_law_number_here", "_law_load_here"]
theorem sc_law_tie_read : FnScope N_law_tie_read ["_law_model", "_law_words"] (defScope s_law_tie_read) := ⟨rfl, rfl, rfl, by decide +kernel, rfl, by decide +kernel, by decide +kernel⟩
abbrev s_law_line_read : Stmt := (top 69)
abbrev N_law_line_read : List Str := ["_law_model", "_law_line", "_law_words", "_law_number_here"]
theorem sc_law_line_read : FnScope N_law_line_read ["_law_model", "_law_line"] (defScope s_law_line_read) := ⟨rfl, rfl, rfl, by decide +kernel, rfl, by decide +kernel, by decide +kernel⟩
abbrev s_law_read : Stmt := (top 70)
abbrev N_law_read : List Str := ["_law_lines_here", "_law_model", "_law_place", "_law_line"]
theorem sc_law_read : FnScope N_law_read ["_law_lines_here"] (defScope s_law_read) := ⟨rfl, rfl, rfl, by decide +kernel, rfl, by decide +kernel, by decide +kernel⟩
abbrev s_law_line_bent : Stmt := (top 71)
abbrev N_law_line_bent : List Str := ["_law_line", "_law_n", "_law_words", "_law_at_here", "_law_some", "_law_word_here"]
theorem sc_law_line_bent : FnScope N_law_line_bent ["_law_line", "_law_n"] (defScope s_law_line_bent) := ⟨rfl, rfl, rfl, by decide +kernel, rfl, by decide +kernel, by decide +kernel⟩
abbrev s_law_bent : Stmt := (top 72)
abbrev N_law_bent : List Str := ["_law_lines_here", "_law_cell", "_law_k", "_law_n", "_law_at_here", "_law_to", "_law_found"]
theorem sc_law_bent : FnScope N_law_bent ["_law_lines_here", "_law_cell", "_law_k"] (defScope s_law_bent) := ⟨rfl, rfl, rfl, by decide +kernel, rfl, by decide +kernel, by decide +kernel⟩
abbrev s_law_tried : Stmt := (top 73)
abbrev N_law_tried : List Str := ["_law_lines_here", "_law_web", "_law_found", "_law_e"]
theorem sc_law_tried : FnScope N_law_tried ["_law_lines_here"] (defScope s_law_tried) := ⟨rfl, rfl, rfl, by decide +kernel, rfl, by decide +kernel, by decide +kernel⟩
abbrev s_law_good : Stmt := (top 74)
abbrev N_law_good : List Str := ["_law_lines_here", "_law_due", "_law_handed", "_law_web", "_law_e"]
theorem sc_law_good : FnScope N_law_good ["_law_lines_here"] (defScope s_law_good) := ⟨rfl, rfl, rfl, by decide +kernel, rfl, by decide +kernel, by decide +kernel⟩
abbrev s_law : Stmt := (top 75)
abbrev N_law : List Str := ["_law_script", "_law_cells", "_law_pool_here", "_law_web", "_law_model", "_law_good_here", "_law_lines_here", "_law_turn", "_law_found", "_law_k", "_law_cell", "_law_odd", "_law_e"]
theorem sc_law : FnScope N_law ["_law_script"] (defScope s_law) := ⟨rfl, rfl, rfl, by decide +kernel, rfl, by decide +kernel, by decide +kernel⟩
structure Tx (K : PySem.W.Frag) (mg : Str → Option Value) where
  b_ValueError : mg "ValueError" = none
  b_bool : mg "bool" = none
  b_enumerate : mg "enumerate" = none
  b_int : mg "int" = none
  b_isinstance : mg "isinstance" = none
  b_len : mg "len" = none
  b_list : mg "list" = none
  b_range : mg "range" = none
  b_set : mg "set" = none
  b_sorted : mg "sorted" = none
  b_str : mg "str" = none
  b_sum : mg "sum" = none
  b_zip : mg "zip" = none
  c_LETTERS : ∃ t, mg "LETTERS" = some (.str "abcdefghijklmnopqrstuvwxyz" t)
  c_FIGURES : ∃ t, mg "FIGURES" = some (.str "0123456789" t)
  c_MOST_LETTERS : ∃ t, mg "MOST_LETTERS" = some (.int 12 t)
  c_MOST_FIGURES : ∃ t, mg "MOST_FIGURES" = some (.int 61 t)
  c_MOST : ∃ t, mg "MOST" = some (.int 1000000000000000000000000000000000000000000000000000000000000 t)
  c_MOST_POINTS : ∃ t, mg "MOST_POINTS" = some (.int 16 t)
  c_MOST_TIES : ∃ t, mg "MOST_TIES" = some (.int 48 t)
  g_Tie : mg "Tie" = some (.ref (He.ga K "Tie"))
  cl_Tie : Cls K (He.ga K "Tie")
  mk_Tie : Mk K (He.ga K "Tie") (He.ma K (He.ga K "Tie") "__init__")
  na_Tie_number : NoAttr K (He.ga K "Tie") "number"
  na_Tie_tail : NoAttr K (He.ga K "Tie") "tail"
  na_Tie_head : NoAttr K (He.ga K "Tie") "head"
  na_Tie_load : NoAttr K (He.ga K "Tie") "load"
  na_Tie_is_oneway : NoAttr K (He.ga K "Tie") "is_oneway"
  g_Web : mg "Web" = some (.ref (He.ga K "Web"))
  cl_Web : Cls K (He.ga K "Web")
  mk_Web : Mk K (He.ga K "Web") (He.ma K (He.ga K "Web") "__init__")
  na_Web_points : NoAttr K (He.ga K "Web") "_points"
  na_Web_ties : NoAttr K (He.ga K "Web") "_ties"
  na_Web_given : NoAttr K (He.ga K "Web") "_given"
  b_super : mg "super" = none
  g_WebError : mg "WebError" = some (.ref (He.ga K "WebError"))
  g_NoPoint : mg "NoPoint" = some (.ref (He.ga K "NoPoint"))
  g_NoTie : mg "NoTie" = some (.ref (He.ga K "NoTie"))
  g_BadLine : mg "BadLine" = some (.ref (He.ga K "BadLine"))
  g_BadName : mg "BadName" = some (.ref (He.ga K "BadName"))
  g_Twice : mg "Twice" = some (.ref (He.ga K "Twice"))
  g_TooMany : mg "TooMany" = some (.ref (He.ga K "TooMany"))
  g_BadTie : mg "BadTie" = some (.ref (He.ga K "BadTie"))
  g_BadLoad : mg "BadLoad" = some (.ref (He.ga K "BadLoad"))
  g_HasTies : mg "HasTies" = some (.ref (He.ga K "HasTies"))
  g_SamePoint : mg "SamePoint" = some (.ref (He.ga K "SamePoint"))
  xm_NoPoint : PySem.W.exmOne K (.ref (He.ga K "NoPoint")) (.ref (He.ga K "WebError")) = some true
  xm_NoTie : PySem.W.exmOne K (.ref (He.ga K "NoTie")) (.ref (He.ga K "WebError")) = some true
  xm_BadLine : PySem.W.exmOne K (.ref (He.ga K "BadLine")) (.ref (He.ga K "WebError")) = some true
  xm_BadName : PySem.W.exmOne K (.ref (He.ga K "BadName")) (.ref (He.ga K "WebError")) = some true
  x_BadName : PySem.W.excIn K (He.ga K "BadName") He.veBase "ValueError.__new__" = true ∧ PySem.W.keepIn K (.ref (He.ga K "BadName")) = true ∧ PySem.W.subIn K (.ref (He.ga K "BadName")) (.type "BaseException") = some true ∧ PySem.W.typeIn K (.ref (He.ga K "BadName")) = some (.type "type")
  xm_Twice : PySem.W.exmOne K (.ref (He.ga K "Twice")) (.ref (He.ga K "WebError")) = some true
  x_Twice : PySem.W.excIn K (He.ga K "Twice") He.veBase "ValueError.__new__" = true ∧ PySem.W.keepIn K (.ref (He.ga K "Twice")) = true ∧ PySem.W.subIn K (.ref (He.ga K "Twice")) (.type "BaseException") = some true ∧ PySem.W.typeIn K (.ref (He.ga K "Twice")) = some (.type "type")
  xm_TooMany : PySem.W.exmOne K (.ref (He.ga K "TooMany")) (.ref (He.ga K "WebError")) = some true
  x_TooMany : PySem.W.excIn K (He.ga K "TooMany") He.veBase "ValueError.__new__" = true ∧ PySem.W.keepIn K (.ref (He.ga K "TooMany")) = true ∧ PySem.W.subIn K (.ref (He.ga K "TooMany")) (.type "BaseException") = some true ∧ PySem.W.typeIn K (.ref (He.ga K "TooMany")) = some (.type "type")
  xm_BadTie : PySem.W.exmOne K (.ref (He.ga K "BadTie")) (.ref (He.ga K "WebError")) = some true
  x_BadTie : PySem.W.excIn K (He.ga K "BadTie") He.veBase "ValueError.__new__" = true ∧ PySem.W.keepIn K (.ref (He.ga K "BadTie")) = true ∧ PySem.W.subIn K (.ref (He.ga K "BadTie")) (.type "BaseException") = some true ∧ PySem.W.typeIn K (.ref (He.ga K "BadTie")) = some (.type "type")
  xm_BadLoad : PySem.W.exmOne K (.ref (He.ga K "BadLoad")) (.ref (He.ga K "WebError")) = some true
  x_BadLoad : PySem.W.excIn K (He.ga K "BadLoad") He.veBase "ValueError.__new__" = true ∧ PySem.W.keepIn K (.ref (He.ga K "BadLoad")) = true ∧ PySem.W.subIn K (.ref (He.ga K "BadLoad")) (.type "BaseException") = some true ∧ PySem.W.typeIn K (.ref (He.ga K "BadLoad")) = some (.type "type")
  xm_HasTies : PySem.W.exmOne K (.ref (He.ga K "HasTies")) (.ref (He.ga K "WebError")) = some true
  x_HasTies : PySem.W.excIn K (He.ga K "HasTies") He.veBase "ValueError.__new__" = true ∧ PySem.W.keepIn K (.ref (He.ga K "HasTies")) = true ∧ PySem.W.subIn K (.ref (He.ga K "HasTies")) (.type "BaseException") = some true ∧ PySem.W.typeIn K (.ref (He.ga K "HasTies")) = some (.type "type")
  xm_SamePoint : PySem.W.exmOne K (.ref (He.ga K "SamePoint")) (.ref (He.ga K "WebError")) = some true
  x_SamePoint : PySem.W.excIn K (He.ga K "SamePoint") He.veBase "ValueError.__new__" = true ∧ PySem.W.keepIn K (.ref (He.ga K "SamePoint")) = true ∧ PySem.W.subIn K (.ref (He.ga K "SamePoint")) (.type "BaseException") = some true ∧ PySem.W.typeIn K (.ref (He.ga K "SamePoint")) = some (.type "type")
  g_BadText : mg "BadText" = some (.ref (He.ga K "BadText"))
  g_NoDeed : mg "NoDeed" = some (.ref (He.ga K "NoDeed"))
  g_BadBundle : mg "BadBundle" = some (.ref (He.ga K "BadBundle"))
  g_NoState : mg "NoState" = some (.ref (He.ga K "NoState"))
  g_BadForest : mg "BadForest" = some (.ref (He.ga K "BadForest"))
  g_wall : mg "_wall" = some (.ref (He.ga K "_wall"))
  g_has_only : mg "_has_only" = some (.ref (He.ga K "_has_only"))
  g_is_whole : mg "is_whole" = some (.ref (He.ga K "is_whole"))
  g_is_among : mg "is_among" = some (.ref (He.ga K "is_among"))
  g_is_name : mg "is_name" = some (.ref (He.ga K "is_name"))
  g_number_text : mg "number_text" = some (.ref (He.ga K "number_text"))
  g_number_of : mg "number_of" = some (.ref (He.ga K "number_of"))
  g_words_of : mg "words_of" = some (.ref (He.ga K "words_of"))
  g_between : mg "_between" = some (.ref (He.ga K "_between"))
  g_turned : mg "_turned" = some (.ref (He.ga K "_turned"))
  m_Web_points : Meth K (He.ga K "Web") "points" (He.ma K (He.ga K "Web") "points")
  m_Web_ties : Meth K (He.ga K "Web") "ties" (He.ma K (He.ga K "Web") "ties")
  m_Web_given : Meth K (He.ga K "Web") "given" (He.ma K (He.ga K "Web") "given")
  m_Web_put_point : Meth K (He.ga K "Web") "put_point" (He.ma K (He.ga K "Web") "put_point")
  m_Web_drop_point : Meth K (He.ga K "Web") "drop_point" (He.ma K (He.ga K "Web") "drop_point")
  m_Web_rename : Meth K (He.ga K "Web") "rename" (He.ma K (He.ga K "Web") "rename")
  m_Web_put_tie : Meth K (He.ga K "Web") "put_tie" (He.ma K (He.ga K "Web") "put_tie")
  m_Web_drop_tie : Meth K (He.ga K "Web") "drop_tie" (He.ma K (He.ga K "Web") "drop_tie")
  m_Web_set_load : Meth K (He.ga K "Web") "set_load" (He.ma K (He.ga K "Web") "set_load")
  m_Web_join : Meth K (He.ga K "Web") "join" (He.ma K (He.ga K "Web") "join")
  m_Web_part : Meth K (He.ga K "Web") "part" (He.ma K (He.ga K "Web") "part")
  m_Web_need_point : Meth K (He.ga K "Web") "_need_point" (He.ma K (He.ga K "Web") "_need_point")
  m_Web_need_new_name : Meth K (He.ga K "Web") "_need_new_name" (He.ma K (He.ga K "Web") "_need_new_name")
  m_Web_need_new_point : Meth K (He.ga K "Web") "_need_new_point" (He.ma K (He.ga K "Web") "_need_new_point")
  m_Web_need_tie : Meth K (He.ga K "Web") "_need_tie" (He.ma K (He.ga K "Web") "_need_tie")
  m_Web_need_ties_at : Meth K (He.ga K "Web") "_need_ties_at" (He.ma K (He.ga K "Web") "_need_ties_at")
  g_need_load : mg "_need_load" = some (.ref (He.ga K "_need_load"))
  g_tie_line : mg "_tie_line" = some (.ref (He.ga K "_tie_line"))
  g_web_lines : mg "web_lines" = some (.ref (He.ga K "web_lines"))
  g_put_point_words : mg "_put_point_words" = some (.ref (He.ga K "_put_point_words"))
  g_put_tie_words : mg "_put_tie_words" = some (.ref (He.ga K "_put_tie_words"))
  g_set_given_words : mg "_set_given_words" = some (.ref (He.ga K "_set_given_words"))
  g_take_words : mg "_take_words" = some (.ref (He.ga K "_take_words"))
  g_stands : mg "_stands" = some (.ref (He.ga K "_stands"))
  g_web_of : mg "web_of" = some (.ref (He.ga K "web_of"))
  g_law_draw : mg "_law_draw" = some (.ref (He.ga K "_law_draw"))
  g_law_load : mg "_law_load" = some (.ref (He.ga K "_law_load"))
  g_law_pool : mg "_law_pool" = some (.ref (He.ga K "_law_pool"))
  g_law_whole : mg "_law_whole" = some (.ref (He.ga K "_law_whole"))
  g_law_put_tie : mg "_law_put_tie" = some (.ref (He.ga K "_law_put_tie"))
  g_law_tie_changed : mg "_law_tie_changed" = some (.ref (He.ga K "_law_tie_changed"))
  g_law_moved : mg "_law_moved" = some (.ref (He.ga K "_law_moved"))
  g_law_at : mg "_law_at" = some (.ref (He.ga K "_law_at"))
  g_law_point_changed : mg "_law_point_changed" = some (.ref (He.ga K "_law_point_changed"))
  g_law_deed : mg "_law_deed" = some (.ref (He.ga K "_law_deed"))
  g_law_row : mg "_law_row" = some (.ref (He.ga K "_law_row"))
  g_law_rows : mg "_law_rows" = some (.ref (He.ga K "_law_rows"))
  g_law_stands : mg "_law_stands" = some (.ref (He.ga K "_law_stands"))
  g_law_none : mg "_law_none" = some (.ref (He.ga K "_law_none"))
  g_law_built : mg "_law_built" = some (.ref (He.ga K "_law_built"))
  g_law_word : mg "_law_word" = some (.ref (He.ga K "_law_word"))
  g_law_lines : mg "_law_lines" = some (.ref (He.ga K "_law_lines"))
  g_law_number : mg "_law_number" = some (.ref (He.ga K "_law_number"))
  g_law_is_name : mg "_law_is_name" = some (.ref (He.ga K "_law_is_name"))
  g_law_among : mg "_law_among" = some (.ref (He.ga K "_law_among"))
  g_law_tie_read : mg "_law_tie_read" = some (.ref (He.ga K "_law_tie_read"))
  g_law_line_read : mg "_law_line_read" = some (.ref (He.ga K "_law_line_read"))
  g_law_read : mg "_law_read" = some (.ref (He.ga K "_law_read"))
  g_law_line_bent : mg "_law_line_bent" = some (.ref (He.ga K "_law_line_bent"))
  g_law_bent : mg "_law_bent" = some (.ref (He.ga K "_law_bent"))
  g_law_tried : mg "_law_tried" = some (.ref (He.ga K "_law_tried"))
  g_law_good : mg "_law_good" = some (.ref (He.ga K "_law_good"))
  g_law : mg "law" = some (.ref (He.ga K "law"))
  fd_wall : FuncData
  F_wall : FunD K "_wall" "_wall" (defArgs s_wall) (defBody s_wall) (defScope s_wall) [] [] (He.ga K "_wall") fd_wall
  k_wall : Binds K fd_wall ["k"] []
  fd_has_only : FuncData
  F_has_only : FunD K "_has_only" "_has_only" (defArgs s_has_only) (defBody s_has_only) (defScope s_has_only) [] [] (He.ga K "_has_only") fd_has_only
  k_has_only : Binds K fd_has_only ["text", "signs"] []
  fd_is_whole : FuncData
  F_is_whole : FunD K "is_whole" "is_whole" (defArgs s_is_whole) (defBody s_is_whole) (defScope s_is_whole) [] [] (He.ga K "is_whole") fd_is_whole
  k_is_whole : Binds K fd_is_whole ["thing"] []
  fd_is_among : FuncData
  F_is_among : FunD K "is_among" "is_among" (defArgs s_is_among) (defBody s_is_among) (defScope s_is_among) [] [] (He.ga K "is_among") fd_is_among
  k_is_among : Binds K fd_is_among ["thing", "least", "most"] []
  fd_is_name : FuncData
  F_is_name : FunD K "is_name" "is_name" (defArgs s_is_name) (defBody s_is_name) (defScope s_is_name) [] [] (He.ga K "is_name") fd_is_name
  k_is_name : Binds K fd_is_name ["thing"] []
  fd_number_text : FuncData
  F_number_text : FunD K "number_text" "number_text" (defArgs s_number_text) (defBody s_number_text) (defScope s_number_text) [] [] (He.ga K "number_text") fd_number_text
  k_number_text : Binds K fd_number_text ["number"] []
  fd_number_of : FuncData
  F_number_of : FunD K "number_of" "number_of" (defArgs s_number_of) (defBody s_number_of) (defScope s_number_of) [] [] (He.ga K "number_of") fd_number_of
  k_number_of : Binds K fd_number_of ["word"] []
  fd_words_of : FuncData
  F_words_of : FunD K "words_of" "words_of" (defArgs s_words_of) (defBody s_words_of) (defScope s_words_of) [] [] (He.ga K "words_of") fd_words_of
  k_words_of : Binds K fd_words_of ["line"] []
  fd_Tie_init : FuncData
  F_Tie_init : FunD K "__init__" "Tie.__init__" (defArgs s_Tie_init) (defBody s_Tie_init) (defScope s_Tie_init) [] [] (He.ma K (He.ga K "Tie") "__init__") fd_Tie_init
  k_Tie_init : Binds K fd_Tie_init ["self", "number", "tail", "head", "load", "is_oneway"] []
  fd_between : FuncData
  F_between : FunD K "_between" "_between" (defArgs s_between) (defBody s_between) (defScope s_between) [] [] (He.ga K "_between") fd_between
  k_between : Binds K fd_between ["tie", "tail", "head"] []
  fd_turned : FuncData
  F_turned : FunD K "_turned" "_turned" (defArgs s_turned) (defBody s_turned) (defScope s_turned) [] [] (He.ga K "_turned") fd_turned
  k_turned : Binds K fd_turned ["tie", "name", "other"] []
  fd_Web_init : FuncData
  F_Web_init : FunD K "__init__" "Web.__init__" (defArgs s_Web_init) (defBody s_Web_init) (defScope s_Web_init) [] [] (He.ma K (He.ga K "Web") "__init__") fd_Web_init
  k_Web_init : Binds K fd_Web_init ["self"] []
  fd_Web_points : FuncData
  F_Web_points : FunD K "points" "Web.points" (defArgs s_Web_points) (defBody s_Web_points) (defScope s_Web_points) [] [] (He.ma K (He.ga K "Web") "points") fd_Web_points
  k_Web_points : Binds K fd_Web_points ["self"] []
  fd_Web_ties : FuncData
  F_Web_ties : FunD K "ties" "Web.ties" (defArgs s_Web_ties) (defBody s_Web_ties) (defScope s_Web_ties) [] [] (He.ma K (He.ga K "Web") "ties") fd_Web_ties
  k_Web_ties : Binds K fd_Web_ties ["self"] []
  fd_Web_given : FuncData
  F_Web_given : FunD K "given" "Web.given" (defArgs s_Web_given) (defBody s_Web_given) (defScope s_Web_given) [] [] (He.ma K (He.ga K "Web") "given") fd_Web_given
  k_Web_given : Binds K fd_Web_given ["self"] []
  fd_Web_put_point : FuncData
  F_Web_put_point : FunD K "put_point" "Web.put_point" (defArgs s_Web_put_point) (defBody s_Web_put_point) (defScope s_Web_put_point) [] [] (He.ma K (He.ga K "Web") "put_point") fd_Web_put_point
  k_Web_put_point : Binds K fd_Web_put_point ["self", "name"] []
  fd_Web_drop_point : FuncData
  F_Web_drop_point : FunD K "drop_point" "Web.drop_point" (defArgs s_Web_drop_point) (defBody s_Web_drop_point) (defScope s_Web_drop_point) [] [] (He.ma K (He.ga K "Web") "drop_point") fd_Web_drop_point
  k_Web_drop_point : Binds K fd_Web_drop_point ["self", "name"] []
  fd_Web_rename : FuncData
  F_Web_rename : FunD K "rename" "Web.rename" (defArgs s_Web_rename) (defBody s_Web_rename) (defScope s_Web_rename) [] [] (He.ma K (He.ga K "Web") "rename") fd_Web_rename
  k_Web_rename : Binds K fd_Web_rename ["self", "name", "other"] []
  fd_Web_put_tie : FuncData
  F_Web_put_tie : FunD K "put_tie" "Web.put_tie" (defArgs s_Web_put_tie) (defBody s_Web_put_tie) (defScope s_Web_put_tie) [.int 0, .bl false] [] (He.ma K (He.ga K "Web") "put_tie") fd_Web_put_tie
  k_Web_put_tie_0 : ∃ ds, Vals [.int 0, .bl false] ds ∧ Binds K fd_Web_put_tie ["self", "tail", "head", "load", "is_oneway"] ds
  k_Web_put_tie_1 : ∃ ds, Vals [.bl false] ds ∧ Binds K fd_Web_put_tie ["self", "tail", "head", "load", "is_oneway"] ds
  k_Web_put_tie_2 : ∃ ds, Vals [] ds ∧ Binds K fd_Web_put_tie ["self", "tail", "head", "load", "is_oneway"] ds
  fd_Web_drop_tie : FuncData
  F_Web_drop_tie : FunD K "drop_tie" "Web.drop_tie" (defArgs s_Web_drop_tie) (defBody s_Web_drop_tie) (defScope s_Web_drop_tie) [] [] (He.ma K (He.ga K "Web") "drop_tie") fd_Web_drop_tie
  k_Web_drop_tie : Binds K fd_Web_drop_tie ["self", "number"] []
  fd_Web_set_load : FuncData
  F_Web_set_load : FunD K "set_load" "Web.set_load" (defArgs s_Web_set_load) (defBody s_Web_set_load) (defScope s_Web_set_load) [] [] (He.ma K (He.ga K "Web") "set_load") fd_Web_set_load
  k_Web_set_load : Binds K fd_Web_set_load ["self", "number", "load"] []
  fd_Web_join : FuncData
  F_Web_join : FunD K "join" "Web.join" (defArgs s_Web_join) (defBody s_Web_join) (defScope s_Web_join) [] [] (He.ma K (He.ga K "Web") "join") fd_Web_join
  k_Web_join : Binds K fd_Web_join ["self", "name", "other"] []
  fd_Web_part : FuncData
  F_Web_part : FunD K "part" "Web.part" (defArgs s_Web_part) (defBody s_Web_part) (defScope s_Web_part) [] [] (He.ma K (He.ga K "Web") "part") fd_Web_part
  k_Web_part : Binds K fd_Web_part ["self", "name", "other", "numbers"] []
  fd_Web_need_point : FuncData
  F_Web_need_point : FunD K "_need_point" "Web._need_point" (defArgs s_Web_need_point) (defBody s_Web_need_point) (defScope s_Web_need_point) [] [] (He.ma K (He.ga K "Web") "_need_point") fd_Web_need_point
  k_Web_need_point : Binds K fd_Web_need_point ["self", "name"] []
  fd_Web_need_new_name : FuncData
  F_Web_need_new_name : FunD K "_need_new_name" "Web._need_new_name" (defArgs s_Web_need_new_name) (defBody s_Web_need_new_name) (defScope s_Web_need_new_name) [] [] (He.ma K (He.ga K "Web") "_need_new_name") fd_Web_need_new_name
  k_Web_need_new_name : Binds K fd_Web_need_new_name ["self", "name"] []
  fd_Web_need_new_point : FuncData
  F_Web_need_new_point : FunD K "_need_new_point" "Web._need_new_point" (defArgs s_Web_need_new_point) (defBody s_Web_need_new_point) (defScope s_Web_need_new_point) [] [] (He.ma K (He.ga K "Web") "_need_new_point") fd_Web_need_new_point
  k_Web_need_new_point : Binds K fd_Web_need_new_point ["self", "name"] []
  fd_Web_need_tie : FuncData
  F_Web_need_tie : FunD K "_need_tie" "Web._need_tie" (defArgs s_Web_need_tie) (defBody s_Web_need_tie) (defScope s_Web_need_tie) [] [] (He.ma K (He.ga K "Web") "_need_tie") fd_Web_need_tie
  k_Web_need_tie : Binds K fd_Web_need_tie ["self", "number"] []
  fd_Web_need_ties_at : FuncData
  F_Web_need_ties_at : FunD K "_need_ties_at" "Web._need_ties_at" (defArgs s_Web_need_ties_at) (defBody s_Web_need_ties_at) (defScope s_Web_need_ties_at) [] [] (He.ma K (He.ga K "Web") "_need_ties_at") fd_Web_need_ties_at
  k_Web_need_ties_at : Binds K fd_Web_need_ties_at ["self", "name", "numbers"] []
  fd_need_load : FuncData
  F_need_load : FunD K "_need_load" "_need_load" (defArgs s_need_load) (defBody s_need_load) (defScope s_need_load) [] [] (He.ga K "_need_load") fd_need_load
  k_need_load : Binds K fd_need_load ["load"] []
  fd_tie_line : FuncData
  F_tie_line : FunD K "_tie_line" "_tie_line" (defArgs s_tie_line) (defBody s_tie_line) (defScope s_tie_line) [] [] (He.ga K "_tie_line") fd_tie_line
  k_tie_line : Binds K fd_tie_line ["tie"] []
  fd_web_lines : FuncData
  F_web_lines : FunD K "web_lines" "web_lines" (defArgs s_web_lines) (defBody s_web_lines) (defScope s_web_lines) [] [] (He.ga K "web_lines") fd_web_lines
  k_web_lines : Binds K fd_web_lines ["web"] []
  fd_put_point_words : FuncData
  F_put_point_words : FunD K "_put_point_words" "_put_point_words" (defArgs s_put_point_words) (defBody s_put_point_words) (defScope s_put_point_words) [] [] (He.ga K "_put_point_words") fd_put_point_words
  k_put_point_words : Binds K fd_put_point_words ["web", "words"] []
  fd_put_tie_words : FuncData
  F_put_tie_words : FunD K "_put_tie_words" "_put_tie_words" (defArgs s_put_tie_words) (defBody s_put_tie_words) (defScope s_put_tie_words) [] [] (He.ga K "_put_tie_words") fd_put_tie_words
  k_put_tie_words : Binds K fd_put_tie_words ["web", "words"] []
  fd_set_given_words : FuncData
  F_set_given_words : FunD K "_set_given_words" "_set_given_words" (defArgs s_set_given_words) (defBody s_set_given_words) (defScope s_set_given_words) [] [] (He.ga K "_set_given_words") fd_set_given_words
  k_set_given_words : Binds K fd_set_given_words ["web", "words"] []
  fd_take_words : FuncData
  F_take_words : FunD K "_take_words" "_take_words" (defArgs s_take_words) (defBody s_take_words) (defScope s_take_words) [] [] (He.ga K "_take_words") fd_take_words
  k_take_words : Binds K fd_take_words ["web", "words"] []
  fd_stands : FuncData
  F_stands : FunD K "_stands" "_stands" (defArgs s_stands) (defBody s_stands) (defScope s_stands) [] [] (He.ga K "_stands") fd_stands
  k_stands : Binds K fd_stands ["web", "words"] []
  fd_web_of : FuncData
  F_web_of : FunD K "web_of" "web_of" (defArgs s_web_of) (defBody s_web_of) (defScope s_web_of) [] [] (He.ga K "web_of") fd_web_of
  k_web_of : Binds K fd_web_of ["lines"] []
  fd_law_draw : FuncData
  F_law_draw : FunD K "_law_draw" "_law_draw" (defArgs s_law_draw) (defBody s_law_draw) (defScope s_law_draw) [] [] (He.ga K "_law_draw") fd_law_draw
  k_law_draw : Binds K fd_law_draw ["_law_cell", "_law_k", "_law_j"] []
  fd_law_load : FuncData
  F_law_load : FunD K "_law_load" "_law_load" (defArgs s_law_load) (defBody s_law_load) (defScope s_law_load) [] [] (He.ga K "_law_load") fd_law_load
  k_law_load : Binds K fd_law_load ["_law_cell", "_law_k", "_law_j"] []
  fd_law_pool : FuncData
  F_law_pool : FunD K "_law_pool" "_law_pool" (defArgs s_law_pool) (defBody s_law_pool) (defScope s_law_pool) [] [] (He.ga K "_law_pool") fd_law_pool
  k_law_pool : Binds K fd_law_pool ["_law_cell"] []
  fd_law_whole : FuncData
  F_law_whole : FunD K "_law_whole" "_law_whole" (defArgs s_law_whole) (defBody s_law_whole) (defScope s_law_whole) [] [] (He.ga K "_law_whole") fd_law_whole
  k_law_whole : Binds K fd_law_whole ["_law_thing", "_law_due"] []
  fd_law_put_tie : FuncData
  F_law_put_tie : FunD K "_law_put_tie" "_law_put_tie" (defArgs s_law_put_tie) (defBody s_law_put_tie) (defScope s_law_put_tie) [] [] (He.ga K "_law_put_tie") fd_law_put_tie
  k_law_put_tie : Binds K fd_law_put_tie ["_law_web", "_law_model", "_law_cell", "_law_k"] []
  fd_law_tie_changed : FuncData
  F_law_tie_changed : FunD K "_law_tie_changed" "_law_tie_changed" (defArgs s_law_tie_changed) (defBody s_law_tie_changed) (defScope s_law_tie_changed) [] [] (He.ga K "_law_tie_changed") fd_law_tie_changed
  k_law_tie_changed : Binds K fd_law_tie_changed ["_law_web", "_law_model", "_law_cell", "_law_k", "_law_is_gone"] []
  fd_law_moved : FuncData
  F_law_moved : FunD K "_law_moved" "_law_moved" (defArgs s_law_moved) (defBody s_law_moved) (defScope s_law_moved) [] [] (He.ga K "_law_moved") fd_law_moved
  k_law_moved : Binds K fd_law_moved ["_law_model", "_law_name", "_law_other", "_law_numbers"] []
  fd_law_at : FuncData
  F_law_at : FunD K "_law_at" "_law_at" (defArgs s_law_at) (defBody s_law_at) (defScope s_law_at) [] [] (He.ga K "_law_at") fd_law_at
  k_law_at : Binds K fd_law_at ["_law_model", "_law_name"] []
  fd_law_point_changed : FuncData
  F_law_point_changed : FunD K "_law_point_changed" "_law_point_changed" (defArgs s_law_point_changed) (defBody s_law_point_changed) (defScope s_law_point_changed) [] [] (He.ga K "_law_point_changed") fd_law_point_changed
  k_law_point_changed : Binds K fd_law_point_changed ["_law_web", "_law_model", "_law_free", "_law_cell", "_law_k", "_law_way"] []
  fd_law_deed : FuncData
  F_law_deed : FunD K "_law_deed" "_law_deed" (defArgs s_law_deed) (defBody s_law_deed) (defScope s_law_deed) [] [] (He.ga K "_law_deed") fd_law_deed
  k_law_deed : Binds K fd_law_deed ["_law_web", "_law_model", "_law_pool_here", "_law_cell", "_law_k"] []
  fd_law_row : FuncData
  F_law_row : FunD K "_law_row" "_law_row" (defArgs s_law_row) (defBody s_law_row) (defScope s_law_row) [] [] (He.ga K "_law_row") fd_law_row
  k_law_row : Binds K fd_law_row ["_law_tie"] []
  fd_law_rows : FuncData
  F_law_rows : FunD K "_law_rows" "_law_rows" (defArgs s_law_rows) (defBody s_law_rows) (defScope s_law_rows) [] [] (He.ga K "_law_rows") fd_law_rows
  k_law_rows : Binds K fd_law_rows ["_law_model"] []
  fd_law_stands : FuncData
  F_law_stands : FunD K "_law_stands" "_law_stands" (defArgs s_law_stands) (defBody s_law_stands) (defScope s_law_stands) [] [] (He.ga K "_law_stands") fd_law_stands
  k_law_stands : Binds K fd_law_stands ["_law_web", "_law_model"] []
  fd_law_none : FuncData
  F_law_none : FunD K "_law_none" "_law_none" (defArgs s_law_none) (defBody s_law_none) (defScope s_law_none) [] [] (He.ga K "_law_none") fd_law_none
  k_law_none : Binds K fd_law_none [] []
  fd_law_built : FuncData
  F_law_built : FunD K "_law_built" "_law_built" (defArgs s_law_built) (defBody s_law_built) (defScope s_law_built) [] [] (He.ga K "_law_built") fd_law_built
  k_law_built : Binds K fd_law_built ["_law_cells", "_law_pool_here"] []
  fd_law_word : FuncData
  F_law_word : FunD K "_law_word" "_law_word" (defArgs s_law_word) (defBody s_law_word) (defScope s_law_word) [] [] (He.ga K "_law_word") fd_law_word
  k_law_word : Binds K fd_law_word ["_law_e"] []
  fd_law_lines : FuncData
  F_law_lines : FunD K "_law_lines" "_law_lines" (defArgs s_law_lines) (defBody s_law_lines) (defScope s_law_lines) [] [] (He.ga K "_law_lines") fd_law_lines
  k_law_lines : Binds K fd_law_lines ["_law_model"] []
  fd_law_number : FuncData
  F_law_number : FunD K "_law_number" "_law_number" (defArgs s_law_number) (defBody s_law_number) (defScope s_law_number) [] [] (He.ga K "_law_number") fd_law_number
  k_law_number : Binds K fd_law_number ["_law_word_here"] []
  fd_law_is_name : FuncData
  F_law_is_name : FunD K "_law_is_name" "_law_is_name" (defArgs s_law_is_name) (defBody s_law_is_name) (defScope s_law_is_name) [] [] (He.ga K "_law_is_name") fd_law_is_name
  k_law_is_name : Binds K fd_law_is_name ["_law_word_here"] []
  fd_law_among : FuncData
  F_law_among : FunD K "_law_among" "_law_among" (defArgs s_law_among) (defBody s_law_among) (defScope s_law_among) [] [] (He.ga K "_law_among") fd_law_among
  k_law_among : Binds K fd_law_among ["_law_number_here", "_law_least", "_law_most"] []
  fd_law_tie_read : FuncData
  F_law_tie_read : FunD K "_law_tie_read" "_law_tie_read" (defArgs s_law_tie_read) (defBody s_law_tie_read) (defScope s_law_tie_read) [] [] (He.ga K "_law_tie_read") fd_law_tie_read
  k_law_tie_read : Binds K fd_law_tie_read ["_law_model", "_law_words"] []
  fd_law_line_read : FuncData
  F_law_line_read : FunD K "_law_line_read" "_law_line_read" (defArgs s_law_line_read) (defBody s_law_line_read) (defScope s_law_line_read) [] [] (He.ga K "_law_line_read") fd_law_line_read
  k_law_line_read : Binds K fd_law_line_read ["_law_model", "_law_line"] []
  fd_law_read : FuncData
  F_law_read : FunD K "_law_read" "_law_read" (defArgs s_law_read) (defBody s_law_read) (defScope s_law_read) [] [] (He.ga K "_law_read") fd_law_read
  k_law_read : Binds K fd_law_read ["_law_lines_here"] []
  fd_law_line_bent : FuncData
  F_law_line_bent : FunD K "_law_line_bent" "_law_line_bent" (defArgs s_law_line_bent) (defBody s_law_line_bent) (defScope s_law_line_bent) [] [] (He.ga K "_law_line_bent") fd_law_line_bent
  k_law_line_bent : Binds K fd_law_line_bent ["_law_line", "_law_n"] []
  fd_law_bent : FuncData
  F_law_bent : FunD K "_law_bent" "_law_bent" (defArgs s_law_bent) (defBody s_law_bent) (defScope s_law_bent) [] [] (He.ga K "_law_bent") fd_law_bent
  k_law_bent : Binds K fd_law_bent ["_law_lines_here", "_law_cell", "_law_k"] []
  fd_law_tried : FuncData
  F_law_tried : FunD K "_law_tried" "_law_tried" (defArgs s_law_tried) (defBody s_law_tried) (defScope s_law_tried) [] [] (He.ga K "_law_tried") fd_law_tried
  k_law_tried : Binds K fd_law_tried ["_law_lines_here"] []
  fd_law_good : FuncData
  F_law_good : FunD K "_law_good" "_law_good" (defArgs s_law_good) (defBody s_law_good) (defScope s_law_good) [] [] (He.ga K "_law_good") fd_law_good
  k_law_good : Binds K fd_law_good ["_law_lines_here"] []
  fd_law : FuncData
  F_law : FunD K "law" "law" (defArgs s_law) (defBody s_law) (defScope s_law) [] [] (He.ga K "law") fd_law
  k_law : Binds K fd_law ["_law_script"] []
structure Js (P : Program) (w : World) (K : PySem.W.Frag) (mg : Str → Option Value) (base : Heap) : Prop where
  i_NoPoint : EVX.IniOk P w K mg base "NoPoint" "name"
  i_NoTie : EVX.IniOk P w K mg base "NoTie" "number"
  i_BadLine : EVX.IniOk P w K mg base "BadLine" "place"
/-- the classes of errors that the law asks for -/
def ecs : List Str := ["BadName", "Twice", "TooMany", "NoPoint", "BadTie", "BadLoad", "NoTie", "HasTies", "BadLine", "SamePoint", "BadText", "BadBundle", "NoState", "NoDeed", "BadForest"]
/-- those that are kept -/
def rcs : List Str := ["BadLine"]
/-- what an instance of a class is -/
def isA (K : PySem.W.Frag) (x : Str) : Bool :=
  decide (PySem.W.findIn K (.ref (He.ga K x)) "__class__" = some (some (.builtin "object.__class__"))) && decide (PySem.W.mroIn K (He.ga K x) (.type "object") = some true)
def isTo (K : PySem.W.Frag) (x y : Str) (b : Bool) : Bool := decide (PySem.W.kitOne K (.ref (He.ga K x)) (.ref (He.ga K y)) = some b)
def wbs (K : PySem.W.Frag) : Bool :=
  isA K "Web" && (decide (PySem.W.specialIn K (.builtin "object.__class__") "__get__" = some (some (.builtin "getset_descriptor.__get__"))) && (decide (PySem.W.takesIn K (.builtin "object.__class__") = some true) && isTo K "Web" "Web" true))
def errs (K : PySem.W.Frag) : Bool :=
  (rcs.all fun D => EVV.excCB K (He.ga K D) && EVV.kindB K D ecs) && (EVV.fldB K "BadLine" "place" && wbs K)
end K04

/-! HXb: the head's facts over a part of the heap that is collected with a number of bits for what is seen (no list is searched for doubles), the statics' names with it. -/
namespace He
open PySem PySem.Spec PyProof.Rows L2
/-- those not seen yet, seen from now on -/
def newB {α : Type} : List Addr → Nat → List Addr → (Nat → List Addr → α) → α
  | [], v, acc, k => k v acc
  | a :: r, v, acc, k => HandSHeadRun.frNat a fun a => match Nat.beq (Nat.land (Nat.shiftRight v a) 1) 0 with
    | true => HandSHeadRun.frNat (Nat.lor v (Nat.shiftLeft 1 a)) fun v => newB r v (a :: acc) k
    | false => newB r v acc k
def refsAt (g : Addr → Option Obj) (a : Addr) : List Addr := match g a with
  | some o => refsD o
  | none => []
/-- every one that the list names, n steps on -/
def asB (g : Addr → Option Obj) : Nat → Nat → List Addr → List Addr → List Addr
  | 0, _, _, all => all
  | n + 1, v, now, all => newB (now.flatMap (refsAt g)) v [] fun v l => asB g n v l.reverse (all ++ l.reverse)
def obsBG (n : Nat) (ex : PySem.W.Frag → Bool) (fa : List Fa) (fn : List DefD) (g : Addr → Option Obj) : AlD := obsX ex fa fn (frG g (asB g n (Nat.shiftLeft 1 mainGlobals) [mainGlobals] [mainGlobals] ++ [cStatics]))
def hookB (n : Nat) (ex : PySem.W.Frag → Bool) (fa : List Fa) (fn : List DefD) : PySem.W.Hook where
  α := AlD
  obs := fun s => obsBG n ex fa fn s.heap.get?
  val := fun _ => valD fn
  says := fun _ h => ∃ K : PySem.W.Frag, K.In h ∧ SaysX ex fa fn K
  of := fun _ _ e => ⟨_, frG_in, e⟩
  keeps := fun _ _ _ ⟨K, hK, c⟩ k => ⟨K, PySem.W.Frag.In.keeps hK k, c⟩
theorem obsBG_eq {n : Nat} {ex : PySem.W.Frag → Bool} {fa : List Fa} {fn : List DefD} {g : Addr → Option Obj} {s : Shared} (h : ∀ a, g a = s.heap.get? a) : obsBG n ex fa fn g = (hookB n ex fa fn).obs s := by
  have e : g = s.heap.get? := funext h
  rw [e] <;> rfl
end He

set_option Elab.async false
set_option linter.all false
set_option maxRecDepth 100000
set_option maxHeartbeats 4000000
namespace K04
open PySem PySem.Spec PyProof.Rows L2 HX

def extra (K : PySem.W.Frag) : Bool := (EVX.iniB K "/claim/cut.py" "NoPoint" "name" && (EVX.iniB K "/claim/cut.py" "NoTie" "number" && EVX.iniB K "/claim/cut.py" "BadLine" "place")) && errs K
def d_wall : He.DefD := ⟨("_wall", none), "_wall", "_wall", defArgs s_wall, defBody s_wall, defScope s_wall, [], []⟩
def d_has_only : He.DefD := ⟨("_has_only", none), "_has_only", "_has_only", defArgs s_has_only, defBody s_has_only, defScope s_has_only, [], []⟩
def d_is_whole : He.DefD := ⟨("is_whole", none), "is_whole", "is_whole", defArgs s_is_whole, defBody s_is_whole, defScope s_is_whole, [], []⟩
def d_is_among : He.DefD := ⟨("is_among", none), "is_among", "is_among", defArgs s_is_among, defBody s_is_among, defScope s_is_among, [], []⟩
def d_is_name : He.DefD := ⟨("is_name", none), "is_name", "is_name", defArgs s_is_name, defBody s_is_name, defScope s_is_name, [], []⟩
def d_number_text : He.DefD := ⟨("number_text", none), "number_text", "number_text", defArgs s_number_text, defBody s_number_text, defScope s_number_text, [], []⟩
def d_number_of : He.DefD := ⟨("number_of", none), "number_of", "number_of", defArgs s_number_of, defBody s_number_of, defScope s_number_of, [], []⟩
def d_words_of : He.DefD := ⟨("words_of", none), "words_of", "words_of", defArgs s_words_of, defBody s_words_of, defScope s_words_of, [], []⟩
def d_Tie_init : He.DefD := ⟨("Tie", some "__init__"), "__init__", "Tie.__init__", defArgs s_Tie_init, defBody s_Tie_init, defScope s_Tie_init, [], []⟩
def d_between : He.DefD := ⟨("_between", none), "_between", "_between", defArgs s_between, defBody s_between, defScope s_between, [], []⟩
def d_turned : He.DefD := ⟨("_turned", none), "_turned", "_turned", defArgs s_turned, defBody s_turned, defScope s_turned, [], []⟩
def d_Web_init : He.DefD := ⟨("Web", some "__init__"), "__init__", "Web.__init__", defArgs s_Web_init, defBody s_Web_init, defScope s_Web_init, [], []⟩
def d_Web_points : He.DefD := ⟨("Web", some "points"), "points", "Web.points", defArgs s_Web_points, defBody s_Web_points, defScope s_Web_points, [], []⟩
def d_Web_ties : He.DefD := ⟨("Web", some "ties"), "ties", "Web.ties", defArgs s_Web_ties, defBody s_Web_ties, defScope s_Web_ties, [], []⟩
def d_Web_given : He.DefD := ⟨("Web", some "given"), "given", "Web.given", defArgs s_Web_given, defBody s_Web_given, defScope s_Web_given, [], []⟩
def d_Web_put_point : He.DefD := ⟨("Web", some "put_point"), "put_point", "Web.put_point", defArgs s_Web_put_point, defBody s_Web_put_point, defScope s_Web_put_point, [], []⟩
def d_Web_drop_point : He.DefD := ⟨("Web", some "drop_point"), "drop_point", "Web.drop_point", defArgs s_Web_drop_point, defBody s_Web_drop_point, defScope s_Web_drop_point, [], []⟩
def d_Web_rename : He.DefD := ⟨("Web", some "rename"), "rename", "Web.rename", defArgs s_Web_rename, defBody s_Web_rename, defScope s_Web_rename, [], []⟩
def d_Web_put_tie : He.DefD := ⟨("Web", some "put_tie"), "put_tie", "Web.put_tie", defArgs s_Web_put_tie, defBody s_Web_put_tie, defScope s_Web_put_tie, [.int 0, .bl false], []⟩
def d_Web_drop_tie : He.DefD := ⟨("Web", some "drop_tie"), "drop_tie", "Web.drop_tie", defArgs s_Web_drop_tie, defBody s_Web_drop_tie, defScope s_Web_drop_tie, [], []⟩
def d_Web_set_load : He.DefD := ⟨("Web", some "set_load"), "set_load", "Web.set_load", defArgs s_Web_set_load, defBody s_Web_set_load, defScope s_Web_set_load, [], []⟩
def d_Web_join : He.DefD := ⟨("Web", some "join"), "join", "Web.join", defArgs s_Web_join, defBody s_Web_join, defScope s_Web_join, [], []⟩
def d_Web_part : He.DefD := ⟨("Web", some "part"), "part", "Web.part", defArgs s_Web_part, defBody s_Web_part, defScope s_Web_part, [], []⟩
def d_Web_need_point : He.DefD := ⟨("Web", some "_need_point"), "_need_point", "Web._need_point", defArgs s_Web_need_point, defBody s_Web_need_point, defScope s_Web_need_point, [], []⟩
def d_Web_need_new_name : He.DefD := ⟨("Web", some "_need_new_name"), "_need_new_name", "Web._need_new_name", defArgs s_Web_need_new_name, defBody s_Web_need_new_name, defScope s_Web_need_new_name, [], []⟩
def d_Web_need_new_point : He.DefD := ⟨("Web", some "_need_new_point"), "_need_new_point", "Web._need_new_point", defArgs s_Web_need_new_point, defBody s_Web_need_new_point, defScope s_Web_need_new_point, [], []⟩
def d_Web_need_tie : He.DefD := ⟨("Web", some "_need_tie"), "_need_tie", "Web._need_tie", defArgs s_Web_need_tie, defBody s_Web_need_tie, defScope s_Web_need_tie, [], []⟩
def d_Web_need_ties_at : He.DefD := ⟨("Web", some "_need_ties_at"), "_need_ties_at", "Web._need_ties_at", defArgs s_Web_need_ties_at, defBody s_Web_need_ties_at, defScope s_Web_need_ties_at, [], []⟩
def d_need_load : He.DefD := ⟨("_need_load", none), "_need_load", "_need_load", defArgs s_need_load, defBody s_need_load, defScope s_need_load, [], []⟩
def d_tie_line : He.DefD := ⟨("_tie_line", none), "_tie_line", "_tie_line", defArgs s_tie_line, defBody s_tie_line, defScope s_tie_line, [], []⟩
def d_web_lines : He.DefD := ⟨("web_lines", none), "web_lines", "web_lines", defArgs s_web_lines, defBody s_web_lines, defScope s_web_lines, [], []⟩
def d_put_point_words : He.DefD := ⟨("_put_point_words", none), "_put_point_words", "_put_point_words", defArgs s_put_point_words, defBody s_put_point_words, defScope s_put_point_words, [], []⟩
def d_put_tie_words : He.DefD := ⟨("_put_tie_words", none), "_put_tie_words", "_put_tie_words", defArgs s_put_tie_words, defBody s_put_tie_words, defScope s_put_tie_words, [], []⟩
def d_set_given_words : He.DefD := ⟨("_set_given_words", none), "_set_given_words", "_set_given_words", defArgs s_set_given_words, defBody s_set_given_words, defScope s_set_given_words, [], []⟩
def d_take_words : He.DefD := ⟨("_take_words", none), "_take_words", "_take_words", defArgs s_take_words, defBody s_take_words, defScope s_take_words, [], []⟩
def d_stands : He.DefD := ⟨("_stands", none), "_stands", "_stands", defArgs s_stands, defBody s_stands, defScope s_stands, [], []⟩
def d_web_of : He.DefD := ⟨("web_of", none), "web_of", "web_of", defArgs s_web_of, defBody s_web_of, defScope s_web_of, [], []⟩
def d_law_draw : He.DefD := ⟨("_law_draw", none), "_law_draw", "_law_draw", defArgs s_law_draw, defBody s_law_draw, defScope s_law_draw, [], []⟩
def d_law_load : He.DefD := ⟨("_law_load", none), "_law_load", "_law_load", defArgs s_law_load, defBody s_law_load, defScope s_law_load, [], []⟩
def d_law_pool : He.DefD := ⟨("_law_pool", none), "_law_pool", "_law_pool", defArgs s_law_pool, defBody s_law_pool, defScope s_law_pool, [], []⟩
def d_law_whole : He.DefD := ⟨("_law_whole", none), "_law_whole", "_law_whole", defArgs s_law_whole, defBody s_law_whole, defScope s_law_whole, [], []⟩
def d_law_put_tie : He.DefD := ⟨("_law_put_tie", none), "_law_put_tie", "_law_put_tie", defArgs s_law_put_tie, defBody s_law_put_tie, defScope s_law_put_tie, [], []⟩
def d_law_tie_changed : He.DefD := ⟨("_law_tie_changed", none), "_law_tie_changed", "_law_tie_changed", defArgs s_law_tie_changed, defBody s_law_tie_changed, defScope s_law_tie_changed, [], []⟩
def d_law_moved : He.DefD := ⟨("_law_moved", none), "_law_moved", "_law_moved", defArgs s_law_moved, defBody s_law_moved, defScope s_law_moved, [], []⟩
def d_law_at : He.DefD := ⟨("_law_at", none), "_law_at", "_law_at", defArgs s_law_at, defBody s_law_at, defScope s_law_at, [], []⟩
def d_law_point_changed : He.DefD := ⟨("_law_point_changed", none), "_law_point_changed", "_law_point_changed", defArgs s_law_point_changed, defBody s_law_point_changed, defScope s_law_point_changed, [], []⟩
def d_law_deed : He.DefD := ⟨("_law_deed", none), "_law_deed", "_law_deed", defArgs s_law_deed, defBody s_law_deed, defScope s_law_deed, [], []⟩
def d_law_row : He.DefD := ⟨("_law_row", none), "_law_row", "_law_row", defArgs s_law_row, defBody s_law_row, defScope s_law_row, [], []⟩
def d_law_rows : He.DefD := ⟨("_law_rows", none), "_law_rows", "_law_rows", defArgs s_law_rows, defBody s_law_rows, defScope s_law_rows, [], []⟩
def d_law_stands : He.DefD := ⟨("_law_stands", none), "_law_stands", "_law_stands", defArgs s_law_stands, defBody s_law_stands, defScope s_law_stands, [], []⟩
def d_law_none : He.DefD := ⟨("_law_none", none), "_law_none", "_law_none", defArgs s_law_none, defBody s_law_none, defScope s_law_none, [], []⟩
def d_law_built : He.DefD := ⟨("_law_built", none), "_law_built", "_law_built", defArgs s_law_built, defBody s_law_built, defScope s_law_built, [], []⟩
def d_law_word : He.DefD := ⟨("_law_word", none), "_law_word", "_law_word", defArgs s_law_word, defBody s_law_word, defScope s_law_word, [], []⟩
def d_law_lines : He.DefD := ⟨("_law_lines", none), "_law_lines", "_law_lines", defArgs s_law_lines, defBody s_law_lines, defScope s_law_lines, [], []⟩
def d_law_number : He.DefD := ⟨("_law_number", none), "_law_number", "_law_number", defArgs s_law_number, defBody s_law_number, defScope s_law_number, [], []⟩
def d_law_is_name : He.DefD := ⟨("_law_is_name", none), "_law_is_name", "_law_is_name", defArgs s_law_is_name, defBody s_law_is_name, defScope s_law_is_name, [], []⟩
def d_law_among : He.DefD := ⟨("_law_among", none), "_law_among", "_law_among", defArgs s_law_among, defBody s_law_among, defScope s_law_among, [], []⟩
def d_law_tie_read : He.DefD := ⟨("_law_tie_read", none), "_law_tie_read", "_law_tie_read", defArgs s_law_tie_read, defBody s_law_tie_read, defScope s_law_tie_read, [], []⟩
def d_law_line_read : He.DefD := ⟨("_law_line_read", none), "_law_line_read", "_law_line_read", defArgs s_law_line_read, defBody s_law_line_read, defScope s_law_line_read, [], []⟩
def d_law_read : He.DefD := ⟨("_law_read", none), "_law_read", "_law_read", defArgs s_law_read, defBody s_law_read, defScope s_law_read, [], []⟩
def d_law_line_bent : He.DefD := ⟨("_law_line_bent", none), "_law_line_bent", "_law_line_bent", defArgs s_law_line_bent, defBody s_law_line_bent, defScope s_law_line_bent, [], []⟩
def d_law_bent : He.DefD := ⟨("_law_bent", none), "_law_bent", "_law_bent", defArgs s_law_bent, defBody s_law_bent, defScope s_law_bent, [], []⟩
def d_law_tried : He.DefD := ⟨("_law_tried", none), "_law_tried", "_law_tried", defArgs s_law_tried, defBody s_law_tried, defScope s_law_tried, [], []⟩
def d_law_good : He.DefD := ⟨("_law_good", none), "_law_good", "_law_good", defArgs s_law_good, defBody s_law_good, defScope s_law_good, [], []⟩
def d_law : He.DefD := ⟨("law", none), "law", "law", defArgs s_law, defBody s_law, defScope s_law, [], []⟩
def fn : List He.DefD := [d_wall, d_has_only, d_is_whole, d_is_among, d_is_name, d_number_text, d_number_of, d_words_of, d_Tie_init, d_between, d_turned, d_Web_init, d_Web_points, d_Web_ties, d_Web_given, d_Web_put_point, d_Web_drop_point, d_Web_rename, d_Web_put_tie, d_Web_drop_tie, d_Web_set_load, d_Web_join, d_Web_part, d_Web_need_point, d_Web_need_new_name, d_Web_need_new_point, d_Web_need_tie, d_Web_need_ties_at, d_need_load, d_tie_line, d_web_lines, d_put_point_words, d_put_tie_words, d_set_given_words, d_take_words, d_stands, d_web_of, d_law_draw, d_law_load, d_law_pool, d_law_whole, d_law_put_tie, d_law_tie_changed, d_law_moved, d_law_at, d_law_point_changed, d_law_deed, d_law_row, d_law_rows, d_law_stands, d_law_none, d_law_built, d_law_word, d_law_lines, d_law_number, d_law_is_name, d_law_among, d_law_tie_read, d_law_line_read, d_law_read, d_law_line_bent, d_law_bent, d_law_tried, d_law_good, d_law]
def fa : List He.Fa := [.free "ValueError", .free "bool", .free "enumerate", .free "int", .free "isinstance", .free "len", .free "list", .free "range", .free "set", .free "sorted", .free "str", .free "sum", .free "zip", .str "LETTERS" "abcdefghijklmnopqrstuvwxyz", .str "FIGURES" "0123456789", .int "MOST_LETTERS" 12, .int "MOST_FIGURES" 61, .int "MOST" 1000000000000000000000000000000000000000000000000000000000000, .int "MOST_POINTS" 16, .int "MOST_TIES" 48, .glo "Tie", .cls "Tie", .mkr "Tie", .noat "Tie" "number", .noat "Tie" "tail", .noat "Tie" "head", .noat "Tie" "load", .noat "Tie" "is_oneway", .glo "Web", .cls "Web", .mkr "Web", .noat "Web" "_points", .noat "Web" "_ties", .noat "Web" "_given", .free "super", .glo "WebError", .glo "NoPoint", .glo "NoTie", .glo "BadLine", .glo "BadName", .glo "Twice", .glo "TooMany", .glo "BadTie", .glo "BadLoad", .glo "HasTies", .glo "SamePoint", .exm "NoPoint" "WebError" true, .exm "NoTie" "WebError" true, .exm "BadLine" "WebError" true, .exm "BadName" "WebError" true, .exc "BadName", .exm "Twice" "WebError" true, .exc "Twice", .exm "TooMany" "WebError" true, .exc "TooMany", .exm "BadTie" "WebError" true, .exc "BadTie", .exm "BadLoad" "WebError" true, .exc "BadLoad", .exm "HasTies" "WebError" true, .exc "HasTies", .exm "SamePoint" "WebError" true, .exc "SamePoint", .glo "BadText", .glo "NoDeed", .glo "BadBundle", .glo "NoState", .glo "BadForest", .glo "_wall", .glo "_has_only", .glo "is_whole", .glo "is_among", .glo "is_name", .glo "number_text", .glo "number_of", .glo "words_of", .glo "_between", .glo "_turned", .meth "Web" "points", .meth "Web" "ties", .meth "Web" "given", .meth "Web" "put_point", .meth "Web" "drop_point", .meth "Web" "rename", .meth "Web" "put_tie", .meth "Web" "drop_tie", .meth "Web" "set_load", .meth "Web" "join", .meth "Web" "part", .meth "Web" "_need_point", .meth "Web" "_need_new_name", .meth "Web" "_need_new_point", .meth "Web" "_need_tie", .meth "Web" "_need_ties_at", .glo "_need_load", .glo "_tie_line", .glo "web_lines", .glo "_put_point_words", .glo "_put_tie_words", .glo "_set_given_words", .glo "_take_words", .glo "_stands", .glo "web_of", .glo "_law_draw", .glo "_law_load", .glo "_law_pool", .glo "_law_whole", .glo "_law_put_tie", .glo "_law_tie_changed", .glo "_law_moved", .glo "_law_at", .glo "_law_point_changed", .glo "_law_deed", .glo "_law_row", .glo "_law_rows", .glo "_law_stands", .glo "_law_none", .glo "_law_built", .glo "_law_word", .glo "_law_lines", .glo "_law_number", .glo "_law_is_name", .glo "_law_among", .glo "_law_tie_read", .glo "_law_line_read", .glo "_law_read", .glo "_law_line_bent", .glo "_law_bent", .glo "_law_tried", .glo "_law_good", .glo "law"]
abbrev R : PySem.W.OpenRow := PySem.W.OpenLaw.row PySem.Challenge.rw_reachbook_k04_lines_there_and_back
abbrev hk : PySem.W.Hook := He.hookB 6 extra fa fn
def ob (s : PySem.W.SharedT) : He.AlD := He.obsBG 6 extra fa fn (HandSHeadRun.getT s)
theorem ob_eq (s : PySem.W.SharedT) : ob s = hk.obs s.abs := He.obsBG_eq (HandSHeadRun.getT_eq s)
def loose0 : List Str := ["_wall", "WebError", "BadName", "Twice", "TooMany", "BadTie", "BadLoad", "HasTies", "SamePoint", "BadForest", "NoState", "NoDeed", "NoPoint", "NoTie", "BadLine", "BadText", "BadBundle", "_has_only", "is_whole", "is_among", "is_name", "number_text", "number_of", "words_of", "Tie", "_between", "_turned", "Web", "_need_load", "_tie_line"]
def loose1 : List Str := ["web_lines", "_put_point_words", "_put_tie_words", "_set_given_words", "_take_words", "_stands", "web_of", "_law_draw", "_law_load", "_law_pool", "_law_whole", "_law_put_tie", "_law_tie_changed", "_law_moved", "_law_at", "_law_point_changed", "_law_deed", "_law_row", "_law_rows", "_law_stands", "_law_none", "_law_built", "_law_word", "_law_lines", "_law_number", "_law_is_name", "_law_among", "_law_tie_read", "_law_line_read", "_law_read"]
def loose2 : List Str := ["_law_line_bent", "_law_bent", "_law_tried", "_law_good", "LETTERS", "FIGURES", "MOST_LETTERS", "MOST_FIGURES", "MOST", "MOST_POINTS", "MOST_TIES"]
def loose : List Str := loose0 ++ loose1 ++ loose2
theorem run (w : World) : HandSHeadRun.RunEq R (PySem.W.view R.prog [75]) hk ob 9000 loose w := by
  intro os
  kernel_rfl
end K04

set_option Elab.async false
set_option linter.all false
set_option maxRecDepth 100000
set_option maxHeartbeats 2000000
/-! KW: webs as plain data, and how they lie in the heap. -/
namespace WB
open PySem PySem.Spec PyProof.Rows L2 HX
/-! ### two lists side by side -/
inductive Two {α β : Type} (R : α → β → Prop) : List α → List β → Prop where
  | nil : Two R [] []
  | cons {a : α} {b : β} {as : List α} {bs : List β} (h : R a b) (t : Two R as bs) : Two R (a :: as) (b :: bs)
namespace Two
variable {α β γ δ : Type} {R : α → β → Prop} {as : List α} {bs : List β}
theorem len (h : Two R as bs) : as.length = bs.length := by
  induction h with
  | nil => rfl
  | cons _ _ ih => simp [ih]
theorem mono {S : α → β → Prop} (h : Two R as bs) (c : ∀ a b, R a b → S a b) : Two S as bs := by
  induction h with
  | nil => exact .nil
  | cons h _ ih => exact .cons (c _ _ h) ih
theorem app {cs : List α} {ds : List β} (h : Two R as bs) (g : Two R cs ds) : Two R (as ++ cs) (bs ++ ds) := by
  induction h with
  | nil => exact g
  | cons h _ ih => exact .cons h ih
theorem get (h : Two R as bs) : ∀ {i : Nat} {a : α}, as[i]? = some a → ∃ b, bs[i]? = some b ∧ R a b := by
  induction h with
  | nil => intro i a e; simp at e
  | cons h _ ih =>
    intro i a e
    cases i with
    | zero => cases e; exact ⟨_, rfl, h⟩
    | succ j => exact ih e
theorem getr (h : Two R as bs) : ∀ {i : Nat} {b : β}, bs[i]? = some b → ∃ a, as[i]? = some a ∧ R a b := by
  induction h with
  | nil => intro i a e; simp at e
  | cons h _ ih =>
    intro i a e
    cases i with
    | zero => cases e; exact ⟨_, rfl, h⟩
    | succ j => exact ih e
theorem map {S : γ → δ → Prop} {f : α → γ} {g : β → δ} (h : Two R as bs) (c : ∀ a b, R a b → S (f a) (g b)) : Two S (as.map f) (bs.map g) := by
  induction h with
  | nil => exact .nil
  | cons h _ ih => exact .cons (c _ _ h) ih
theorem filter {p : α → Bool} {q : β → Bool} (h : Two R as bs) (c : ∀ a b, R a b → p a = q b) : Two R (as.filter p) (bs.filter q) := by
  induction h with
  | nil => exact .nil
  | cons h t ih =>
    rw [List.filter_cons, List.filter_cons, c _ _ h]
    split
    · exact .cons h ih
    · exact ih
theorem any {p : α → Bool} {q : β → Bool} (h : Two R as bs) (c : ∀ a b, R a b → p a = q b) : as.any p = bs.any q := by
  induction h with
  | nil => rfl
  | cons h t ih => rw [List.any_cons, List.any_cons, c _ _ h, ih]
theorem find {p : α → Bool} {q : β → Bool} (h : Two R as bs) (c : ∀ a b, R a b → p a = q b) : (as.find? p = none ∧ bs.find? q = none) ∨ ∃ a b, as.find? p = some a ∧ bs.find? q = some b ∧ R a b := by
  induction h with
  | nil => exact .inl ⟨rfl, rfl⟩
  | @cons a b as bs h t ih =>
    rw [List.find?_cons, List.find?_cons, c _ _ h]
    cases q b with
    | true => exact .inr ⟨a, b, rfl, rfl, h⟩
    | false => exact ih
theorem take (h : Two R as bs) : ∀ n, Two R (as.take n) (bs.take n) := by
  induction h with
  | nil => intro n; simp; exact .nil
  | cons h t ih =>
    intro n
    cases n with
    | zero => exact .nil
    | succ m => exact .cons h (ih m)
theorem mem (h : Two R as bs) {a : α} (ha : a ∈ as) : ∃ b ∈ bs, R a b := by
  obtain ⟨i, hi⟩ := List.mem_iff_getElem?.mp ha
  obtain ⟨b, e, r⟩ := h.get hi
  exact ⟨b, List.mem_iff_getElem?.mpr ⟨i, e⟩, r⟩
end Two
/-! ### ties by their numbers -/
structure Ti where
  t : Str
  h : Str
  c : Int
  o : Bool
  deriving DecidableEq
abbrev Ts := List (Int × Ti)
def tget (ts : Ts) (n : Int) : Option Ti := (ts.find? fun x => decide (x.1 = n)).map (·.2)
def tput (ts : Ts) (n : Int) (t : Ti) : Ts := if (ts.any fun x => decide (x.1 = n)) = true then ts.map fun x => if x.1 = n then (x.1, t) else x else ts ++ [(n, t)]
def tdrop (ts : Ts) (n : Int) : Ts := ts.filter fun x => decide (x.1 ≠ n)
def turn (x y : Str) (t : Ti) : Ti := { t with t := if t.t = x then y else t.t, h := if t.h = x then y else t.h }
/-- a dict of numbers to things at addresses -/
def DP (R : Int → Ti → Addr → Prop) (kvs : List (Key × V)) (ts : Ts) : Prop := Two (fun kv nt => ∃ a, kv = ((Sum.inl nt.1 : Key), V.ref a) ∧ R nt.1 nt.2 a) kvs ts
namespace DP
variable {R S : Int → Ti → Addr → Prop} {kvs : List (Key × V)} {ts : Ts} {n : Int} {t : Ti} {a : Addr}
theorem nil : DP R [] [] := Two.nil
theorem mono (h : DP R kvs ts) (c : ∀ n t a, R n t a → S n t a) : DP S kvs ts := Two.mono h fun _ _ ⟨a, e, r⟩ => ⟨a, e, c _ _ _ r⟩
theorem len (h : DP R kvs ts) : kvs.length = ts.length := Two.len h
theorem keys (h : DP R kvs ts) : kvs.map (·.1) = (ts.map (·.1)).map Sum.inl := by
  induction h with
  | nil => rfl
  | cons h _ ih =>
    obtain ⟨a, rfl, _⟩ := h
    simp only [List.map_cons, ih]
theorem key_eq {kv : Key × V} {nt : Int × Ti} (h : ∃ a, kv = ((Sum.inl nt.1 : Key), V.ref a) ∧ R nt.1 nt.2 a) (n : Int) : decide (kv.1 = Sum.inl n) = decide (nt.1 = n) := by
  obtain ⟨a, rfl, _⟩ := h
  have : ((Sum.inl nt.1 : Key) = Sum.inl n) ↔ nt.1 = n := ⟨fun e => Sum.inl.inj e, fun e => by rw [e]⟩
  exact decide_eq_decide.mpr this
theorem get (h : DP R kvs ts) (e : tget ts n = some t) : ∃ a, valV kvs (Sum.inl n) = some (.ref a) ∧ R n t a := by
  rcases Two.find (p := fun kv => decide (kv.1 = (Sum.inl n : Key))) (q := fun x => decide (x.1 = n)) h (fun _ _ r => key_eq r n) with ⟨_, e2⟩ | ⟨kv, nt, e1, e2, a, rfl, r⟩
  · unfold tget at e; rw [e2] at e; simp at e
  · unfold tget at e
    rw [e2] at e
    have hn : nt.1 = n := by simpa using List.find?_some e2
    obtain ⟨m, u⟩ := nt
    cases e
    cases hn
    refine ⟨a, ?_, r⟩
    unfold valV
    rw [e1]; rfl
theorem none (h : DP R kvs ts) (e : tget ts n = none) : valV kvs (Sum.inl n) = .none := by
  rcases Two.find (p := fun kv => decide (kv.1 = (Sum.inl n : Key))) (q := fun x => decide (x.1 = n)) h (fun _ _ r => key_eq r n) with ⟨e1, e2⟩ | ⟨kv, nt, e1, e2, a, rfl, r⟩
  · unfold valV; rw [e1]; rfl
  · unfold tget at e; rw [e2] at e; simp at e
theorem some (h : DP R kvs ts) : (valV kvs (Sum.inl n)).isSome = (tget ts n).isSome := by
  cases e : tget ts n with
  | none => rw [h.none e]; rfl
  | some t =>
    obtain ⟨a, e2, _⟩ := h.get e
    rw [e2]; rfl
theorem put (h : DP R kvs ts) (r : R n t a) : DP R (putK kvs (Sum.inl n) (.ref a)) (tput ts n t) := by
  unfold putK tput
  have e := Two.any (p := fun kv => decide (kv.1 = (Sum.inl n : Key))) (q := fun x => decide (x.1 = n)) h (fun _ _ r => key_eq r n)
  rw [e]
  split
  · refine Two.map h fun kv nt r' => ?_
    have k := key_eq r' n
    obtain ⟨b, rfl, r2⟩ := r'
    by_cases hn : nt.1 = n
    · rw [if_pos hn, if_pos (by rw [hn])]
      exact ⟨a, rfl, by rw [hn]; exact r⟩
    · rw [if_neg hn, if_neg (fun e => hn (Sum.inl.inj e))]
      exact ⟨b, rfl, r2⟩
  · exact Two.app h (.cons ⟨a, rfl, r⟩ .nil)
theorem drop (h : DP R kvs ts) : DP R (dropK kvs (Sum.inl n)) (tdrop ts n) := by
  refine Two.filter h fun kv nt r => ?_
  have k := key_eq r n
  simp only [ne_eq, decide_not]
  rw [k]
theorem item (h : DP R kvs ts) {i : Nat} {kv : Key × V} (e : kvs[i]? = .some kv) : ∃ n t a, ts[i]? = .some (n, t) ∧ kv = (Sum.inl n, .ref a) ∧ R n t a := by
  obtain ⟨⟨n, t⟩, e1, a, rfl, r⟩ := Two.get h e
  exact ⟨n, t, a, e1, rfl, r⟩
theorem take (h : DP R kvs ts) (n : Nat) : DP R (kvs.take n) (ts.take n) := Two.take h n
theorem snoc (h : DP R kvs ts) (r : R n t a) : DP R (kvs ++ [(Sum.inl n, .ref a)]) (ts ++ [(n, t)]) := Two.app h (.cons ⟨a, rfl, r⟩ .nil)
end DP
/-! ### plain facts of ties -/
theorem tget_mem {ts : Ts} {n : Int} {t : Ti} (h : tget ts n = some t) : (n, t) ∈ ts := by
  unfold tget at h
  cases e : ts.find? fun x => decide (x.1 = n) with
  | none => rw [e] at h; simp at h
  | some x =>
    rw [e] at h
    have hn : x.1 = n := by simpa using List.find?_some e
    have hm := List.mem_of_find?_eq_some e
    obtain ⟨m, u⟩ := x
    cases h; cases hn
    exact hm
theorem tput_new {ts : Ts} {n : Int} {t : Ti} (h : ∀ x ∈ ts, x.1 ≠ n) : tput ts n t = ts ++ [(n, t)] := by
  unfold tput
  rw [if_neg]
  intro e
  obtain ⟨x, hx, e2⟩ := List.any_eq_true.mp e
  exact h x hx (by simpa using e2)
abbrev Rise (ts : Ts) : Prop := ts.Pairwise fun a b => a.1 < b.1
theorem tget_of {ts : Ts} (hs : Rise ts) {n : Int} {t : Ti} (h : (n, t) ∈ ts) : tget ts n = some t := by
  induction ts with
  | nil => simp at h
  | cons x r ih =>
    unfold tget
    rw [List.find?_cons]
    by_cases e : x.1 = n
    · rw [decide_eq_true e]
      rcases List.mem_cons.mp h with h | h
      · rw [← h]; rfl
      · have := (List.pairwise_cons.mp hs).1 _ h
        simp at this; omega
    · rw [decide_eq_false e]
      rcases List.mem_cons.mp h with h | h
      · exact absurd (by rw [← h]) e
      · exact ih (List.pairwise_cons.mp hs).2 h
theorem tput_keys {ts : Ts} {n : Int} {t u : Ti} (h : tget ts n = some u) : (tput ts n t).map (·.1) = ts.map (·.1) := by
  have a : (ts.any fun x => decide (x.1 = n)) = true := List.any_eq_true.mpr ⟨_, tget_mem h, by simp⟩
  unfold tput
  rw [if_pos a, List.map_map]
  apply List.map_congr_left
  intro x _
  show (if x.1 = n then (x.1, t) else x).1 = x.1
  split <;> rfl
theorem tput_eq {ts : Ts} {n : Int} {t u : Ti} (h : tget ts n = some u) : tput ts n t = ts.map fun x => if x.1 = n then (x.1, t) else x := by
  have a : (ts.any fun x => decide (x.1 = n)) = true := List.any_eq_true.mpr ⟨_, tget_mem h, by simp⟩
  unfold tput
  rw [if_pos a]
theorem rise_keys {ts us : Ts} (e : us.map (·.1) = ts.map (·.1)) (h : Rise ts) : Rise us := by
  have h1 : (ts.map (·.1)).Pairwise (· < ·) := List.pairwise_map.mpr h
  rw [← e] at h1
  exact List.pairwise_map.mp h1
/-! ### a web -/
structure Wb where
  ps : List Str
  ts : Ts
  g : Int
/-- a good name -/
def isNm (z : Str) : Bool := decide (1 ≤ z.length) && decide (z.length ≤ 12) && z.cps.toList.all fun c => decide (97 ≤ c) && decide (c ≤ 122)
def most : Int := 10 ^ 60
theorem most_pos : (0 : Int) < 10 ^ (60 : Int).toNat + 1 := by decide +kernel
structure TieOk (ps : List Str) (g : Int) (n : Int) (u : Ti) : Prop where
  lo : 1 ≤ n
  hi : n ≤ g
  t : u.t ∈ ps
  h : u.h ∈ ps
  ne : u.t ≠ u.h
  c0 : 0 ≤ u.c
  c1 : u.c ≤ most
structure Wok (w : Wb) : Prop where
  nd : w.ps.Nodup
  nm : ∀ x ∈ w.ps, isNm x = true
  le : w.ps.length ≤ 16
  tl : w.ts.length ≤ 48
  rise : Rise w.ts
  ok : ∀ n t, (n, t) ∈ w.ts → TieOk w.ps w.g n t
  g0 : 0 ≤ w.g
namespace Wb
def put (w : Wb) (x : Str) : Wb := { w with ps := w.ps ++ [x] }
def gone (w : Wb) (x : Str) : Wb := { w with ps := w.ps.erase x }
def ren (w : Wb) (x y : Str) : Wb := { w with ps := w.ps.set (w.ps.idxOf x) y, ts := w.ts.map fun nt => (nt.1, turn x y nt.2) }
def tie (w : Wb) (t : Ti) : Wb := { w with ts := w.ts ++ [(w.g + 1, t)], g := w.g + 1 }
def untie (w : Wb) (n : Int) : Wb := { w with ts := tdrop w.ts n }
def load (w : Wb) (n c : Int) : Wb := { w with ts := w.ts.map fun nt => if nt.1 = n then (nt.1, { nt.2 with c := c }) else nt }
def join (w : Wb) (x y : Str) : Wb := { w with ps := w.ps.erase y, ts := (w.ts.map fun nt => (nt.1, turn y x nt.2)).filter fun nt => decide (nt.2.t ≠ nt.2.h) }
def part (w : Wb) (x y : Str) (ns : List Int) : Wb := { w with ps := w.ps ++ [y], ts := w.ts.map fun nt => if nt.1 ∈ ns then (nt.1, turn x y nt.2) else nt }
end Wb
theorem Wok.put {w : Wb} (h : Wok w) {x : Str} (hx : x ∉ w.ps) (hn : isNm x = true) (hl : w.ps.length < 16) : Wok (w.put x) where
  nd := List.nodup_append.mpr ⟨h.nd, by simp, fun a ha b hb e => hx (by rw [List.mem_singleton.mp hb] at e; rw [← e]; exact ha)⟩
  nm := fun z hz => by
    rcases List.mem_append.mp hz with hz | hz
    · exact h.nm z hz
    · rw [List.mem_singleton.mp hz]; exact hn
  le := by
    show (w.ps ++ [x]).length ≤ 16
    rw [List.length_append, List.length_singleton]; omega
  tl := h.tl
  rise := h.rise
  ok := fun n t ht => have o := h.ok n t ht; { o with t := List.mem_append.mpr (.inl o.t), h := List.mem_append.mpr (.inl o.h) }
  g0 := h.g0
theorem Wok.gone {w : Wb} (h : Wok w) {x : Str} (hx : ∀ n t, (n, t) ∈ w.ts → t.t ≠ x ∧ t.h ≠ x) : Wok (w.gone x) where
  nd := h.nd.erase x
  nm := fun z hz => h.nm z (List.mem_of_mem_erase hz)
  le := Nat.le_trans (List.length_erase_le ..) h.le
  tl := h.tl
  rise := h.rise
  ok := fun n t ht => have o := h.ok n t ht; { o with t := (List.mem_erase_of_ne (hx n t ht).1).mpr o.t, h := (List.mem_erase_of_ne (hx n t ht).2).mpr o.h }
  g0 := h.g0
theorem set_idx {ps : List Str} {x y z : Str} (hx : x ∈ ps) (hz : z ∈ ps) (hne : z ≠ x) : z ∈ ps.set (ps.idxOf x) y := by
  induction ps with
  | nil => simp at hx
  | cons p r ih =>
    rw [List.idxOf_cons]
    by_cases e : p = x
    · subst e
      simp only [beq_self_eq_true, cond_true, List.set_cons_zero]
      rcases List.mem_cons.mp hz with h | h
      · exact absurd h hne
      · exact List.mem_cons_of_mem _ h
    · have eb : (p == x) = false := by simpa using e
      simp only [eb, cond_false, List.set_cons_succ]
      rcases List.mem_cons.mp hz with h | h
      · rw [h]; exact List.mem_cons_self
      · exact List.mem_cons_of_mem _ (ih ((List.mem_cons.mp hx).resolve_left (fun q => e q.symm)) h)
theorem set_new {ps : List Str} {x y : Str} (hx : x ∈ ps) : y ∈ ps.set (ps.idxOf x) y := by
  have hl : ps.idxOf x < ps.length := List.idxOf_lt_length_iff.mpr hx
  exact List.mem_iff_getElem?.mpr ⟨ps.idxOf x, by simp [hl]⟩
theorem set_nd {ps : List Str} {y : Str} (h : ps.Nodup) (hy : y ∉ ps) : ∀ i : Nat, (ps.set i y).Nodup := by
  induction ps with
  | nil => intro i; simp
  | cons p r ih =>
    intro i
    obtain ⟨h1, h2⟩ := List.nodup_cons.mp h
    cases i with
    | zero => exact List.nodup_cons.mpr ⟨fun m => hy (List.mem_cons_of_mem _ m), h2⟩
    | succ j =>
      refine List.nodup_cons.mpr ⟨fun m => ?_, ih h2 (fun m => hy (List.mem_cons_of_mem _ m)) j⟩
      rcases List.mem_or_eq_of_mem_set m with m | m
      · exact h1 m
      · exact hy (by rw [← m]; exact List.mem_cons_self)
theorem turn_end {x y : Str} {t : Ti} {ps : List Str} {z : Str} (hz : z = t.t ∨ z = t.h) : True := trivial
theorem Wok.ren {w : Wb} (h : Wok w) {x y : Str} (hx : x ∈ w.ps) (hy : y ∉ w.ps) (hn : isNm y = true) : Wok (w.ren x y) where
  nd := set_nd h.nd hy _
  nm := fun z hz => by
    rcases List.mem_or_eq_of_mem_set hz with m | m
    · exact h.nm z m
    · rw [m]; exact hn
  le := by
    show (w.ps.set _ y).length ≤ 16
    rw [List.length_set]; exact h.le
  tl := by
    show (w.ts.map _).length ≤ 48
    rw [List.length_map]; exact h.tl
  rise := rise_keys (by show (w.ts.map _).map _ = _; rw [List.map_map]; rfl) h.rise
  ok := fun n t ht => by
    obtain ⟨⟨m, u⟩, hm, e⟩ := List.mem_map.mp ht
    cases e
    have o := h.ok m u hm
    have ends : ∀ z, z ∈ w.ps → (if z = x then y else z) ∈ w.ps.set (w.ps.idxOf x) y := fun z hz => by
      split
      · exact set_new hx
      · rename_i hne; exact set_idx hx hz hne
    refine ⟨o.lo, o.hi, ends _ o.t, ends _ o.h, ?_, o.c0, o.c1⟩
    show (if u.t = x then y else u.t) ≠ (if u.h = x then y else u.h)
    have n1 : y ≠ u.t := fun e => hy (by rw [e]; exact o.t)
    have n2 : y ≠ u.h := fun e => hy (by rw [e]; exact o.h)
    have n3 := o.ne
    split
    · rename_i e1
      rw [if_neg (fun e2 => n3 (e1.trans e2.symm))]
      exact n2
    · split
      · exact n1.symm
      · exact n3
  g0 := h.g0
theorem Wok.tie {w : Wb} (h : Wok w) {t : Ti} (h1 : t.t ∈ w.ps) (h2 : t.h ∈ w.ps) (h3 : t.t ≠ t.h) (c0 : 0 ≤ t.c) (c1 : t.c ≤ most) (hl : w.ts.length < 48) : Wok (w.tie t) where
  nd := h.nd
  nm := h.nm
  le := h.le
  tl := by
    show (w.ts ++ _).length ≤ 48
    rw [List.length_append, List.length_singleton]; omega
  rise := by
    refine List.pairwise_append.mpr ⟨h.rise, by simp, fun a ha b hb => ?_⟩
    rw [List.mem_singleton.mp hb]
    have := (h.ok a.1 a.2 ha).hi
    show a.1 < w.g + 1
    omega
  ok := fun n u hu => by
    have hg := h.g0
    rcases List.mem_append.mp hu with hu | hu
    · have o := h.ok n u hu
      exact { o with hi := by have := o.hi; show n ≤ w.g + 1; omega }
    · cases List.mem_singleton.mp hu
      exact ⟨by omega, Int.le_refl _, h1, h2, h3, c0, c1⟩
  g0 := by have := h.g0; show 0 ≤ w.g + 1; omega
theorem Wok.untie {w : Wb} (h : Wok w) (n : Int) : Wok (w.untie n) where
  nd := h.nd
  nm := h.nm
  le := h.le
  tl := Nat.le_trans (List.length_filter_le ..) h.tl
  rise := h.rise.filter _
  ok := fun m t ht => h.ok m t (List.mem_filter.mp ht).1
  g0 := h.g0
theorem Wok.load {w : Wb} (h : Wok w) {n c : Int} (c0 : 0 ≤ c) (c1 : c ≤ most) : Wok (w.load n c) where
  nd := h.nd
  nm := h.nm
  le := h.le
  tl := by
    show (w.ts.map _).length ≤ 48
    rw [List.length_map]; exact h.tl
  rise := rise_keys (by
    show (w.ts.map _).map _ = _
    rw [List.map_map]
    apply List.map_congr_left
    intro x _
    show (if x.1 = n then (x.1, { x.2 with c := c }) else x).1 = x.1
    split <;> rfl) h.rise
  ok := fun m t ht => by
    obtain ⟨⟨k, u⟩, hm, e⟩ := List.mem_map.mp ht
    have o := h.ok k u hm
    by_cases hk : k = n
    · rw [if_pos hk] at e
      cases e
      exact { o with c0 := c0, c1 := c1 }
    · rw [if_neg hk] at e
      cases e
      exact o
  g0 := h.g0
theorem Wok.join {w : Wb} (h : Wok w) {x y : Str} (hx : x ∈ w.ps) (hy : y ∈ w.ps) (hne : x ≠ y) : Wok (w.join x y) where
  nd := h.nd.erase y
  nm := fun z hz => h.nm z (List.mem_of_mem_erase hz)
  le := Nat.le_trans (List.length_erase_le ..) h.le
  tl := Nat.le_trans (List.length_filter_le ..) (by rw [List.length_map]; exact h.tl)
  rise := by
    have r : Rise (w.ts.map fun nt => (nt.1, turn y x nt.2)) := rise_keys (by rw [List.map_map]; rfl) h.rise
    exact r.filter _
  ok := fun n t ht => by
    obtain ⟨h1, h2⟩ := List.mem_filter.mp ht
    obtain ⟨⟨m, u⟩, hm, e⟩ := List.mem_map.mp h1
    cases e
    have o := h.ok m u hm
    have ends : ∀ z, z ∈ w.ps → (if z = y then x else z) ∈ w.ps.erase y := fun z hz => by
      split
      · exact (List.mem_erase_of_ne hne).mpr hx
      · rename_i hn; exact (List.mem_erase_of_ne hn).mpr hz
    exact ⟨o.lo, o.hi, ends _ o.t, ends _ o.h, by simpa using h2, o.c0, o.c1⟩
  g0 := h.g0
theorem Wok.part {w : Wb} (h : Wok w) {x y : Str} {ns : List Int} (hy : y ∉ w.ps) (hn : isNm y = true) (hl : w.ps.length < 16) : Wok (w.part x y ns) where
  nd := (h.put hy hn hl).nd
  nm := (h.put hy hn hl).nm
  le := (h.put hy hn hl).le
  tl := by
    show (w.ts.map _).length ≤ 48
    rw [List.length_map]; exact h.tl
  rise := rise_keys (by
    show (w.ts.map _).map _ = _
    rw [List.map_map]
    apply List.map_congr_left
    intro z _
    show (if z.1 ∈ ns then (z.1, turn x y z.2) else z).1 = z.1
    split <;> rfl) h.rise
  ok := fun n t ht => by
    obtain ⟨⟨m, u⟩, hm, e⟩ := List.mem_map.mp ht
    have o := h.ok m u hm
    have inl : ∀ z, z ∈ w.ps → z ∈ w.ps ++ [y] := fun z hz => List.mem_append.mpr (.inl hz)
    by_cases hk : m ∈ ns
    · rw [if_pos hk] at e
      cases e
      have ends : ∀ z, z ∈ w.ps → (if z = x then y else z) ∈ w.ps ++ [y] := fun z hz => by
        split
        · exact List.mem_append.mpr (.inr (by simp))
        · exact inl z hz
      refine ⟨o.lo, o.hi, ends _ o.t, ends _ o.h, ?_, o.c0, o.c1⟩
      show (if u.t = x then y else u.t) ≠ (if u.h = x then y else u.h)
      have n1 : y ≠ u.t := fun e => hy (by rw [e]; exact o.t)
      have n2 : y ≠ u.h := fun e => hy (by rw [e]; exact o.h)
      have n3 := o.ne
      split
      · rename_i e1
        rw [if_neg (fun e2 => n3 (e1.trans e2.symm))]
        exact n2
      · split
        · exact n1.symm
        · exact n3
    · rw [if_neg hk] at e
      cases e
      exact { o with t := inl _ o.t, h := inl _ o.h }
  g0 := h.g0
end WB

set_option Elab.async false
set_option linter.all false
set_option maxRecDepth 100000
set_option maxHeartbeats 2000000
/-! KG: ways in a web, as plain data. -/
namespace WB
open PySem PySem.Spec PyProof.Rows L2 HX
/-- the steps from a point, as they may be gone -/
def freeOne (x : Str) (nt : Int × Ti) : List (Int × Str) := (if nt.2.t = x then [(nt.1, nt.2.h)] else []) ++ (if nt.2.o = false ∧ nt.2.h = x then [(nt.1, nt.2.t)] else [])
def freeS (ts : Ts) (x : Str) : List (Int × Str) := ts.flatMap (freeOne x)
/-- .. one-way ties as plain ones -/
def plainOne (x : Str) (nt : Int × Ti) : List (Int × Str) := (if nt.2.t = x then [(nt.1, nt.2.h)] else []) ++ (if nt.2.h = x then [(nt.1, nt.2.t)] else [])
def plainS (ts : Ts) (x : Str) : List (Int × Str) := ts.flatMap (plainOne x)
abbrev Steps := Str → List (Int × Str)
abbrev Came := List (Str × Option (Int × Str))
def keysC (cm : Came) : List Str := cm.map (·.1)
def see (cm : Came) (a : Str) (s : Int × Str) : Came := if s.2 ∈ keysC cm then cm else cm ++ [(s.2, some (s.1, a))]
def seeAll (cm : Came) (a : Str) (ss : List (Int × Str)) : Came := ss.foldl (fun c s => see c a s) cm
def bfs (S : Steps) : Nat → Came → Nat → Came
  | 0, cm, _ => cm
  | f + 1, cm, d => match cm[d]? with
    | none => cm
    | some p => bfs S f (seeAll cm p.1 (S p.1)) (d + 1)
def came (S : Steps) (one : Str) : Came := bfs S 17 [(one, none)] 0
/-! ### what a came keeps -/
/-- all but the first stand behind the one that they are come to from -/
structure CmOk (S : Steps) (one : Str) (cm : Came) : Prop where
  nd : (keysC cm).Nodup
  hd : cm[0]? = some (one, none)
  from' : ∀ (i : Nat) (y : Str) (o : Option (Int × Str)), cm[i]? = some (y, o) → 0 < i → ∃ n a, o = some (n, a) ∧ (n, y) ∈ S a ∧ ∃ j, j < i ∧ (keysC cm)[j]? = some a
/-- the first d are done with -/
def Done (S : Steps) (cm : Came) (d : Nat) : Prop := ∀ i a, i < d → (keysC cm)[i]? = some a → ∀ s ∈ S a, s.2 ∈ keysC cm
theorem keysC_app {a b : Came} : keysC (a ++ b) = keysC a ++ keysC b := List.map_append ..
theorem keysC_len {a : Came} : (keysC a).length = a.length := List.length_map ..
theorem keysC_get {cm : Came} {i : Nat} {y : Str} {o : Option (Int × Str)} (h : cm[i]? = some (y, o)) : (keysC cm)[i]? = some y := by
  unfold keysC
  rw [List.getElem?_map, h]; rfl
theorem see_pre (cm : Came) (a : Str) (s : Int × Str) : ∃ r, see cm a s = cm ++ r := by
  unfold see
  split
  · exact ⟨[], by simp⟩
  · exact ⟨_, rfl⟩
theorem seeAll_pre (a : Str) : ∀ (ss : List (Int × Str)) (cm : Came), ∃ r, seeAll cm a ss = cm ++ r
  | [], cm => ⟨[], by simp [seeAll]⟩
  | s :: ss, cm => by
    obtain ⟨r1, e1⟩ := see_pre cm a s
    obtain ⟨r2, e2⟩ := seeAll_pre a ss (see cm a s)
    refine ⟨r1 ++ r2, ?_⟩
    show seeAll (see cm a s) a ss = _
    rw [e2, e1, List.append_assoc]
theorem get_app {α : Type} {a b : List α} {i : Nat} {x : α} (h : a[i]? = some x) : (a ++ b)[i]? = some x := by
  rw [List.getElem?_append_left (List.getElem?_eq_some_iff.mp h).1]; exact h
theorem CmOk.see {S : Steps} {one a : Str} {cm : Came} (h : CmOk S one cm) {s : Int × Str} (hs : s ∈ S a) (ha : a ∈ keysC cm) : CmOk S one (see cm a s) := by
  unfold WB.see
  split
  · exact h
  · rename_i hn
    refine ⟨?_, get_app h.hd, ?_⟩
    · rw [keysC_app]
      exact List.nodup_append.mpr ⟨h.nd, by simp [keysC], fun x hx y hy e => hn (by simp [keysC] at hy; rw [← hy, ← e]; exact hx)⟩
    · intro i y o hi h0
      rcases Nat.lt_or_ge i cm.length with hl | hl
      · rw [List.getElem?_append_left hl] at hi
        obtain ⟨n, b, e, m, j, hj, hk⟩ := h.from' i y o hi h0
        exact ⟨n, b, e, m, j, hj, by rw [keysC_app]; exact get_app hk⟩
      · rw [List.getElem?_append_right hl] at hi
        have hi0 : i - cm.length = 0 := by
          have := (List.getElem?_eq_some_iff.mp hi).1
          simp at this; omega
        rw [hi0] at hi
        cases hi
        obtain ⟨j, hj⟩ := List.mem_iff_getElem?.mp ha
        refine ⟨s.1, a, rfl, hs, j, ?_, by rw [keysC_app]; exact get_app hj⟩
        have := (List.getElem?_eq_some_iff.mp hj).1
        rw [keysC_len] at this
        omega
theorem mem_keys_see {cm : Came} {a x : Str} {s : Int × Str} (h : x ∈ keysC cm) : x ∈ keysC (see cm a s) := by
  obtain ⟨r, e⟩ := see_pre cm a s
  rw [e, keysC_app]
  exact List.mem_append.mpr (.inl h)
theorem CmOk.seeAll {S : Steps} {one a : Str} : ∀ (ss : List (Int × Str)) {cm : Came} (h : CmOk S one cm) (hs : ∀ s ∈ ss, s ∈ S a) (ha : a ∈ keysC cm), CmOk S one (seeAll cm a ss)
  | [], _, h, _, _ => h
  | s :: ss, cm, h, hs, ha => CmOk.seeAll ss (h.see (hs s (List.mem_cons_self ..)) ha) (fun t ht => hs t (List.mem_cons_of_mem _ ht)) (mem_keys_see ha)
theorem seeAll_has {a : Str} : ∀ (ss : List (Int × Str)) {cm : Came}, ∀ s ∈ ss, s.2 ∈ keysC (seeAll cm a ss)
  | [], _, s, hs => by simp at hs
  | t :: ss, cm, s, hs => by
    show s.2 ∈ keysC (seeAll (see cm a t) a ss)
    rcases List.mem_cons.mp hs with rfl | hs
    · obtain ⟨r, e⟩ := seeAll_pre a ss (see cm a s)
      rw [e, keysC_app]
      refine List.mem_append.mpr (.inl ?_)
      unfold see
      split
      · assumption
      · rw [keysC_app]; simp [keysC]
    · exact seeAll_has ss s hs
theorem Done.step {S : Steps} {cm : Came} {d : Nat} {a : Str} {o : Option (Int × Str)} (h : Done S cm d) (hd : cm[d]? = some (a, o)) : Done S (seeAll cm a (S a)) (d + 1) := by
  obtain ⟨r, e⟩ := seeAll_pre a (S a) cm
  intro i b hi hb s hs
  have hdl := (List.getElem?_eq_some_iff.mp hd).1
  have hb2 : (keysC cm)[i]? = some b := by
    rw [e, keysC_app, List.getElem?_append_left (by rw [keysC_len]; omega)] at hb
    exact hb
  rcases Nat.lt_or_ge i d with hl | hl
  · rw [e, keysC_app]
    exact List.mem_append.mpr (.inl (h i b hl hb2 s hs))
  · have : i = d := by omega
    subst this
    rw [keysC_get hd] at hb2
    cases hb2
    exact seeAll_has _ s hs
/-- the loop's end: all points come to are points of ps -/
theorem CmOk.keys_in {S : Steps} {one : Str} {cm : Came} {ps : List Str} (h : CmOk S one cm) (h1 : one ∈ ps) (hS : ∀ a ∈ ps, ∀ s ∈ S a, s.2 ∈ ps) : ∀ y ∈ keysC cm, y ∈ ps := by
  have : ∀ (i : Nat) y, (keysC cm)[i]? = some y → y ∈ ps := by
    intro i
    induction i using Nat.strongRecOn with
    | _ i ih =>
      intro y hy
      have hi := (List.getElem?_eq_some_iff.mp hy).1
      rw [keysC_len] at hi
      obtain ⟨⟨z, o⟩, e⟩ : ∃ p, cm[i]? = some p := ⟨_, List.getElem?_eq_getElem hi⟩
      have e2 := keysC_get e
      rw [hy] at e2
      cases e2
      rcases Nat.eq_zero_or_pos i with rfl | h0
      · rw [h.hd] at e
        cases e; exact h1
      · obtain ⟨n, a, _, m, j, hj, hk⟩ := h.from' i y o e h0
        exact hS a (ih j hj a hk) _ m
  intro y hy
  obtain ⟨i, hi⟩ := List.mem_iff_getElem?.mp hy
  exact this i y hi
theorem nodup_len {α : Type} [DecidableEq α] : ∀ {a b : List α}, a.Nodup → (∀ x ∈ a, x ∈ b) → a.length ≤ b.length
  | [], _, _, _ => Nat.zero_le _
  | x :: r, b, h, hb => by
    obtain ⟨h1, h2⟩ := List.nodup_cons.mp h
    have hx := hb x (List.mem_cons_self ..)
    have := nodup_len (a := r) (b := b.erase x) h2 (fun y hy => (List.mem_erase_of_ne (fun e => h1 (by rw [← e]; exact hy))).mpr (hb y (List.mem_cons_of_mem _ hy)))
    rw [List.length_erase_of_mem hx] at this
    have : 0 < b.length := List.length_pos_of_mem hx
    simp only [List.length_cons]
    omega
/-- a came that is at its end -/
structure CmEnd (S : Steps) (one : Str) (cm : Came) : Prop extends CmOk S one cm where
  cl : ∀ a ∈ keysC cm, ∀ s ∈ S a, s.2 ∈ keysC cm
theorem CmOk.toEnd {S : Steps} {one : Str} {cm : Came} {d : Nat} (h : CmOk S one cm) (hd : Done S cm d) (hl : cm.length ≤ d) : CmEnd S one cm where
  nd := h.nd
  hd := h.hd
  from' := h.from'
  cl := fun a ha s hs => by
    obtain ⟨i, hi⟩ := List.mem_iff_getElem?.mp ha
    have hlt := (List.getElem?_eq_some_iff.mp hi).1
    rw [keysC_len] at hlt
    exact hd i a (Nat.lt_of_lt_of_le hlt hl) hi s hs
theorem cmOk_one (S : Steps) (one : Str) : CmOk S one [(one, none)] where
  nd := by simp [keysC]
  hd := rfl
  from' := fun i y o hi h0 => by
    have := (List.getElem?_eq_some_iff.mp hi).1
    simp at this; omega
theorem done_zero (S : Steps) (cm : Came) : Done S cm 0 := fun i a hi => by omega
theorem bfs_end {S : Steps} {one : Str} {ps : List Str} (hp : ps.length ≤ 16) (h1 : one ∈ ps) (hS : ∀ a ∈ ps, ∀ s ∈ S a, s.2 ∈ ps) :
    ∀ (f : Nat) (cm : Came) (d : Nat), CmOk S one cm → Done S cm d → d + f = 17 → CmEnd S one (bfs S f cm d)
  | 0, cm, d, h, hd, e => h.toEnd hd (by
      have := nodup_len h.nd (h.keys_in h1 hS)
      rw [keysC_len] at this
      omega)
  | f + 1, cm, d, h, hd, e => by
    unfold bfs
    cases q : cm[d]? with
    | none => exact h.toEnd hd (List.getElem?_eq_none_iff.mp q)
    | some p =>
      obtain ⟨a, o⟩ := p
      exact bfs_end hp h1 hS f _ _ (h.seeAll _ (fun _ hs => hs) (List.mem_of_getElem? (keysC_get q))) (hd.step q) (by omega)
theorem came_end {S : Steps} {one : Str} {ps : List Str} (hp : ps.length ≤ 16) (h1 : one ∈ ps) (hS : ∀ a ∈ ps, ∀ s ∈ S a, s.2 ∈ ps) : CmEnd S one (came S one) :=
  bfs_end hp h1 hS 17 _ _ (cmOk_one S one) (done_zero _ _) rfl
theorem bfs_step {S : Steps} {f : Nat} {cm : Came} {d : Nat} {a : Str} {o : Option (Int × Str)} (h : cm[d]? = some (a, o)) : bfs S (f + 1) cm d = bfs S f (seeAll cm a (S a)) (d + 1) := by
  show (match cm[d]? with
    | none => cm
    | some p => bfs S f (seeAll cm p.1 (S p.1)) (d + 1)) = _
  rw [h]
theorem bfs_stop {S : Steps} {f : Nat} {cm : Came} {d : Nat} (h : cm.length ≤ d) : bfs S f cm d = cm := by
  cases f with
  | zero => rfl
  | succ f =>
    show (match cm[d]? with
      | none => cm
      | some p => bfs S f (seeAll cm p.1 (S p.1)) (d + 1)) = _
    rw [List.getElem?_eq_none_iff.mpr h]
/-- steps that are alike at all points of ps -/
theorem bfs_congr {S S' : Steps} {ps : List Str} (hS : ∀ a ∈ ps, ∀ s ∈ S a, s.2 ∈ ps) (he : ∀ a ∈ ps, S' a = S a) : ∀ (f : Nat) (cm : Came) (d : Nat), (∀ y ∈ keysC cm, y ∈ ps) → bfs S' f cm d = bfs S f cm d
  | 0, _, _, _ => rfl
  | f + 1, cm, d, h => by
    cases q : cm[d]? with
    | none => rw [bfs_stop (List.getElem?_eq_none_iff.mp q), bfs_stop (List.getElem?_eq_none_iff.mp q)]
    | some p =>
      obtain ⟨a, o⟩ := p
      have ha := h a (List.mem_of_getElem? (keysC_get q))
      rw [bfs_step q, bfs_step q, he a ha]
      refine bfs_congr hS he f _ _ ?_
      have : ∀ (ss : List (Int × Str)) (cm : Came), (∀ y ∈ keysC cm, y ∈ ps) → (∀ s ∈ ss, s.2 ∈ ps) → ∀ y ∈ keysC (seeAll cm a ss), y ∈ ps := by
        intro ss
        induction ss with
        | nil => intro cm h _; exact h
        | cons s ss ih =>
          intro cm h hs
          refine ih (see cm a s) ?_ (fun t ht => hs t (List.mem_cons_of_mem _ ht))
          unfold see
          split
          · exact h
          · intro y hy
            rw [keysC_app] at hy
            rcases List.mem_append.mp hy with hy | hy
            · exact h y hy
            · simp [keysC] at hy
              rw [hy]; exact hs s (List.mem_cons_self ..)
      exact this _ _ h (hS a ha)
theorem came_congr {S S' : Steps} {ps : List Str} {one : Str} (h1 : one ∈ ps) (hS : ∀ a ∈ ps, ∀ s ∈ S a, s.2 ∈ ps) (he : ∀ a ∈ ps, S' a = S a) : came S' one = came S one :=
  bfs_congr hS he _ _ _ (fun y hy => by simp [keysC] at hy; rw [hy]; exact h1)
/-! ### the way back -/
def look (cm : Came) (y : Str) : Option (Option (Int × Str)) := (cm.find? fun p => decide (p.1 = y)).map (·.2)
def back (cm : Came) : Nat → Str → List Int
  | 0, _ => []
  | f + 1, y => match look cm y with
    | some (some p) => p.1 :: back cm f p.2
    | _ => []
theorem look_at {cm : Came} (h : (keysC cm).Nodup) {i : Nat} {y : Str} {o : Option (Int × Str)} (e : cm[i]? = some (y, o)) : look cm y = some o := by
  unfold look
  induction cm generalizing i with
  | nil => simp at e
  | cons p r ih =>
    obtain ⟨h1, h2⟩ := List.nodup_cons.mp h
    rw [List.find?_cons]
    cases i with
    | zero =>
      cases e
      simp
    | succ i =>
      have e' : r[i]? = some (y, o) := e
      have hy : p.1 ≠ y := fun q => h1 (List.mem_map.mpr ⟨_, List.mem_of_getElem? e', q.symm⟩)
      rw [decide_eq_false hy]
      exact ih h2 e'
theorem look_none {cm : Came} {y : Str} (h : y ∉ keysC cm) : look cm y = none := by
  unfold look
  rw [List.find?_eq_none.mpr (fun p hp => by
    simp only [decide_eq_true_eq]
    intro e
    exact h (List.mem_map.mpr ⟨p, hp, e⟩))]
  rfl
/-- the points that a way leads by -/
inductive Leads (S : Steps) : Str → List Int → List Str → Str → Prop where
  | here (x : Str) : Leads S x [] [x] x
  | snoc {x a y : Str} {ns : List Int} {ps : List Str} {n : Int} (h : Leads S x ns ps a) (s : (n, y) ∈ S a) : Leads S x (ns ++ [n]) (ps ++ [y]) y
theorem CmOk.back {S : Steps} {one : Str} {cm : Came} (h : CmOk S one cm) : ∀ (i : Nat) (y : Str) (f : Nat), (keysC cm)[i]? = some y → i < f →
    (WB.back cm f y).length ≤ i ∧ ∃ ps, Leads S one (WB.back cm f y).reverse ps y ∧ ps.Nodup ∧ ∀ z ∈ ps, ∃ j, j ≤ i ∧ (keysC cm)[j]? = some z := by
  intro i
  induction i using Nat.strongRecOn with
  | _ i ih =>
    intro y f hy hf
    have hi := (List.getElem?_eq_some_iff.mp hy).1
    rw [keysC_len] at hi
    obtain ⟨⟨z, o⟩, e⟩ : ∃ p, cm[i]? = some p := ⟨_, List.getElem?_eq_getElem hi⟩
    have e2 := keysC_get e
    rw [hy] at e2
    cases e2
    obtain ⟨f, rfl⟩ : ∃ g, f = g + 1 := ⟨f - 1, by omega⟩
    have hl := look_at h.nd e
    rcases Nat.eq_zero_or_pos i with rfl | h0
    · rw [h.hd] at e
      cases e
      have eb : WB.back cm (f + 1) one = [] := by
        show (match look cm one with
          | some (some p) => p.1 :: WB.back cm f p.2
          | _ => []) = _
        rw [hl]
      rw [eb]
      exact ⟨Nat.le_refl _, [one], .here _, by simp, fun z hz => ⟨0, Nat.le_refl _, by simp at hz; rw [hz]; exact hy⟩⟩
    · obtain ⟨n, a, rfl, m, j, hj, hk⟩ := h.from' i y o e h0
      have eb : WB.back cm (f + 1) y = n :: WB.back cm f a := by
        show (match look cm y with
          | some (some p) => p.1 :: WB.back cm f p.2
          | _ => []) = _
        rw [hl]
      obtain ⟨h1, ps, h2, h3, h4⟩ := ih j hj a f hk (by omega)
      rw [eb, List.reverse_cons]
      refine ⟨by simp only [List.length_cons]; omega, ps ++ [y], .snoc h2 m, ?_, ?_⟩
      · refine List.nodup_append.mpr ⟨h3, by simp, fun z hz w hw e3 => ?_⟩
        simp at hw
        obtain ⟨k, hk1, hk2⟩ := h4 z hz
        rw [e3, hw] at hk2
        have : k < (keysC cm).length := (List.getElem?_eq_some_iff.mp hk2).1
        have := (List.getElem_inj h.nd (h₀ := this) (h₁ := by rw [keysC_len]; omega)).mp ((List.getElem?_eq_some_iff.mp hk2).2.trans (List.getElem?_eq_some_iff.mp hy).2.symm)
        omega
      · intro z hz
        rcases List.mem_append.mp hz with hz | hz
        · obtain ⟨k, hk1, hk2⟩ := h4 z hz
          exact ⟨k, by omega, hk2⟩
        · simp at hz
          exact ⟨i, Nat.le_refl _, by rw [hz]; exact hy⟩
/-! ### what is come to -/
inductive Rch (S : Steps) (one : Str) : Str → Prop where
  | here : Rch S one one
  | step {a y : Str} {n : Int} (h : Rch S one a) (s : (n, y) ∈ S a) : Rch S one y
theorem CmEnd.keys_iff {S : Steps} {one : Str} {cm : Came} (h : CmEnd S one cm) {y : Str} : y ∈ keysC cm ↔ Rch S one y := by
  constructor
  · have : ∀ (i : Nat) y, (keysC cm)[i]? = some y → Rch S one y := by
      intro i
      induction i using Nat.strongRecOn with
      | _ i ih =>
        intro y hy
        have hi := (List.getElem?_eq_some_iff.mp hy).1
        rw [keysC_len] at hi
        obtain ⟨⟨z, o⟩, e⟩ : ∃ p, cm[i]? = some p := ⟨_, List.getElem?_eq_getElem hi⟩
        have e2 := keysC_get e
        rw [hy] at e2
        cases e2
        rcases Nat.eq_zero_or_pos i with rfl | h0
        · rw [h.hd] at e
          cases e; exact .here
        · obtain ⟨n, a, _, m, j, hj, hk⟩ := h.from' i y o e h0
          exact .step (ih j hj a hk) m
    intro hy
    obtain ⟨i, hi⟩ := List.mem_iff_getElem?.mp hy
    exact this i y hi
  · intro r
    induction r with
    | here => exact List.mem_of_getElem? (keysC_get h.hd)
    | step _ s ih => exact h.cl _ ih _ s
/-- a list that is closed, too, and whose points are all come to, holds the same -/
theorem Rch.of_closed {S : Steps} {one : Str} {fs : List Str} (h1 : one ∈ fs) (cl : ∀ a ∈ fs, ∀ s ∈ S a, s.2 ∈ fs) {y : Str} (r : Rch S one y) : y ∈ fs := by
  induction r with
  | here => exact h1
  | step _ s ih => exact cl _ ih _ s
theorem free_mem {ts : Ts} {x y : Str} {n : Int} : (n, y) ∈ freeS ts x ↔ ∃ u, (n, u) ∈ ts ∧ ((u.t = x ∧ u.h = y) ∨ (u.o = false ∧ u.h = x ∧ u.t = y)) := by
  unfold freeS freeOne
  rw [List.mem_flatMap]
  constructor
  · rintro ⟨⟨m, u⟩, hm, h⟩
    rcases List.mem_append.mp h with h | h
    · split at h
      · rename_i c
        simp at h
        obtain ⟨rfl, rfl⟩ := h
        exact ⟨u, hm, .inl ⟨c, rfl⟩⟩
      · simp at h
    · split at h
      · rename_i c
        simp at h
        obtain ⟨rfl, rfl⟩ := h
        exact ⟨u, hm, .inr ⟨c.1, c.2, rfl⟩⟩
      · simp at h
  · rintro ⟨u, hu, h⟩
    refine ⟨(n, u), hu, List.mem_append.mpr ?_⟩
    rcases h with ⟨h1, h2⟩ | ⟨h1, h2, h3⟩
    · left; simp [h1, h2]
    · right; simp [h1, h2, h3]
theorem free_in {w : Wb} (h : Wok w) : ∀ a ∈ w.ps, ∀ s ∈ freeS w.ts a, s.2 ∈ w.ps := by
  rintro a _ ⟨n, y⟩ hs
  obtain ⟨u, hu, c⟩ := free_mem.mp hs
  have o := h.ok n u hu
  rcases c with ⟨_, rfl⟩ | ⟨_, _, rfl⟩
  · exact o.h
  · exact o.t
end WB

set_option Elab.async false
set_option linter.all false
set_option maxRecDepth 100000
set_option maxHeartbeats 2000000
namespace L2
theorem Same.new {H : Hp} {p : PySem.Addr} {o : HO} (h : H p = none) : Same H (upd H p o) := fun a u e => by
  rw [upd_ne (ne_of_none e h)]
  exact e
theorem Same.mut {H H' : Hp} {p : PySem.Addr} {o : HO} (e : Same H H') (h : H p = none) : Same H (upd H' p o) := fun a u ha => by
  rw [upd_ne (ne_of_none ha h)]
  exact e a u ha
end L2
/-! KH: webs in the heap. -/
namespace WB
open PySem PySem.Spec PyProof.Rows L2 HX
def tieFs (n : Int) (t : Ti) : List (Str × V) := [("number", .int n), ("tail", .str t.t), ("head", .str t.h), ("load", .int t.c), ("is_oneway", .bl t.o)]
def TieAt (K : PySem.W.Frag) (H : Hp) (n : Int) (t : Ti) (a : Addr) : Prop := ∃ dx, H a = some (.ins (He.ga K "Tie") dx (tieFs n t))
def webFs (l d : Addr) (g : Int) : List (Str × V) := [("_points", .ref l), ("_ties", .ref d), ("_given", .int g)]
structure WebAt (K : PySem.W.Frag) (H : Hp) (p l d : Addr) (w : Wb) : Prop where
  self : ∃ dx, H p = some (.ins (He.ga K "Web") dx (webFs l d w.g))
  pts : H l = some (.lst (w.ps.map V.str))
  ties : ∃ kvs, H d = some (.dK kvs) ∧ DP (TieAt K H) kvs w.ts
/-- all else stays -/
def Keep (H H' : Hp) (p l d : Addr) : Prop := ∀ b o, b ≠ p → b ≠ l → b ≠ d → H b = some o → H' b = some o
section
variable {K : PySem.W.Frag} {H H' : Hp} {p l d a b : Addr} {w : Wb} {n : Int} {t : Ti} {o : HO} {ts : Ts} {kvs : List (Key × V)}
theorem Keep.rfl : Keep H H p l d := fun _ _ _ _ _ e => e
theorem Keep.of (s : Same H H') : Keep H H' p l d := fun b o _ _ _ e => s b o e
theorem Keep.trans {H2 : Hp} {d2 : Addr} (k : Keep H H' p l d) (k2 : Keep H' H2 p l d2) (hd : d2 = d ∨ H d2 = none) : Keep H H2 p l d := fun b o h1 h2 h3 e => by
  refine k2 b o h1 h2 ?_ (k b o h1 h2 h3 e)
  rintro rfl
  rcases hd with e2 | e2
  · exact h3 e2
  · rw [e2] at e; cases e
theorem TieAt.same (h : TieAt K H n t a) (s : Same H H') : TieAt K H' n t a := by
  obtain ⟨dx, e⟩ := h
  exact ⟨dx, s _ _ e⟩
theorem TieAt.ne (h : TieAt K H n t a) (e : H b = some o) (c : ∀ C dx n t, o ≠ .ins C dx (tieFs n t)) : a ≠ b := by
  rintro rfl
  obtain ⟨dx, e2⟩ := h
  exact c _ _ _ _ (Option.some.inj (e.symm.trans e2))
theorem webFs_ne {C dx C2 dx2 : Addr} {g : Int} : HO.ins C dx (webFs l d g) ≠ .ins C2 dx2 (tieFs n t) := by
  intro e
  have e1 := (HO.ins.inj e).2.2
  have e2 := (Prod.mk.inj (List.cons.inj e1).1).1
  exact absurd e2 (by decide +kernel)
theorem TieAt.other (h : TieAt K H n t a) (hb : a ≠ b) : TieAt K (upd H b o) n t a := by
  obtain ⟨dx, e⟩ := h
  exact ⟨dx, (upd_ne hb).trans e⟩
theorem TieAt.new (h : TieAt K H n t a) (hb : H b = none) : TieAt K (upd H b o) n t a := by
  obtain ⟨dx, e⟩ := h
  exact ⟨dx, (upd_ne (ne_of_none e hb)).trans e⟩
theorem WebAt.ne_pl (h : WebAt K H p l d w) : p ≠ l := by
  rintro rfl
  obtain ⟨dx, e⟩ := h.self
  have e2 := h.pts
  rw [e] at e2; cases e2
theorem WebAt.ne_pd (h : WebAt K H p l d w) : p ≠ d := by
  rintro rfl
  obtain ⟨dx, e⟩ := h.self
  obtain ⟨kvs, e2, _⟩ := h.ties
  rw [e] at e2; cases e2
theorem WebAt.ne_ld (h : WebAt K H p l d w) : l ≠ d := by
  rintro rfl
  have e := h.pts
  obtain ⟨kvs, e2, _⟩ := h.ties
  rw [e] at e2; cases e2
theorem WebAt.tie_ne (h : WebAt K H p l d w) (ta : TieAt K H n t a) : a ≠ p ∧ a ≠ l ∧ a ≠ d := by
  obtain ⟨dx, e1⟩ := h.self
  obtain ⟨kvs, e3, _⟩ := h.ties
  exact ⟨ta.ne e1 (fun _ _ _ _ => webFs_ne), ta.ne h.pts (fun _ _ _ _ => by simp), ta.ne e3 (fun _ _ _ _ => by simp)⟩
theorem WebAt.tie_keep (h : WebAt K H p l d w) (k : Keep H H' p l d) (ta : TieAt K H n t a) : TieAt K H' n t a := by
  obtain ⟨n1, n2, n3⟩ := h.tie_ne ta
  obtain ⟨dx, e⟩ := ta
  exact ⟨dx, k _ _ n1 n2 n3 e⟩
theorem WebAt.same (h : WebAt K H p l d w) (s : Same H H') : WebAt K H' p l d w where
  self := by
    obtain ⟨dx, e⟩ := h.self
    exact ⟨dx, s _ _ e⟩
  pts := s _ _ h.pts
  ties := by
    obtain ⟨kvs, e, c⟩ := h.ties
    exact ⟨kvs, s _ _ e, c.mono fun _ _ _ r => r.same s⟩
/-- another web that stands beside -/
theorem WebAt.beside {p2 l2 d2 : Addr} {w2 : Wb} (h : WebAt K H p l d w) (k : Keep H H' p2 l2 d2) (g : WebAt K H p2 l2 d2 w2) (c1 : p ≠ p2) (c2 : l ≠ l2) (c3 : d ≠ d2) : WebAt K H' p l d w where
  self := by
    obtain ⟨dx, e⟩ := h.self
    refine ⟨dx, k _ _ c1 ?_ ?_ e⟩
    · rintro rfl
      have e2 := g.pts
      rw [e] at e2; cases e2
    · rintro rfl
      obtain ⟨_, e2, _⟩ := g.ties
      rw [e] at e2; cases e2
  pts := by
    have e := h.pts
    refine k _ _ ?_ c2 ?_ e
    · rintro rfl
      obtain ⟨_, e2⟩ := g.self
      rw [e] at e2; cases e2
    · rintro rfl
      obtain ⟨_, e2, _⟩ := g.ties
      rw [e] at e2; cases e2
  ties := by
    obtain ⟨kvs, e, c⟩ := h.ties
    refine ⟨kvs, k _ _ ?_ ?_ c3 e, c.mono fun _ _ _ r => g.tie_keep k r⟩
    · rintro rfl
      obtain ⟨_, e2⟩ := g.self
      rw [e] at e2; cases e2
    · rintro rfl
      have e2 := g.pts
      rw [e] at e2; cases e2
end
end WB
namespace WB
open PySem PySem.Spec PyProof.Rows L2 HX
section
variable {n : Int} {t : Ti} {l d l' d' : Addr} {g g' : Int}
theorem lk_number : (tieFs n t).lookup ("number" : Str) = some (.int n) := rfl
theorem lk_tail : (tieFs n t).lookup ("tail" : Str) = some (.str t.t) := rfl
theorem lk_head : (tieFs n t).lookup ("head" : Str) = some (.str t.h) := rfl
theorem lk_load : (tieFs n t).lookup ("load" : Str) = some (.int t.c) := rfl
theorem lk_oneway : (tieFs n t).lookup ("is_oneway" : Str) = some (.bl t.o) := rfl
theorem lk_points : (webFs l d g).lookup ("_points" : Str) = some (.ref l) := rfl
theorem lk_ties : (webFs l d g).lookup ("_ties" : Str) = some (.ref d) := rfl
theorem lk_given : (webFs l d g).lookup ("_given" : Str) = some (.int g) := rfl
theorem pf_points : putF "_points" (.ref l') (webFs l d g) = webFs l' d g := rfl
theorem pf_ties : putF "_ties" (.ref d') (webFs l d g) = webFs l d' g := rfl
theorem pf_given : putF "_given" (.int g') (webFs l d g) = webFs l d g' := rfl
theorem pf_tie {x y : Str} {c : Int} {o : Bool} : putF "is_oneway" (.bl o) (putF "load" (.int c) (putF "head" (.str y) (putF "tail" (.str x) (putF "number" (.int n) [])))) = tieFs n ⟨x, y, c, o⟩ := rfl
theorem pf_web : putF "_given" (.int g) (putF "_ties" (.ref d) (putF "_points" (.ref l) [])) = webFs l d g := rfl
end
end WB

/-! ### changes of a web -/
namespace WB
open PySem PySem.Spec PyProof.Rows L2 HX
section
variable {K : PySem.W.Frag} {H H' : Hp} {p l d d2 dx a : Addr} {w : Wb} {ts : Ts} {kvs : List (Key × V)} {g : Int} {ps : List Str}
theorem WebAt.setPts (h : WebAt K H p l d w) (s : Same H H') : WebAt K (upd H' l (.lst (ps.map V.str))) p l d { w with ps := ps } ∧ Keep H (upd H' l (.lst (ps.map V.str))) p l d := by
  have h2 := h.same s
  obtain ⟨dx, e1⟩ := h2.self
  obtain ⟨kvs, e3, c⟩ := h2.ties
  exact ⟨⟨⟨dx, (upd_ne h2.ne_pl).trans e1⟩, upd_same, ⟨kvs, (upd_ne h2.ne_ld.symm).trans e3, c.mono fun _ _ _ r => r.other (h2.tie_ne r).2.1⟩⟩,
    fun b o _ n _ e => (upd_ne n).trans (s _ _ e)⟩
theorem WebAt.setTies (h : WebAt K H p l d w) (s : Same H H') (c : DP (TieAt K H') kvs ts) : WebAt K (upd H' d (.dK kvs)) p l d { w with ts := ts } ∧ Keep H (upd H' d (.dK kvs)) p l d := by
  have h2 := h.same s
  obtain ⟨dx, e1⟩ := h2.self
  exact ⟨⟨⟨dx, (upd_ne h2.ne_pd).trans e1⟩, (upd_ne h2.ne_ld).trans h2.pts, ⟨kvs, upd_same, c.mono fun _ _ _ r => r.other (h2.tie_ne r).2.2⟩⟩,
    fun b o _ _ n e => (upd_ne n).trans (s _ _ e)⟩
theorem WebAt.swapTies (h : WebAt K H p l d w) (s : Same H H') (e : H' d2 = some (.dK kvs)) (c : DP (TieAt K H') kvs ts) : WebAt K (upd H' p (.ins (He.ga K "Web") dx (webFs l d2 w.g))) p l d2 { w with ts := ts } ∧ Keep H (upd H' p (.ins (He.ga K "Web") dx (webFs l d2 w.g))) p l d := by
  have h2 := h.same s
  obtain ⟨dy, e1⟩ := h2.self
  have n2 : d2 ≠ p := by
    rintro rfl
    rw [e1] at e; cases e
  exact ⟨⟨⟨dx, upd_same⟩, (upd_ne h2.ne_pl.symm).trans h2.pts, ⟨kvs, (upd_ne n2).trans e, c.mono fun _ _ _ r => r.other (h2.tie_ne r).1⟩⟩,
    fun b o n _ _ e => (upd_ne n).trans (s _ _ e)⟩
theorem WebAt.setGiven (h : WebAt K H p l d w) (s : Same H H') : WebAt K (upd H' p (.ins (He.ga K "Web") dx (webFs l d g))) p l d { w with g := g } ∧ Keep H (upd H' p (.ins (He.ga K "Web") dx (webFs l d g))) p l d := by
  have h2 := h.same s
  obtain ⟨kvs, e3, c⟩ := h2.ties
  exact ⟨⟨⟨dx, upd_same⟩, (upd_ne h2.ne_pl.symm).trans h2.pts, ⟨kvs, (upd_ne h2.ne_pd.symm).trans e3, c.mono fun _ _ _ r => r.other (h2.tie_ne r).1⟩⟩,
    fun b o n _ _ e => (upd_ne n).trans (s _ _ e)⟩
/-- behind a lock -/
theorem lock_same {u : HO} {o : Obj} (h : H d = some u) (s : Same (upd H d (.frz o u)) H') : H' d = some (.frz o u) ∧ Same H (upd H' d u) := by
  refine ⟨s _ _ upd_same, fun b v e => ?_⟩
  by_cases n : b = d
  · subst n
    rw [upd_same, ← h, e]
  · rw [upd_ne n]
    exact s _ _ ((upd_ne n).trans e)
theorem TieAt.unlock {u : HO} {o : Obj} {n : Int} {t : Ti} (h : TieAt K H' n t a) (e : H' d = some (.frz o u)) : TieAt K (upd H' d u) n t a := h.other (h.ne e (fun _ _ _ _ => by simp))
theorem TieAt.locked {u : HO} {o : Obj} {n : Int} {t : Ti} (h : TieAt K H n t a) (e : H d = some (.dK kvs)) : TieAt K (upd H d (.frz o u)) n t a := h.other (h.ne e (fun _ _ _ _ => by simp))
theorem inV_str {x : Str} {ys : List Str} : inV (.str x) (ys.map V.str) = decide (x ∈ ys) := by
  unfold inV
  induction ys with
  | nil => simp
  | cons y r ih =>
    rw [List.map_cons, List.any_cons, ih]
    have e : eqV (.str y) (.str x) = decide (x = y) := by
      by_cases c : x = y
      · subst c; simp [eqV]
      · have c2 : ¬ y = x := fun e => c e.symm
        simp [eqV, c, c2]
    rw [e, ← Bool.decide_or]
    exact decide_eq_decide.mpr (by simp)
theorem flat_strs {ys : List Str} : (ys.map V.str).all flatV = true := by
  rw [List.all_map, List.all_eq_true]
  intro _ _; rfl
end
end WB
namespace WB
open PySem PySem.Spec PyProof.Rows L2 HX
section
variable {K : PySem.W.Frag} {H : Hp} {Q : VK} {l : Addr} {ys : List Str} {x : Str}
theorem idx_get {ys : List Str} {x : Str} (h : x ∈ ys) : ys[ys.idxOf x]? = some x := by
  have hl : ys.idxOf x < ys.length := List.idxOf_lt_length_iff.mpr h
  rw [List.getElem?_eq_getElem hl, List.getElem_idxOf hl]
theorem idx_before {x : Str} : ∀ {ys : List Str} {m : Nat}, m < ys.idxOf x → ys[m]? ≠ some x
  | [], m, h => by simp
  | y :: r, m, h => by
    rw [List.idxOf_cons] at h
    by_cases e : y = x
    · subst e; simp at h
    · have eb : (y == x) = false := by simpa using e
      rw [eb] at h
      simp only [cond_false] at h
      cases m with
      | zero => simpa using e
      | succ k => exact idx_before (ys := r) (by omega)
theorem i_remS (h : H l = some (.lst (ys.map V.str))) (m : x ∈ ys) (q : Q .non (upd H l (.lst ((ys.erase x).map V.str)))) : rRemS (.ref l) [.str x] H Q :=
  ⟨l, ys, x, ys.idxOf x, rfl, rfl, h, idx_get m, fun _ hm => idx_before hm, by rw [← List.erase_eq_eraseIdx_of_idxOf rfl]; exact q⟩
theorem i_indexS (h : SqL K H l (ys.map V.str)) (m : x ∈ ys) (q : Q (.int (ys.idxOf x : Nat)) H) : rIndex K (.ref l) [.str x] H Q := by
  refine ⟨l, ys.map V.str, .str x, ys.idxOf x, .str x, rfl, rfl, h, rfl, flat_strs, ?_, by simp [eqV], fun k z hk hz => ?_, q⟩
  · rw [List.getElem?_map, idx_get m]; rfl
  · rw [List.getElem?_map] at hz
    cases e : ys[k]? with
    | none => rw [e] at hz; cases hz
    | some y =>
      rw [e] at hz
      cases hz
      have hne : y ≠ x := fun c => idx_before hk (by rw [e, c])
      simpa [eqV] using hne
theorem i_inS {b : Bool} (h : SqL K H l (ys.map V.str)) (q : Q (.bl (if b = true then !decide (x ∈ ys) else decide (x ∈ ys))) H) : rIn K b (.str x) (.ref l) H Q :=
  i_rIn h rfl flat_strs (by rw [inV_str]; exact q)
theorem i_inT {b : Bool} (h : SqT K H l (ys.map V.str)) (q : Q (.bl (if b = true then !decide (x ∈ ys) else decide (x ∈ ys))) H) : rIn K b (.str x) (.ref l) H Q :=
  i_rInT h rfl flat_strs (by rw [inV_str]; exact q)
theorem nm_len {z : Str} (h : isNm z = true) : z.length ≤ 12 := by
  unfold isNm at h
  simp only [Bool.and_eq_true, decide_eq_true_eq] at h
  exact h.1.2
end
end WB
namespace WB
open PySem PySem.Spec PyProof.Rows L2 HX
theorem tput_map {ts : Ts} {n : Int} {t : Ti} (hs : Rise ts) (h : tget ts n = some t) (f : Ti → Ti) : tput ts n (f t) = ts.map fun x => if x.1 = n then (x.1, f x.2) else x := by
  rw [tput_eq h]
  apply List.map_congr_left
  rintro ⟨m, u⟩ hm
  by_cases e : m = n
  · subst e
    have := tget_of hs hm
    rw [h] at this
    cases this
    rfl
  · simp only [e, if_false]
/-- turning at the numbers of a list, one more -/
theorem part_step {ts : Ts} {ns : List Int} {n : Int} {t : Ti} {x y : Str} (hs : Rise ts) (h : tget ts n = some t) (hn : n ∉ ns) :
    tget (ts.map fun nt => if nt.1 ∈ ns then (nt.1, turn x y nt.2) else nt) n = some t ∧
    tput (ts.map fun nt => if nt.1 ∈ ns then (nt.1, turn x y nt.2) else nt) n (turn x y t) = ts.map fun nt => if nt.1 ∈ ns ++ [n] then (nt.1, turn x y nt.2) else nt := by
  have hr : Rise (ts.map fun nt => if nt.1 ∈ ns then (nt.1, turn x y nt.2) else nt) := rise_keys (by
    rw [List.map_map]
    apply List.map_congr_left
    intro z _
    show (if z.1 ∈ ns then (z.1, turn x y z.2) else z).1 = z.1
    split <;> rfl) hs
  have hm : (n, t) ∈ ts.map fun nt => if nt.1 ∈ ns then (nt.1, turn x y nt.2) else nt := List.mem_map.mpr ⟨(n, t), tget_mem h, by simp [hn]⟩
  have hg := tget_of hr hm
  refine ⟨hg, ?_⟩
  rw [tput_map hr hg, List.map_map]
  apply List.map_congr_left
  rintro ⟨m, u⟩ _
  show (fun x_1 : Int × Ti => if x_1.1 = n then (x_1.1, turn x y x_1.2) else x_1) (if m ∈ ns then (m, turn x y u) else (m, u)) = if m ∈ ns ++ [n] then (m, turn x y u) else (m, u)
  by_cases e : m = n
  · subst e
    simp [hn]
  · by_cases e2 : m ∈ ns <;> simp [e, e2]
/-- a dict that is built up by rising numbers -/
theorem put_new {R : Int → Ti → Addr → Prop} {kvs : List (Key × V)} {ts : Ts} {n : Int} {t : Ti} {a : Addr} (h : DP R kvs ts) (r : R n t a) (hn : ∀ x ∈ ts, x.1 ≠ n) : DP R (putK kvs (Sum.inl n) (.ref a)) (ts ++ [(n, t)]) := by
  have := h.put r
  rwa [tput_new hn] at this
theorem rise_take {ts : Ts} {m : Nat} {n : Int} {t : Ti} (hs : Rise ts) (h : ts[m]? = some (n, t)) : ∀ x ∈ ts.take m, x.1 ≠ n := by
  intro x hx
  obtain ⟨i, hi⟩ := List.mem_iff_getElem?.mp hx
  rw [List.getElem?_take] at hi
  split at hi
  · rename_i hlt
    obtain ⟨h1, h2⟩ := List.getElem?_eq_some_iff.mp hi
    obtain ⟨h3, h4⟩ := List.getElem?_eq_some_iff.mp h
    have := List.pairwise_iff_getElem.mp hs i m h1 h3 hlt
    rw [h2, h4] at this
    simp at this
    omega
  · cases hi
theorem take_map {ts : Ts} {m : Nat} {x : Int × Ti} {f : Int × Ti → Int × Ti} (h : ts[m]? = some x) : (ts.take (m + 1)).map f = (ts.take m).map f ++ [f x] := by
  rw [List.take_add_one, h, List.map_append]
  rfl
theorem ixN_at {n j : Nat} (h : j < n) : ixN n (j : Int) = some j := by
  unfold ixN
  rw [if_pos (by omega), if_pos (by omega)]
  simp
end WB

set_option Elab.async false
set_option linter.all false
set_option maxRecDepth 100000
set_option maxHeartbeats 2000000
/-! K01m: texts and data, plain mathematics. -/
namespace TX
open PySem PySem.Spec PyProof.Rows L2 HX TL
/-! ### good texts -/
abbrev okS (z : Str) : Bool := PyData.strOk z
theorem okS_iff {z : Str} : okS z = true ↔ ∀ c ∈ tl z, c < 0x110000 := by
  unfold okS PyData.strOk
  rw [Array.all_eq_true']
  simp [tl]
theorem okS_app {x y : Str} (hx : okS x = true) (hy : okS y = true) : okS (x ++ y) = true := by
  rw [okS_iff] at *
  intro c hc
  rw [tl_append] at hc
  rcases List.mem_append.mp hc with h | h
  · exact hx c h
  · exact hy c h
theorem okS_one {c : Nat} (h : c < 0x110000) : okS ⟨#[c]⟩ = true := okS_iff.mpr fun d hd => by
  have : d = c := by simpa [tl] using hd
  omega
theorem okS_sign {z : Str} {c : Nat} (h : okS z = true) (hc : c ∈ z.cps.toList) : okS ⟨#[c]⟩ = true := okS_one (okS_iff.mp h c hc)
theorem mem_joinL {S : List Nat} : ∀ {ps : List (List Nat)} {p : List Nat} {c : Nat}, p ∈ ps → c ∈ p → c ∈ joinL S ps
  | [q], p, c, hp, hc => by
    rw [List.mem_singleton.mp hp] at hc
    exact hc
  | q :: q2 :: r, p, c, hp, hc => by
    show c ∈ q ++ (S ++ joinL S (q2 :: r))
    rcases List.mem_cons.mp hp with rfl | h
    · exact List.mem_append.mpr (.inl hc)
    · exact List.mem_append.mpr (.inr (List.mem_append.mpr (.inr (mem_joinL h hc))))
theorem of_joinL {S : List Nat} : ∀ {ps : List (List Nat)} {c : Nat}, c ∈ joinL S ps → c ∈ S ∨ ∃ p ∈ ps, c ∈ p
  | [], c, h => by simp [joinL] at h
  | [q], c, h => .inr ⟨q, by simp, h⟩
  | q :: q2 :: r, c, h => by
    rcases List.mem_append.mp (show c ∈ q ++ (S ++ joinL S (q2 :: r)) from h) with h | h
    · exact .inr ⟨q, by simp, h⟩
    · rcases List.mem_append.mp h with h | h
      · exact .inl h
      · rcases of_joinL h with h | ⟨p, hp, hc⟩
        · exact .inl h
        · exact .inr ⟨p, List.mem_cons_of_mem _ hp, hc⟩
theorem okS_split {x y z : Str} (h : okS x = true) (hz : z ∈ Txt.split x y) : okS z = true := by
  rw [okS_iff] at *
  intro c hc
  refine h c ?_
  rw [← StrLaws.join_split x y, tl_join]
  exact mem_joinL (List.mem_map.mpr ⟨z, hz, rfl⟩) hc
theorem okS_join {y : Str} {ys : List Str} (hy : okS y = true) (h : ∀ z ∈ ys, okS z = true) : okS (Txt.join y ys) = true := by
  rw [join_eq, okS_iff, tl_join]
  intro c hc
  rcases of_joinL hc with hc | ⟨p, hp, hc⟩
  · exact okS_iff.mp hy c hc
  · obtain ⟨z, hz, rfl⟩ := List.mem_map.mp hp
    exact okS_iff.mp (h z hz) c hc
theorem len_app (x y : Str) : (x ++ y).length = x.length + y.length := by
  rw [len_tl, tl_append, List.length_append, ← len_tl, ← len_tl]
theorem joinL_len_nil : ∀ ps : List (List Nat), (joinL [] ps).length = (ps.map List.length).sum
  | [] => rfl
  | [p] => by simp [joinL]
  | p :: q :: r => by
    show (p ++ ([] ++ joinL [] (q :: r))).length = _
    rw [List.length_append, List.nil_append, joinL_len_nil (q :: r)]
    simp
theorem joinL_nil : ∀ ps : List (List Nat), joinL [] ps = ps.flatten
  | [] => rfl
  | [p] => by simp [joinL]
  | p :: q :: r => by
    show p ++ ([] ++ joinL [] (q :: r)) = _
    rw [List.nil_append, joinL_nil (q :: r)]
    simp
theorem tl_empty : tl ("" : Str) = [] := by decide +kernel
theorem join_empty_len (ys : List Str) : (Txt.join "" ys).length = (ys.map (·.length)).sum := by
  rw [join_eq, len_tl, tl_join, tl_empty, joinL_len_nil, List.map_map]
  congr 1
theorem sum_le {ys : List Str} {k : Nat} (h : ∀ y ∈ ys, y.length ≤ k) : (ys.map (·.length)).sum ≤ ys.length * k := by
  induction ys with
  | nil => simp
  | cons y r ih =>
    rw [List.map_cons, List.sum_cons, List.length_cons]
    have h1 := h y (by simp)
    have h2 := ih fun z hz => h z (by simp [hz])
    rw [Nat.succ_mul]
    omega
/-! ### lists of texts as data -/
section
variable {K : PySem.W.Frag} {H : Hp} {Q : VK}
theorem dp_strs : ∀ ys : List Str, DpAll K H (ys.map V.str) (ys.map PyData.str)
  | [] => .nil
  | y :: r => .cons (.str y) (dp_strs r)
theorem depth_strs : ∀ ys : List Str, PyData.depthAll (ys.map PyData.str) = 0
  | [] => by simp [PyData.depthAll]
  | y :: r => by simp [PyData.depthAll, PyData.depth, depth_strs r]
theorem lay_strs : ∀ {ys : List Str}, (∀ y ∈ ys, okS y = true) → PyData.canLayAll0 (ys.map PyData.str) = true
  | [], _ => by simp [PyData.canLayAll0]
  | y :: r, h => by
    have h1 := h y (by simp)
    have h2 := lay_strs (ys := r) fun z hz => h z (by simp [hz])
    simp only [List.map_cons, PyData.canLayAll0, PyData.canLay0, h2, Bool.and_true]
    exact h1
theorem shaped_strs {ys : List Str} (h : ∀ y ∈ ys, okS y = true) : SeqAt.shaped (.list (ys.map PyData.str)) = true := by
  unfold SeqAt.shaped
  rw [PyData.canLay0, lay_strs h, PyData.depth, depth_strs]
  rfl
theorem eqvAll_nil : ∀ ys : List Str, PyData.eqv (.list (ys.map PyData.str)) (.list []) = ys.isEmpty
  | [] => by simp [PyData.eqv, PyData.eqvAll]
  | y :: r => by simp [PyData.eqv, PyData.eqvAll]
theorem eqv_same {ys : List Str} (h : ∀ y ∈ ys, okS y = true) : PyData.eqv (.list (ys.map PyData.str)) (.list (ys.map PyData.str)) = true :=
  SeqAt.eqv_refl _ (by rw [PyData.canLay0]; exact lay_strs h)
theorem i_eqNil {D p : Addr} {ys : List Str} (h : SqL K H D (ys.map V.str)) (h2 : SqL K H p []) (o : ∀ y ∈ ys, okS y = true) (q : Q (.bl ys.isEmpty) H) : rEqD K (.ref D) (.ref p) H Q :=
  ⟨_, _, .lst h (dp_strs ys), .lst h2 .nil, shaped_strs o, by decide +kernel, by rw [eqvAll_nil]; exact q⟩
theorem i_neNil {D p : Addr} {ys : List Str} (h : SqL K H D (ys.map V.str)) (h2 : SqL K H p []) (o : ∀ y ∈ ys, okS y = true) (q : Q (.bl (!ys.isEmpty)) H) : rNeD K (.ref D) (.ref p) H Q :=
  ⟨_, _, .lst h (dp_strs ys), .lst h2 .nil, shaped_strs o, by decide +kernel, by rw [eqvAll_nil]; exact q⟩
theorem i_neSame {D p : Addr} {ys : List Str} (h : SqL K H D (ys.map V.str)) (h2 : SqL K H p (ys.map V.str)) (o : ∀ y ∈ ys, okS y = true) (q : Q (.bl false) H) : rNeD K (.ref D) (.ref p) H Q :=
  ⟨_, _, .lst h (dp_strs ys), .lst h2 (dp_strs ys), shaped_strs o, shaped_strs o, by rw [eqv_same o]; exact q⟩
end
/-! ### the figures of a number, the last one first -/
def FigInv (n : Nat) (left : Nat) (fs : List Nat) : Prop :=
  (fs = [] ∧ left = n) ∨ (fs ≠ [] ∧ (0 < left → numL left ++ fs.reverse = numL n) ∧ (left = 0 → fs.reverse = numL n))
theorem FigInv.step {n left : Nat} {fs : List Nat} (h : FigInv n left fs) (c : 0 < left ∨ fs = []) : FigInv n (left / 10) (fs ++ [48 + left % 10]) := by
  refine .inr ⟨by simp, fun hp => ?_, fun hz => ?_⟩
  · have h10 : 10 ≤ left := by omega
    rw [List.reverse_append]
    rcases h with ⟨rfl, rfl⟩ | ⟨_, h1, _⟩
    · rw [numL_step h10]; simp
    · rw [← h1 (by omega), numL_step h10]; simp
  · have h10 : left < 10 := by omega
    rw [List.reverse_append]
    rcases h with ⟨rfl, rfl⟩ | ⟨hne, h1, _⟩
    · rw [numL_lt h10, Nat.mod_eq_of_lt h10]; simp
    · rw [← h1 (by rcases c with c | c; exact c; exact absurd c hne), numL_lt h10, Nat.mod_eq_of_lt h10]; simp
theorem FigInv.done {n : Nat} {fs : List Nat} (h : FigInv n 0 fs) (hne : fs ≠ []) : fs.reverse = numL n := by
  rcases h with ⟨e, _⟩ | ⟨_, _, h2⟩
  · exact absurd e hne
  · exact h2 rfl
def sgn (c : Nat) : Str := ⟨#[c]⟩
theorem flat_signs : ∀ fs : List Nat, ((fs.map sgn).map tl).flatten = fs
  | [] => rfl
  | c :: r => by
    rw [List.map_cons, List.map_cons, List.flatten_cons, flat_signs r]
    rfl
theorem join_signs (fs : List Nat) : tl (Txt.join "" ((fs.map sgn).reverse)) = fs.reverse := by
  rw [join_eq, tl_join, tl_empty, joinL_nil, ← List.map_reverse, flat_signs]
theorem numL_head {n : Nat} (h : (numL n).headD 0 = 48) : n = 0 := by
  induction n using Nat.strongRecOn with
  | _ n ih =>
    by_cases h10 : n < 10
    · rw [numL_lt h10] at h
      simp at h
      omega
    · rw [numL_step (by omega)] at h
      have e := ih (n / 10) (by omega) (by
        cases q : numL (n / 10) with
        | nil => exact absurd q (numL_ne _)
        | cons c r => rw [q] at h; exact h)
      omega
end TX

set_option Elab.async false
set_option linter.all false
set_option maxRecDepth 100000
set_option maxHeartbeats 2000000
/-! KL: lines that write a web, as plain data. -/
namespace WB
open PySem PySem.Spec PyProof.Rows L2 HX TX TL
/-! ### numbers as texts -/
/-- all signs of z are signs of s -/
def only (z s : Str) : Bool := z.cps.toList.all fun c => decide (c ∈ s.cps.toList)
abbrev digs : Str := "0123456789"
def fst1 (z : Str) : Str := ⟨#[z.cps.toList.headD 0]⟩
def numOk (z : Str) : Bool := decide (1 ≤ (z.length : Int)) && decide ((z.length : Int) ≤ 61) && only z digs && !(decide (fst1 z = "0") && !decide (z = "0"))
def numV (z : Str) : V := if numOk z = true then .int ((NumText.digitsVal z.cps.toList : Nat) : Int) else .non
theorem digs_list : digs.cps.toList = [48, 49, 50, 51, 52, 53, 54, 55, 56, 57] := by decide +kernel
theorem dig_mem {c : Nat} : c ∈ digs.cps.toList ↔ 48 ≤ c ∧ c ≤ 57 := by
  rw [digs_list]
  simp only [List.mem_cons, List.not_mem_nil, or_false]
  omega
theorem only_digs {z : Str} (h : only z digs = true) : NumText.AllDigits z.cps.toList := by
  intro c hc
  unfold only at h
  rw [List.all_eq_true] at h
  exact dig_mem.mp (of_decide_eq_true (h c hc))
theorem len_list (z : Str) : z.cps.toList.length = z.length := by simp [Str.length]
theorem first_at {z : Str} (h : 1 ≤ (z.length : Int)) : atI z.cps.toList 0 = some (z.cps.toList.headD 0) := by
  have e := len_list z
  cases q : z.cps.toList with
  | nil => rw [q] at e; simp at e; omega
  | cons c r => exact atI_nat (j := 0) rfl
/-- a number, written -/
def nS (n : Int) : Str := Str.ofString (toString n)
theorem tl_nS (m : Nat) : tl (nS (m : Int)) = numL m := tl_num m
theorem nS_len {n : Int} (h0 : 0 ≤ n) (h : n < 10 ^ 61) : (nS n).length ≤ 61 := by
  obtain ⟨m, rfl⟩ := Int.eq_ofNat_of_zero_le h0
  rw [len_tl, tl_nS]
  exact numL_len (by decide) (by omega)
theorem nS_pos {n : Int} (h0 : 0 ≤ n) : 1 ≤ (nS n).length := by
  obtain ⟨m, rfl⟩ := Int.eq_ofNat_of_zero_le h0
  rw [len_tl, tl_nS]
  have := numL_ne m
  cases q : numL m with
  | nil => exact absurd q this
  | cons c r => simp
theorem nS_digits {n : Int} (h0 : 0 ≤ n) : ∀ c ∈ tl (nS n), 48 ≤ c ∧ c ≤ 57 := by
  obtain ⟨m, rfl⟩ := Int.eq_ofNat_of_zero_le h0
  intro c hc
  rw [tl_nS] at hc
  have := numL_digits m c hc
  omega
theorem nS_log {n : Int} (h0 : 0 ≤ n) (h : n < 10 ^ 61) : n.natAbs.log2 < 1920 := by
  obtain ⟨m, rfl⟩ := Int.eq_ofNat_of_zero_le h0
  have h : m < 10 ^ 61 := by omega
  rw [Int.natAbs_natCast]
  by_cases e : m = 0
  · subst e; decide
  · exact (Nat.log2_lt e).mpr (Nat.lt_of_lt_of_le h (by decide))
theorem zero_tl : tl ("0" : Str) = [48] := by decide +kernel
theorem num_back {n : Int} (h0 : 0 ≤ n) (h : n < 10 ^ 61) : numV (nS n) = .int n := by
  have h1 := nS_len h0 h
  have h2 := nS_pos h0
  obtain ⟨m, rfl⟩ := Int.eq_ofNat_of_zero_le h0
  have ok : numOk (nS (m : Int)) = true := by
    have h3 : only (nS (m : Int)) digs = true := by
      unfold only
      rw [List.all_eq_true]
      intro c hc
      exact decide_eq_true (dig_mem.mpr (nS_digits h0 c hc))
    have h4 : fst1 (nS (m : Int)) = "0" → nS (m : Int) = "0" := by
      intro e
      have e1 : (numL m).headD 0 = 48 := by
        have q := congrArg tl e
        rw [zero_tl] at q
        have q2 : [(tl (nS (m : Int))).headD 0] = [48] := q
        rw [tl_nS] at q2
        exact List.cons.inj q2 |>.1
      have e2 := numL_head e1
      subst e2
      exact ext_tl (by rw [tl_nS, zero_tl]; decide +kernel)
    unfold numOk
    rw [decide_eq_true (show (1 : Int) ≤ ((nS (m : Int)).length : Int) by omega), decide_eq_true (show ((nS (m : Int)).length : Int) ≤ 61 by omega), h3]
    by_cases e : fst1 (nS (m : Int)) = "0"
    · rw [decide_eq_true e, decide_eq_true (h4 e)]; rfl
    · rw [decide_eq_false e]; rfl
  show (if numOk (nS (m : Int)) = true then V.int ((NumText.digitsVal (tl (nS (m : Int))) : Nat) : Int) else V.non) = _
  rw [if_pos ok, tl_nS, numL_val]
theorem most_lt : most < 10 ^ 61 := by decide +kernel
/-! ### lines -/
inductive Ln where
  | pt (x : Str)
  | tie (n : Int) (u : Ti)
  | gv (g : Int)
def kindS (o : Bool) : Str := if o = true then "way" else "tie"
def Ln.words : Ln → List Str
  | .pt x => ["point", x]
  | .tie n u => [kindS u.o, nS n, u.t, u.h, nS u.c]
  | .gv g => ["given", nS g]
def Ln.text (l : Ln) : Str := Txt.join " " l.words
/-- a word: some signs, no blank among them, good ones, not too many -/
def isWd (z : Str) : Prop := tl z ≠ [] ∧ (∀ c ∈ tl z, c ≠ 32 ∧ c < 0x110000) ∧ z.length ≤ 61
theorem nm_wd {z : Str} (h : isNm z = true) : isWd z := by
  unfold isNm at h
  simp only [Bool.and_eq_true, decide_eq_true_eq, List.all_eq_true] at h
  refine ⟨fun e => ?_, fun c hc => ?_, by omega⟩
  · have := h.1.1
    rw [len_tl, e] at this
    simp at this
  · have := h.2 c hc
    omega
theorem nS_wd {n : Int} (h0 : 0 ≤ n) (h : n < 10 ^ 61) : isWd (nS n) := by
  refine ⟨fun e => ?_, fun c hc => ?_, nS_len h0 h⟩
  · have := nS_pos h0
    rw [len_tl, e] at this
    simp at this
  · have := nS_digits h0 c hc
    omega
theorem kind_wd (o : Bool) : isWd (kindS o) := by
  cases o
  · exact ⟨by decide +kernel, by decide +kernel, by decide +kernel⟩
  · exact ⟨by decide +kernel, by decide +kernel, by decide +kernel⟩
theorem point_wd : isWd "point" := ⟨by decide +kernel, by decide +kernel, by decide +kernel⟩
theorem given_wd : isWd "given" := ⟨by decide +kernel, by decide +kernel, by decide +kernel⟩
def Ln.fine (l : Ln) : Prop := ∀ z ∈ l.words, isWd z
theorem tl_blank : tl (" " : Str) = [32] := by decide +kernel
theorem Ln.words_ne (l : Ln) : l.words ≠ [] := by cases l <;> simp [Ln.words]
theorem Ln.words_len (l : Ln) : l.words.length ≤ 5 := by cases l <;> simp [Ln.words]
theorem Ln.parts {l : Ln} (h : l.fine) : Txt.split l.text " " = l.words :=
  split_join (S := []) tl_blank (by decide +kernel) l.words_ne fun p hp e => (h p hp).2.1 32 e |>.1 rfl
theorem join_len (y : Str) : ∀ ys : List Str, (Txt.join y ys).length ≤ (ys.map (·.length)).sum + ys.length * y.length
  | ys => by
    rw [join_eq, len_tl, tl_join]
    have : ∀ ys : List Str, (joinL (tl y) (ys.map tl)).length ≤ (ys.map (·.length)).sum + ys.length * y.length := by
      intro ys
      induction ys with
      | nil => simp [joinL]
      | cons a r ih =>
        cases r with
        | nil =>
          show (tl a).length ≤ _
          simp [len_tl]
        | cons b r =>
          show (tl a ++ (tl y ++ joinL (tl y) ((b :: r).map tl))).length ≤ _
          rw [List.length_append, List.length_append, ← len_tl, ← len_tl]
          simp only [List.map_cons, List.sum_cons, List.length_cons, Nat.add_mul, Nat.one_mul] at ih ⊢
          omega
    exact this ys
theorem Ln.text_len {l : Ln} (h : l.fine) : l.text.length ≤ 400 := by
  refine Nat.le_trans (join_len " " l.words) ?_
  have h1 := sum_le (ys := l.words) (k := 61) (fun y hy => (h y hy).2.2)
  have h2 := l.words_len
  have h3 : (" " : Str).length = 1 := by decide +kernel
  rw [h3]
  omega
theorem wd_ne {z : Str} (h : isWd z) : z ≠ "" := fun e => h.1 (by rw [e]; decide +kernel)
theorem Ln.no_empty {l : Ln} (h : l.fine) : decide (("" : Str) ∈ l.words) = false := decide_eq_false fun m => wd_ne (h _ m) rfl
theorem Ln.text_ok {l : Ln} (h : l.fine) : okS l.text = true := okS_join (by decide +kernel) fun z hz => okS_iff.mpr fun c hc => ((h z hz).2.1 c hc).2
/-! ### the lines of a web -/
def linesOf (w : Wb) : List Ln := w.ps.map .pt ++ (w.ts.map (fun nt => .tie nt.1 nt.2) ++ [.gv w.g])
def textsOf (w : Wb) : List Str := (linesOf w).map Ln.text
def wb0 : Wb := ⟨[], [], 0⟩
theorem wok0 : Wok wb0 := ⟨by simp [wb0], by simp [wb0], by simp [wb0], by simp [wb0], by simp [wb0], by simp [wb0], by simp [wb0]⟩
/-- lines read, one behind the other -/
inductive Reads : Wb → List Ln → Wb → Prop where
  | pt {w w' : Wb} {x : Str} {r : List Ln} (g : w.g = 0) (hx : x ∉ w.ps) (hn : isNm x = true) (hl : w.ps.length < 16) (h : Reads (w.put x) r w') : Reads w (.pt x :: r) w'
  | tie {w w' : Wb} {n : Int} {u : Ti} {r : List Ln} (c : w.g < n) (m : n ≤ most) (h1 : u.t ∈ w.ps) (h2 : u.h ∈ w.ps) (h3 : u.t ≠ u.h) (c0 : 0 ≤ u.c) (c1 : u.c ≤ most) (hl : w.ts.length < 48)
      (h : Reads ⟨w.ps, w.ts ++ [(n, u)], n⟩ r w') : Reads w (.tie n u :: r) w'
  | gv {w : Wb} {g : Int} (c : w.g ≤ g) (m : g ≤ most) : Reads w [.gv g] { w with g := g }
def Ln.ok (w : Wb) : Ln → Prop
  | .pt x => w.g = 0 ∧ x ∉ w.ps ∧ isNm x = true ∧ w.ps.length < 16
  | .tie n u => w.g < n ∧ n ≤ most ∧ u.t ∈ w.ps ∧ u.h ∈ w.ps ∧ u.t ≠ u.h ∧ 0 ≤ u.c ∧ u.c ≤ most ∧ w.ts.length < 48
  | .gv g => w.g ≤ g ∧ g ≤ most
def Ln.does (w : Wb) : Ln → Wb
  | .pt x => w.put x
  | .tie n u => ⟨w.ps, w.ts ++ [(n, u)], n⟩
  | .gv g => { w with g := g }
def Ln.isGv : Ln → Bool
  | .gv _ => true
  | _ => false
theorem Reads.next {w w' : Wb} {l : Ln} {r : List Ln} (h : Reads w (l :: r) w') : l.ok w ∧ ((l.isGv = true ∧ r = [] ∧ w' = l.does w) ∨ (l.isGv = false ∧ Reads (l.does w) r w')) := by
  cases h with
  | pt g hx hn hl h => exact ⟨⟨g, hx, hn, hl⟩, .inr ⟨rfl, h⟩⟩
  | tie c m h1 h2 h3 c0 c1 hl h => exact ⟨⟨c, m, h1, h2, h3, c0, c1, hl⟩, .inr ⟨rfl, h⟩⟩
  | gv c m => exact ⟨⟨c, m⟩, .inl ⟨rfl, rfl, rfl⟩⟩
theorem Reads.ne {w w' : Wb} (h : Reads w [] w') : False := by cases h
theorem Ln.does_ok {w : Wb} (h : Wok w) {l : Ln} (o : l.ok w) : Wok (l.does w) := by
  cases l with
  | pt x => exact h.put o.2.1 o.2.2.1 o.2.2.2
  | tie n u =>
    obtain ⟨c, m, h1, h2, h3, c0, c1, hl⟩ := o
    have h0 : Wok { w with g := n - 1 } := ⟨h.nd, h.nm, h.le, h.tl, h.rise, fun m t ht => have o := h.ok m t ht; { o with hi := by have := o.hi; show m ≤ n - 1; omega }, by have := h.g0; show 0 ≤ n - 1; omega⟩
    have := h0.tie (t := u) h1 h2 h3 c0 c1 hl
    have e : ({ w with g := n - 1 } : Wb).tie u = ⟨w.ps, w.ts ++ [(n, u)], n⟩ := by
      show (⟨w.ps, w.ts ++ [(n - 1 + 1, u)], n - 1 + 1⟩ : Wb) = _
      rw [Int.sub_add_cancel]
    rw [e] at this
    exact this
  | gv g =>
    have hg := o.1
    exact ⟨h.nd, h.nm, h.le, h.tl, h.rise, fun m t ht => have o := h.ok m t ht; { o with hi := Int.le_trans o.hi hg }, Int.le_trans h.g0 o.1⟩
theorem reads_ties {ps : List Str} {g : Int} (hg : g ≤ most) : ∀ (ts2 ts1 : Ts) (g1 : Int), g1 ≤ g → (∀ x ∈ ts2, g1 < x.1) → Rise ts2 → ts1.length + ts2.length ≤ 48 →
    (∀ n u, (n, u) ∈ ts2 → TieOk ps g n u) → Reads ⟨ps, ts1, g1⟩ (ts2.map (fun nt => .tie nt.1 nt.2) ++ [.gv g]) ⟨ps, ts1 ++ ts2, g⟩
  | [], ts1, g1, h, _, _, _, _ => by
    rw [List.append_nil]
    exact Reads.gv (w := ⟨ps, ts1, g1⟩) h hg
  | (n, u) :: r, ts1, g1, h, hlt, hr, hl, ok => by
    have o := ok n u (List.mem_cons_self ..)
    obtain ⟨r1, r2⟩ := List.pairwise_cons.mp hr
    have hl' : ts1.length + (r.length + 1) ≤ 48 := hl
    refine Reads.tie (hlt _ (List.mem_cons_self ..)) (Int.le_trans o.hi hg) o.t o.h o.ne o.c0 o.c1 (by show ts1.length < 48; omega) ?_
    have := reads_ties hg r (ts1 ++ [(n, u)]) n o.hi (fun x hx => r1 x hx) r2 (by rw [List.length_append, List.length_singleton]; omega) (fun m v hm => ok m v (List.mem_cons_of_mem _ hm))
    rw [List.append_assoc] at this
    exact this
theorem reads_pts {r : List Ln} {w' : Wb} : ∀ (ps2 ps1 : List Str), (ps1 ++ ps2).Nodup → (∀ x ∈ ps2, isNm x = true) → (ps1 ++ ps2).length ≤ 16 → Reads ⟨ps1 ++ ps2, [], 0⟩ r w' → Reads ⟨ps1, [], 0⟩ (ps2.map .pt ++ r) w'
  | [], ps1, _, _, _, h => by
    rw [List.append_nil] at h
    exact h
  | x :: t, ps1, hn, hm, hl, h => by
    have e : ps1 ++ x :: t = (ps1 ++ [x]) ++ t := by simp
    refine Reads.pt rfl (fun hx => ?_) (hm x (List.mem_cons_self ..)) ?_ ?_
    · exact (List.nodup_append.mp hn).2.2 x hx x (List.mem_cons_self ..) rfl
    · rw [List.length_append, List.length_cons] at hl
      show ps1.length < 16
      omega
    · rw [e] at hn hl h
      exact reads_pts t (ps1 ++ [x]) hn (fun y hy => hm y (List.mem_cons_of_mem _ hy)) hl h
theorem reads_web {w : Wb} (h : Wok w) (hg : w.g ≤ most) : Reads wb0 (linesOf w) w := by
  refine reads_pts w.ps [] h.nd h.nm h.le ?_
  have := reads_ties hg w.ts [] 0 h.g0 (fun x hx => by have := (h.ok x.1 x.2 hx).lo; omega) h.rise (by simpa using h.tl) h.ok
  exact this
theorem lines_fine {w : Wb} (h : Wok w) (hg : w.g ≤ most) : ∀ l ∈ linesOf w, l.fine := by
  have hm := most_lt
  have hg0 := h.g0
  intro l hl z hz
  rcases List.mem_append.mp hl with hl | hl
  · obtain ⟨x, hx, rfl⟩ := List.mem_map.mp hl
    simp [Ln.words] at hz
    rcases hz with rfl | rfl
    · exact point_wd
    · exact nm_wd (h.nm _ hx)
  · rcases List.mem_append.mp hl with hl | hl
    · obtain ⟨⟨n, u⟩, hx, rfl⟩ := List.mem_map.mp hl
      have o := h.ok n u hx
      have o1 := o.lo
      have o2 := o.hi
      have o3 := o.c0
      have o4 := o.c1
      simp [Ln.words] at hz
      rcases hz with rfl | rfl | rfl | rfl | rfl
      · exact kind_wd _
      · exact nS_wd (by omega) (by omega)
      · exact nm_wd (h.nm _ o.t)
      · exact nm_wd (h.nm _ o.h)
      · exact nS_wd o3 (by omega)
    · simp at hl
      subst hl
      simp [Ln.words] at hz
      rcases hz with rfl | rfl
      · exact given_wd
      · exact nS_wd (by omega) (by omega)
theorem lines_len {w : Wb} (h : Wok w) : (linesOf w).length ≤ 65 := by
  unfold linesOf
  simp only [List.length_append, List.length_map, List.length_singleton]
  have := h.le
  have := h.tl
  omega
end WB

set_option Elab.async false
set_option linter.all false
set_option maxRecDepth 100000
set_option maxHeartbeats 2000000
namespace K04
open PySem PySem.Spec PyProof.Rows L2 HX WB
/-- the builtin type of a plain value -/
def tyB : V → String
  | .non => "NoneType"
  | .bl _ => "bool"
  | .int _ => "int"
  | .str _ => "str"
  | _ => ""
def isB (x : V) (T : String) : Option Bool := if tyB x = "" then none else kitB (tyB x) T
theorem i_isT {K : PySem.W.Frag} {H : Hp} {x : V} {T : String} {b : Bool} {Q : VK} (e : isB x T = some b) (q : Q (.bl b) H) : rIsi K [x, .ty T] H Q := by
  cases x with
  | non => exact ⟨_, _, _, _, _, rfl, .ty _, .base .non, kit_ty e, q⟩
  | bl c => exact ⟨_, _, _, _, _, rfl, .ty _, .base (.bl _), kit_ty e, q⟩
  | int i => exact ⟨_, _, _, _, _, rfl, .ty _, .base (.int _), kit_ty e, q⟩
  | str z => exact ⟨_, _, _, _, _, rfl, .ty _, .base (.str _), kit_ty e, q⟩
  | _ => cases e
local macro_rules | `(tactic| walk_at "side") => `(tactic| first
  | assumption
  | rfl
  | (show (0 : Int) < _; omega)
  | (unfold CDiv; omega)
  | (unfold CMul; omega)
  | (unfold CPow; omega)
  | (rw [sizeLine_eq]; omega)
  | omega)
local macro_rules | `(tactic| walk_at "e") => `(tactic| first
  | ((with_reducible apply i_var); exact rfl)
  | (with_reducible apply i_c)
  | (with_reducible apply i_op)
  | (with_reducible apply i_un)
  | (with_reducible apply i_rI0)
  | ((with_reducible apply i_rI); (case c => walk_at "side"))
  | (with_reducible apply i_rGe)
  | (with_reducible apply i_rGt)
  | (with_reducible apply i_rU)
  | (with_reducible apply i_rEqI)
  | (with_reducible apply i_rNeI)
  | (with_reducible apply i_rEqS)
  | (with_reducible apply i_rNeS)
  | (with_reducible apply i_rEqB)
  | (with_reducible apply i_rNeB)
  | (with_reducible apply i_rIsN)
  | (with_reducible apply i_rNotN)
  | (with_reducible apply i_rInS)
  | (with_reducible apply i_rNotInS)
  | ((with_reducible apply i_catS); (case c => walk_at "side"))
  | (with_reducible apply i_tcb)
  | (with_reducible apply i_nil)
  | (with_reducible apply i_cons)
  | ((with_reducible apply i_lenS); (case c => walk_at "side"))
  | ((with_reducible apply i_lenL); assumption)
  | (with_reducible apply i_abs)
  | (with_reducible apply i_max2)
  | (with_reducible apply i_min2)
  | ((with_reducible apply i_strI); (case c => walk_at "side"))
  | (with_reducible apply i_intB)
  | (with_reducible apply i_test)
  | (with_reducible apply i_tB)
  | (with_reducible apply i_kB)
  | (with_reducible apply i_and)
  | (with_reducible apply i_or)
  | (with_reducible apply i_not)
  | (with_reducible apply i_if)
  | (with_reducible apply i_andV)
  | (with_reducible apply i_orV)
  | (with_reducible apply i_notV)
  | (with_reducible apply i_kAndV)
  | (with_reducible apply i_kOrV)
  | (with_reducible apply i_kNotV)
  | (with_reducible apply i_chain)
  | (with_reducible apply i_kChain)
  | (with_reducible apply i_drop)
  | (with_reducible apply i_ret)
  | (with_reducible apply i_retN)
  | (with_reducible apply i_ifS)
  | (with_reducible apply i_asg)
  | (with_reducible apply i_gName)
  | (with_reducible apply i_for)
  | (with_reducible apply i_lc)
  | (with_reducible apply i_iList)
  | (with_reducible apply i_iTup)
  | (with_reducible apply i_iStr)
  | (with_reducible apply i_kStrI)
  | (with_reducible apply i_lst)
  | (with_reducible apply i_tup)
  | (with_reducible apply i_call)
  | (with_reducible apply i_m1)
  | (with_reducible apply i_kStr)
  | (with_reducible apply i_bm)
  | (with_reducible apply i_bm0)
  | (with_reducible apply i_part)
  | (with_reducible apply i_kInt)
  | (with_reducible apply i_noPart)
  | (with_reducible apply i_sl)
  | (with_reducible apply i_range1)
  | (with_reducible apply i_range2)
  | ((with_reducible apply i_kRng1); (case c => walk_at "side"))
  | ((with_reducible apply i_kRng2); (case c => walk_at "side"))
  | (with_reducible apply i_gCons)
  | (with_reducible apply i_gNil)
  | (with_reducible apply i_gSub)
  | (with_reducible apply i_iZip)
  | (with_reducible apply i_yes)
  | (with_reducible apply i_ift)
  | (with_reducible apply i_iff)
  | (with_reducible apply i_nb))
local macro_rules | `(tactic| walk_at "go") => `(tactic| repeat (first | (with_reducible apply i_seq) | (with_reducible apply i_next) | walk_at "e"))
local macro_rules | `(tactic| walk_at "ge") => `(tactic| repeat walk_at "e")
local macro_rules | `(tactic| walk_at "sz") => `(tactic| first | decide | (rw [sizeLine_eq]; simp; done) | (rw [sizeLine_eq]; omega))
local macro_rules | `(tactic| walk_at "side") => `(tactic| (with_reducible exact WB.most_pos))
local macro_rules | `(tactic| walk_at "e") => `(tactic| first
  | ((with_reducible apply i_isT (b := true)); exact rfl)
  | ((with_reducible apply i_isT (b := false)); exact rfl)
  | (with_reducible apply i_fld)
  | ((with_reducible apply i_kFld); (case h => assumption); (case c1 => assumption); (case c2 => assumption); (case e => first | exact lk_number | exact lk_tail | exact lk_head | exact lk_load | exact lk_oneway | exact lk_points | exact lk_ties | exact lk_given))
  | (with_reducible apply i_sfld)
  | ((with_reducible apply i_kSFld); (case h => first | assumption | exact upd_same); (case c1 => assumption); (case c2 => assumption); (case e => exact Nat.le_of_ble_eq_true rfl))
  | (with_reducible apply i_methC)
  | (with_reducible apply i_make)
  | (with_reducible apply i_fldaug)
  | (with_reducible apply i_vals)
  | (with_reducible apply i_items)
  | (with_reducible apply i_dget)
  | (with_reducible apply i_dput)
  | (with_reducible apply i_din)
  | (with_reducible apply i_dnotin)
  | (with_reducible apply i_ddel)
  | (with_reducible apply i_dc)
  | (with_reducible apply i_enum)
  | (with_reducible apply i_ckw))
section
variable {P : Program} {w : World} {K : PySem.W.Frag} {mg : Str → Option Value} {base : Heap}
def sp_has_only : Sp := fun vs H Q _ => ∃ z s, vs = [.str z, .str s] ∧ Q (.bl (only z s)) H
theorem ok_has_only (T : Tx K mg) : FnOk P w K mg base CX0 1 (He.ga K "_has_only") T.fd_has_only ["text", "signs"] sp_has_only := by
  refine T.F_has_only.ok sc_has_only (fun vs H Q E h => ?_) (fun cdv A outer s H vs Q E hr h => ?_)
  · obtain ⟨z, t, rfl, _⟩ := h
    rfl
  · obtain ⟨z, t, rfl, q⟩ := h
    refine ⟨_, PSs.nox (pss_cons (ps_for PassesOwn.never rfl (pi_str (pv 0)) (pg_name (i := 2) sc_has_only.nd rfl (Or.inl rfl))
      (pss_one (ps_if (pt_cmpR op_notInS (pv 2) (pv 1) rfl) (pss_one (ps_ret pe_bl)) pss_nil)))
      (pss_one (ps_ret pe_bl))), ?_⟩
    walk_at "go"
    refine for_it walk_str (fun i σ H' => H' = H ∧ (∀ c ∈ z.cps.toList.take i, c ∈ t.cps.toList) ∧ ∃ v, σ = [some (.str z), some (.str t), v]) ⟨rfl, by simp, none, rfl⟩ (fun _ _ _ _ _ => trivial) ?_ ?_
    · rintro i x σ H1 H2 hi ⟨rfl, ho, v, rfl⟩ ⟨rfl, c, hc, rfl⟩
      have hc' : z.cps.toList[i]? = some c := by simpa using hc
      walk_at "go"
      apply i_dec
      · intro hm
        walk_at "go"
        refine ⟨rfl, ?_, _, rfl⟩
        intro d hd
        rw [List.take_add_one, hc'] at hd
        rcases List.mem_append.mp hd with hd | hd
        · exact ho d hd
        · have : d = c := by simpa using hd
          rw [this]; exact hm
      · intro hn
        walk_at "go"
        have e : only z t = false := by
          unfold only
          rw [List.all_eq_false]
          exact ⟨c, List.mem_of_getElem? hc', by simpa using hn⟩
        rw [← e]
        exact q
    · rintro σ H1 ⟨rfl, ho, v, rfl⟩
      walk_at "go"
      have e : only z t = true := by
        unfold only
        rw [List.all_eq_true]
        intro c hc
        refine decide_eq_true (ho c ?_)
        rw [List.take_of_length_le (by simp)]
        exact hc
      rw [← e]
      exact q
/-- of whole numbers -/
def sp_is_whole : Sp := fun vs H Q _ => ∃ i : Int, vs = [.int i] ∧ Q (.bl true) H
theorem ok_is_whole (T : Tx K mg) : FnOk P w K mg base CX0 1 (He.ga K "is_whole") T.fd_is_whole ["thing"] sp_is_whole := by
  refine T.F_is_whole.ok sc_is_whole (fun vs H Q E h => ?_) (fun cdv A outer s H vs Q E hr h => ?_)
  · obtain ⟨x, rfl, _⟩ := h
    rfl
  · obtain ⟨x, rfl, q⟩ := h
    refine ⟨_, PSs.nox (pss_one (ps_ret (pe_and (pe_callB call_isi (by rfl) T.b_isinstance (by decide +kernel) (pa_cons (pv 0) (pa_cons (pe_bltn (v := .ty "int") rfl T.b_int (by decide +kernel) rfl) pa_nil))) (pe_one (pe_not (pe_callB call_isi (by rfl) T.b_isinstance (by decide +kernel) (pa_cons (pv 0) (pa_cons (pe_bltn (v := .ty "bool") rfl T.b_bool (by decide +kernel) rfl) pa_nil)))))))), ?_⟩
    walk_at "go"
    exact q
def sp_is_among : Sp := fun vs H Q _ => ∃ i a b : Int, vs = [.int i, .int a, .int b] ∧ Q (.bl (decide (a ≤ i) && decide (i ≤ b))) H
theorem ok_is_among (T : Tx K mg) : FnOk P w K mg base CX0 2 (He.ga K "is_among") T.fd_is_among ["thing", "least", "most"] sp_is_among := by
  refine T.F_is_among.ok sc_is_among (fun vs H Q E h => ?_) (fun cdv A outer s H vs Q E hr h => ?_)
  · obtain ⟨x, a, b, rfl, _⟩ := h
    rfl
  · obtain ⟨i, a, b, rfl, q⟩ := h
    refine ⟨_, PSs.nox (pss_one (ps_ret (pe_and (pe_call (ok_is_whole T) (hr.mono (by decide)) (by rfl) T.g_is_whole T.F_is_whole.kp T.k_is_whole .nil pass0 (pa_cons (pv 0) pa_nil)) (pe_one (pe_chain op_le op_le (pv 1) (pv 0) (pv 2)))))), ?_⟩
    walk_at "go"
    refine ⟨i, rfl, ?_⟩
    walk_at "go"
    apply i_dec
    · intro h1
      walk_at "go"
      rw [decide_eq_true h1, Bool.true_and] at q
      exact q
    · intro h1
      walk_at "go"
      rw [decide_eq_false h1, Bool.false_and] at q
      exact q
theorem letters_list : ("abcdefghijklmnopqrstuvwxyz" : Str).cps.toList = List.range' 97 26 := by decide +kernel
theorem isNm_of {z : Str} : isNm z = (decide (1 ≤ z.length) && (decide (z.length ≤ 12) && only z "abcdefghijklmnopqrstuvwxyz")) := by
  unfold isNm only
  rw [Bool.and_assoc, letters_list]
  congr 3
  funext c
  rw [← Bool.decide_and]
  refine decide_eq_decide.mpr ?_
  rw [List.mem_range'_1]
  omega
/-- of short texts -/
def sp_is_name : Sp := fun vs H Q _ => ∃ z : Str, vs = [.str z] ∧ z.length ≤ 1000 ∧ Q (.bl (isNm z)) H
theorem ok_is_name (T : Tx K mg) : FnOk P w K mg base CX0 2 (He.ga K "is_name") T.fd_is_name ["thing"] sp_is_name := by
  refine T.F_is_name.ok sc_is_name (fun vs H Q E h => ?_) (fun cdv A outer s H vs Q E hr h => ?_)
  · obtain ⟨x, rfl, _⟩ := h
    rfl
  · obtain ⟨z, rfl, hz, q⟩ := h
    refine ⟨_, PSs.nox (pss_cons (ps_if (pt_not (pt_val (pe_callB call_isi (by rfl) T.b_isinstance (by decide +kernel) (pa_cons (pv 0) (pa_cons (pe_bltn (v := .ty "str") rfl T.b_str (by decide +kernel) rfl) pa_nil))))) (pss_one (ps_ret pe_bl)) pss_nil)
      (pss_one (ps_ret (pe_and (pe_chain op_le op_le pe_int (pe_callB x_lenS (by rfl) T.b_len (by decide +kernel) (pa_cons (pv 0) pa_nil)) (pe_glob (v := .int 12) rfl (T.c_MOST_LETTERS).choose_spec ⟨_, rfl⟩)) (pe_one (pe_call (ok_has_only T) (hr.mono (by decide)) (by rfl) T.g_has_only T.F_has_only.kp T.k_has_only .nil pass0 (pa_cons (pv 0) (pa_cons (pe_glob (v := .str "abcdefghijklmnopqrstuvwxyz") rfl (T.c_LETTERS).choose_spec ⟨_, rfl⟩) pa_nil)))))))), ?_⟩
    rw [isNm_of] at q
    walk_at "go"
    apply i_dec
    · intro h1
      have h1' : 1 ≤ z.length := by omega
      rw [decide_eq_true h1', Bool.true_and] at q
      walk_at "go"
      apply i_dec
      · intro h2
        have h2' : z.length ≤ 12 := by omega
        rw [decide_eq_true h2', Bool.true_and] at q
        walk_at "go"
        exact ⟨z, _, rfl, q⟩
      · intro h2
        have h2' : ¬ z.length ≤ 12 := by omega
        rw [decide_eq_false h2', Bool.false_and] at q
        walk_at "go"
        exact q
    · intro h1
      have h1' : ¬ 1 ≤ z.length := by omega
      rw [decide_eq_false h1', Bool.false_and] at q
      walk_at "go"
      exact q
/-- of good loads -/
def sp_need_load : Sp := fun vs H Q _ => ∃ c : Int, vs = [.int c] ∧ 0 ≤ c ∧ c ≤ most ∧ Q .non H
theorem ok_need_load (T : Tx K mg) : FnOk P w K mg base CX0 3 (He.ga K "_need_load") T.fd_need_load ["load"] sp_need_load := by
  refine T.F_need_load.ok sc_need_load (fun vs H Q E h => ?_) (fun cdv A outer s H vs Q E hr h => ?_)
  · obtain ⟨x, rfl, _⟩ := h
    rfl
  · obtain ⟨c, rfl, c0, c1, q⟩ := h
    refine ⟨_, PSs.nox (pss_one (ps_if (pt_not (pt_val (pe_call (ok_is_among T) (hr.mono (by decide)) (by rfl) T.g_is_among T.F_is_among.kp T.k_is_among .nil pass0 (pa_cons (pv 0) (pa_cons pe_int (pa_cons (pe_glob (v := .int 1000000000000000000000000000000000000000000000000000000000000) rfl (T.c_MOST).choose_spec ⟨_, rfl⟩) pa_nil)))))) (pss_one ps_never) pss_nil)), ?_⟩
    walk_at "go"
    refine ⟨c, 0, most, rfl, ?_⟩
    rw [decide_eq_true c0, decide_eq_true c1]
    walk_at "go"
    exact q
def sp_Tie (K : PySem.W.Frag) : Sp := fun vs H Q _ => ∃ (x dx : Addr) (n : Int) (t : Ti), vs = [.ref x, .int n, .str t.t, .str t.h, .int t.c, .bl t.o] ∧ H x = some (.ins (He.ga K "Tie") dx []) ∧ Q .non (upd H x (.ins (He.ga K "Tie") dx (tieFs n t)))
theorem ok_Tie_init (T : Tx K mg) : FnOk P w K mg base CX0 1 (He.ma K (He.ga K "Tie") "__init__") T.fd_Tie_init ["self", "number", "tail", "head", "load", "is_oneway"] (sp_Tie K) := by
  refine T.F_Tie_init.ok sc_Tie_init (fun vs H Q E h => ?_) (fun cdv A outer s H vs Q E hr h => ?_)
  · obtain ⟨x, dx, n, t, rfl, _⟩ := h
    rfl
  · obtain ⟨x, dx, n, t, rfl, hx, q⟩ := h
    refine ⟨_, PSs.nox (pss_cons (ps_fld (pv 0) (pv 1) rfl)
      (pss_cons (ps_fld (pv 0) (pv 2) rfl)
      (pss_cons (ps_fld (pv 0) (pv 3) rfl)
      (pss_cons (ps_fld (pv 0) (pv 4) rfl)
      (pss_one (ps_fld (pv 0) (pv 5) rfl)))))), ?_⟩
    have c1 := T.cl_Tie
    have c2 := T.na_Tie_number
    have c3 := T.na_Tie_tail
    have c4 := T.na_Tie_head
    have c5 := T.na_Tie_load
    have c6 := T.na_Tie_is_oneway
    walk_at "go"
    simp only [upd_upd]
    exact q
/-- a new tie -/
def newTie (K : PySem.W.Frag) (H : Hp) (n : Int) (t : Ti) (Q : VK) : Prop := ∀ a H', Same H H' → H a = none → TieAt K H' n t a → (∀ b, b ≠ a → (∀ dx, H b = none → H' b = none ∨ b = dx) → True) → Q (.ref a) H'
def sp_between (K : PySem.W.Frag) : Sp := fun vs H Q _ => ∃ (a : Addr) (n : Int) (t : Ti) (x y : Str), vs = [.ref a, .str x, .str y] ∧ TieAt K H n t a ∧ ∀ b H', Same H H' → TieAt K H' n { t with t := x, h := y } b → H b = none → Q (.ref b) H'
theorem ok_between (T : Tx K mg) : FnOk P w K mg base CX0 3 (He.ga K "_between") T.fd_between ["tie", "tail", "head"] (sp_between K) := by
  refine T.F_between.ok sc_between (fun vs H Q E h => ?_) (fun cdv A outer s H vs Q E hr h => ?_)
  · obtain ⟨a, n, t, x, y, rfl, _⟩ := h
    rfl
  · obtain ⟨a, n, t, x, y, rfl, ⟨dx, ha⟩, q⟩ := h
    refine ⟨_, PSs.nox (pss_one (ps_ret (pe_make T.mk_Tie (ok_Tie_init T) (hr.mono (by decide)) (by rfl) T.g_Tie T.k_Tie_init .nil pass0 (pa_cons (pe_fld (pv 0) rfl) (pa_cons (pv 1) (pa_cons (pv 2) (pa_cons (pe_fld (pv 0) rfl) (pa_cons (pe_fld (pv 0) rfl) pa_nil)))))))), ?_⟩
    have c1 := T.cl_Tie
    have c2 := T.na_Tie_number
    have c5 := T.na_Tie_load
    have c6 := T.na_Tie_is_oneway
    walk_at "go"
    intro b dy hb hd hne
    refine ⟨b, dy, n, { t with t := x, h := y }, rfl, upd_same, rfl, ?_⟩
    rw [upd_upd]
    have s1 : Same H (upd H dy (.own b)) := Same.new hd
    have hb' : (upd H dy (.own b)) b = none := (upd_ne (fun e => hne e.symm)).trans hb
    exact q b _ (Same.mut s1 hb) ⟨dy, upd_same⟩ hb
def sp_turned (K : PySem.W.Frag) : Sp := fun vs H Q _ => ∃ (a : Addr) (n : Int) (t : Ti) (x y : Str), vs = [.ref a, .str x, .str y] ∧ TieAt K H n t a ∧ ∀ b H', Same H H' → TieAt K H' n (turn x y t) b → H b = none → Q (.ref b) H'
theorem ok_turned (T : Tx K mg) : FnOk P w K mg base CX0 4 (He.ga K "_turned") T.fd_turned ["tie", "name", "other"] (sp_turned K) := by
  refine T.F_turned.ok sc_turned (fun vs H Q E h => ?_) (fun cdv A outer s H vs Q E hr h => ?_)
  · obtain ⟨a, n, t, x, y, rfl, _⟩ := h
    rfl
  · obtain ⟨a, n, t, x, y, rfl, ⟨dx, ha⟩, q⟩ := h
    refine ⟨_, PSs.nox (pss_cons (ps_set (i := 3) sc_turned.nd rfl (Or.inl rfl) (pe_ifExp (pt_cmpR op_eq (pe_fld (pv 0) rfl) (pv 1) (nomark _)) (pv 2) (pe_fld (pv 0) rfl)))
      (pss_cons (ps_set (i := 4) sc_turned.nd rfl (Or.inl rfl) (pe_ifExp (pt_cmpR op_eq (pe_fld (pv 0) rfl) (pv 1) (nomark _)) (pv 2) (pe_fld (pv 0) rfl)))
      (pss_one (ps_ret (pe_call (ok_between T) (hr.mono (by decide)) (by rfl) T.g_between T.F_between.kp T.k_between .nil pass0 (pa_cons (pv 0) (pa_cons (pv 3) (pa_cons (pv 4) pa_nil)))))))), ?_⟩
    have c1 := T.cl_Tie
    have c2 := T.na_Tie_tail
    have c3 := T.na_Tie_head
    walk_at "go"
    refine i_dec (fun e1 => ?_) (fun e1 => ?_)
    · walk_at "go"
      refine i_dec (fun e2 => ?_) (fun e2 => ?_)
      · walk_at "go"
        refine ⟨a, n, t, y, y, rfl, ⟨dx, ha⟩, fun b H' s tb hb => q b H' s ?_ hb⟩
        have e : turn x y t = { t with t := y, h := y } := by simp [turn, e1, e2]
        rw [e]; exact tb
      · walk_at "go"
        refine ⟨a, n, t, y, t.h, rfl, ⟨dx, ha⟩, fun b H' s tb hb => q b H' s ?_ hb⟩
        have e : turn x y t = { t with t := y, h := t.h } := by simp [turn, e1, e2]
        rw [e]; exact tb
    · walk_at "go"
      refine i_dec (fun e2 => ?_) (fun e2 => ?_)
      · walk_at "go"
        refine ⟨a, n, t, t.t, y, rfl, ⟨dx, ha⟩, fun b H' s tb hb => q b H' s ?_ hb⟩
        have e : turn x y t = { t with t := t.t, h := y } := by simp [turn, e1, e2]
        rw [e]; exact tb
      · walk_at "go"
        refine ⟨a, n, t, t.t, t.h, rfl, ⟨dx, ha⟩, fun b H' s tb hb => q b H' s ?_ hb⟩
        have e : turn x y t = { t with t := t.t, h := t.h } := by simp [turn, e1, e2]
        rw [e]; exact tb
end
end K04

set_option Elab.async false
set_option linter.all false
set_option maxRecDepth 100000
set_option maxHeartbeats 2000000
namespace K04
open PySem PySem.Spec PyProof.Rows L2 HX WB
local macro_rules | `(tactic| walk_at "side") => `(tactic| first
  | assumption
  | rfl
  | (show (0 : Int) < _; omega)
  | (unfold CDiv; omega)
  | (unfold CMul; omega)
  | (unfold CPow; omega)
  | (rw [sizeLine_eq]; omega)
  | omega)
local macro_rules | `(tactic| walk_at "e") => `(tactic| first
  | ((with_reducible apply i_var); exact rfl)
  | (with_reducible apply i_c)
  | (with_reducible apply i_op)
  | (with_reducible apply i_un)
  | (with_reducible apply i_rI0)
  | ((with_reducible apply i_rI); (case c => walk_at "side"))
  | (with_reducible apply i_rGe)
  | (with_reducible apply i_rGt)
  | (with_reducible apply i_rU)
  | (with_reducible apply i_rEqI)
  | (with_reducible apply i_rNeI)
  | (with_reducible apply i_rEqS)
  | (with_reducible apply i_rNeS)
  | (with_reducible apply i_rEqB)
  | (with_reducible apply i_rNeB)
  | (with_reducible apply i_rIsN)
  | (with_reducible apply i_rNotN)
  | (with_reducible apply i_rInS)
  | (with_reducible apply i_rNotInS)
  | ((with_reducible apply i_catS); (case c => walk_at "side"))
  | (with_reducible apply i_tcb)
  | (with_reducible apply i_nil)
  | (with_reducible apply i_cons)
  | ((with_reducible apply i_lenS); (case c => walk_at "side"))
  | ((with_reducible apply i_lenL); assumption)
  | (with_reducible apply i_abs)
  | (with_reducible apply i_max2)
  | (with_reducible apply i_min2)
  | ((with_reducible apply i_strI); (case c => walk_at "side"))
  | (with_reducible apply i_intB)
  | (with_reducible apply i_test)
  | (with_reducible apply i_tB)
  | (with_reducible apply i_kB)
  | (with_reducible apply i_and)
  | (with_reducible apply i_or)
  | (with_reducible apply i_not)
  | (with_reducible apply i_if)
  | (with_reducible apply i_andV)
  | (with_reducible apply i_orV)
  | (with_reducible apply i_notV)
  | (with_reducible apply i_kAndV)
  | (with_reducible apply i_kOrV)
  | (with_reducible apply i_kNotV)
  | (with_reducible apply i_chain)
  | (with_reducible apply i_kChain)
  | (with_reducible apply i_drop)
  | (with_reducible apply i_ret)
  | (with_reducible apply i_retN)
  | (with_reducible apply i_ifS)
  | (with_reducible apply i_asg)
  | (with_reducible apply i_gName)
  | (with_reducible apply i_for)
  | (with_reducible apply i_lc)
  | (with_reducible apply i_iList)
  | (with_reducible apply i_iTup)
  | (with_reducible apply i_iStr)
  | (with_reducible apply i_kStrI)
  | (with_reducible apply i_lst)
  | (with_reducible apply i_tup)
  | (with_reducible apply i_call)
  | (with_reducible apply i_m1)
  | (with_reducible apply i_kStr)
  | (with_reducible apply i_bm)
  | (with_reducible apply i_bm0)
  | (with_reducible apply i_part)
  | (with_reducible apply i_kInt)
  | (with_reducible apply i_noPart)
  | (with_reducible apply i_sl)
  | (with_reducible apply i_range1)
  | (with_reducible apply i_range2)
  | ((with_reducible apply i_kRng1); (case c => walk_at "side"))
  | ((with_reducible apply i_kRng2); (case c => walk_at "side"))
  | (with_reducible apply i_gCons)
  | (with_reducible apply i_gNil)
  | (with_reducible apply i_gSub)
  | (with_reducible apply i_iZip)
  | (with_reducible apply i_yes)
  | (with_reducible apply i_ift)
  | (with_reducible apply i_iff)
  | (with_reducible apply i_nb))
local macro_rules | `(tactic| walk_at "go") => `(tactic| repeat (first | (with_reducible apply i_seq) | (with_reducible apply i_next) | walk_at "e"))
local macro_rules | `(tactic| walk_at "ge") => `(tactic| repeat walk_at "e")
local macro_rules | `(tactic| walk_at "sz") => `(tactic| first | decide | (rw [sizeLine_eq]; simp; done) | (rw [sizeLine_eq]; omega))
local macro_rules | `(tactic| walk_at "side") => `(tactic| (with_reducible exact WB.most_pos))
local macro_rules | `(tactic| walk_at "e") => `(tactic| first
  | ((with_reducible apply i_isT (b := true)); exact rfl)
  | ((with_reducible apply i_isT (b := false)); exact rfl)
  | (with_reducible apply i_fld)
  | ((with_reducible apply i_kFld); (case h => assumption); (case c1 => assumption); (case c2 => assumption); (case e => first | exact lk_number | exact lk_tail | exact lk_head | exact lk_load | exact lk_oneway | exact lk_points | exact lk_ties | exact lk_given))
  | (with_reducible apply i_sfld)
  | ((with_reducible apply i_kSFld); (case h => first | assumption | exact upd_same); (case c1 => assumption); (case c2 => assumption); (case e => exact Nat.le_of_ble_eq_true rfl))
  | (with_reducible apply i_methC)
  | (with_reducible apply i_make)
  | (with_reducible apply i_fldaug)
  | (with_reducible apply i_vals)
  | (with_reducible apply i_items)
  | (with_reducible apply i_dget)
  | (with_reducible apply i_dput)
  | (with_reducible apply i_din)
  | (with_reducible apply i_dnotin)
  | (with_reducible apply i_ddel)
  | (with_reducible apply i_dc)
  | (with_reducible apply i_enum)
  | (with_reducible apply i_ckw))
section
variable {P : Program} {w : World} {K : PySem.W.Frag} {mg : Str → Option Value} {base : Heap}
def sp_Web_init (K : PySem.W.Frag) : Sp := fun vs H Q _ => ∃ (x dx : Addr), vs = [.ref x] ∧ H x = some (.ins (He.ga K "Web") dx []) ∧ ∀ l d, H l = none → H d = none → l ≠ d → Q .non (upd (upd (upd H l (.lst [])) d (.dK [])) x (.ins (He.ga K "Web") dx (webFs l d 0)))
theorem ok_Web_init (T : Tx K mg) : FnOk P w K mg base CX0 1 (He.ma K (He.ga K "Web") "__init__") T.fd_Web_init ["self"] (sp_Web_init K) := by
  refine T.F_Web_init.ok sc_Web_init (fun vs H Q E h => ?_) (fun cdv A outer s H vs Q E hr h => ?_)
  · obtain ⟨x, dx, rfl, _⟩ := h
    rfl
  · obtain ⟨x, dx, rfl, hx, q⟩ := h
    refine ⟨_, PSs.nox (pss_cons (ps_fld (pv 0) (pe_lst pa_nil) rfl)
      (pss_cons (ps_fld (pv 0) pe_dnewK rfl)
      (pss_one (ps_fld (pv 0) pe_int rfl)))), ?_⟩
    have c1 := T.cl_Web
    have c2 := T.na_Web_points
    have c3 := T.na_Web_ties
    have c4 := T.na_Web_given
    walk_at "go"
    refine ⟨by walk_at "sz", fun l hl => ?_⟩
    walk_at "go"
    refine i_kSFld ((upd_ne (ne_of_none hx hl)).trans hx) c1 c2 (Nat.le_of_ble_eq_true rfl) ?_
    intro d hd
    have nl : l ≠ x := fun e => by rw [e] at hl; rw [hl] at hx; cases hx
    have hd1 : (upd H l (.lst [])) d = none := by
      by_cases e : d = x
      · subst e; rw [upd_same] at hd; cases hd
      · rwa [upd_ne e] at hd
    have nd : d ≠ l := fun e => by rw [e, upd_same] at hd1; cases hd1
    have hd2 : H d = none := by rwa [upd_ne nd] at hd1
    have nx : d ≠ x := fun e => by rw [e] at hd2; rw [hd2] at hx; cases hx
    walk_at "go"
    refine i_kSFld ((upd_ne nx.symm).trans upd_same) c1 c3 (Nat.le_of_ble_eq_true rfl) ?_
    walk_at "go"
    have e : upd (upd (upd (upd (upd H l (.lst [])) x (.ins (He.ga K "Web") dx (putF "_points" (.ref l) []))) d (.dK [])) x (.ins (He.ga K "Web") dx (putF "_ties" (.ref d) (putF "_points" (.ref l) [])))) x (.ins (He.ga K "Web") dx (putF "_given" (.int 0) (putF "_ties" (.ref d) (putF "_points" (.ref l) [])))) = upd (upd (upd H l (.lst [])) d (.dK [])) x (.ins (He.ga K "Web") dx (webFs l d 0)) := by
      rw [upd_upd]
      funext b
      by_cases hb : b = x
      · subst hb; rw [upd_same, upd_same]; rfl
      · rw [upd_ne hb, upd_ne hb]
        by_cases hb2 : b = d
        · subst hb2; rw [upd_same, upd_same]
        · rw [upd_ne hb2, upd_ne hb2, upd_ne hb]
    rw [e]
    exact q l d hl hd2 nd.symm
def sp_Web_points (K : PySem.W.Frag) : Sp := fun vs H Q _ => ∃ p l d w, vs = [.ref p] ∧ WebAt K H p l d w ∧ ∀ a, H a = none → Q (.ref a) (upd H a (.lst (w.ps.map V.str)))
theorem ok_Web_points (T : Tx K mg) : FnOk P w K mg base CX0 1 (He.ma K (He.ga K "Web") "points") T.fd_Web_points ["self"] (sp_Web_points K) := by
  refine T.F_Web_points.ok sc_Web_points (fun vs H Q E h => ?_) (fun cdv A outer s H vs Q E hr h => ?_)
  · obtain ⟨_, _, _, _, rfl, _⟩ := h
    rfl
  · obtain ⟨p, l, d, w, rfl, hw, q⟩ := h
    obtain ⟨dx, ep⟩ := hw.self
    refine ⟨_, PSs.nox (pss_one (ps_ret (pe_callTy x_list (by rfl) T.b_list (by decide +kernel) (pa_cons (pe_fld (pv 0) rfl) pa_nil)))), ?_⟩
    have c1 := T.cl_Web
    have c2 := T.na_Web_points
    walk_at "go"
    exact ⟨l, _, rfl, .inl (SqL.of hw.pts), q⟩
def sp_Web_given (K : PySem.W.Frag) : Sp := fun vs H Q _ => ∃ p l d w, vs = [.ref p] ∧ WebAt K H p l d w ∧ Q (.int w.g) H
theorem ok_Web_given (T : Tx K mg) : FnOk P w K mg base CX0 1 (He.ma K (He.ga K "Web") "given") T.fd_Web_given ["self"] (sp_Web_given K) := by
  refine T.F_Web_given.ok sc_Web_given (fun vs H Q E h => ?_) (fun cdv A outer s H vs Q E hr h => ?_)
  · obtain ⟨_, _, _, _, rfl, _⟩ := h
    rfl
  · obtain ⟨p, l, d, w, rfl, hw, q⟩ := h
    obtain ⟨dx, ep⟩ := hw.self
    refine ⟨_, PSs.nox (pss_one (ps_ret (pe_fld (pv 0) rfl))), ?_⟩
    have c1 := T.cl_Web
    have c2 := T.na_Web_given
    walk_at "go"
    exact q
def sp_need_point (K : PySem.W.Frag) : Sp := fun vs H Q _ => ∃ p l d w x, vs = [.ref p, .str x] ∧ WebAt K H p l d w ∧ x ∈ w.ps ∧ isNm x = true ∧ Q .non H
theorem ok_Web_need_point (T : Tx K mg) : FnOk P w K mg base CX0 3 (He.ma K (He.ga K "Web") "_need_point") T.fd_Web_need_point ["self", "name"] (sp_need_point K) := by
  refine T.F_Web_need_point.ok sc_Web_need_point (fun vs H Q E h => ?_) (fun cdv A outer s H vs Q E hr h => ?_)
  · obtain ⟨_, _, _, _, _, rfl, _⟩ := h
    rfl
  · obtain ⟨p, l, d, w, x, rfl, hw, hx, hn, q⟩ := h
    obtain ⟨dx, ep⟩ := hw.self
    refine ⟨_, PSs.nox (pss_one (ps_if (PW.pt (pw_or (pt_not (pt_val (pe_call (ok_is_name T) (hr.mono (by decide)) (by rfl) T.g_is_name T.F_is_name.kp T.k_is_name .nil pass0 (pa_cons (pv 1) pa_nil)))) (pw_or1 (pt_cmpR op_notIn_seq (pv 1) (pe_fld (pv 0) rfl) (by rfl))))) (pss_one ps_never) pss_nil)), ?_⟩
    have c1 := T.cl_Web
    have c2 := T.na_Web_points
    walk_at "go"
    refine ⟨x, rfl, by have := nm_len hn; omega, ?_⟩
    rw [hn]
    walk_at "go"
    refine i_inS (SqL.of hw.pts) ?_
    rw [decide_eq_true hx]
    walk_at "go"
    exact q
def sp_need_new_name (K : PySem.W.Frag) : Sp := fun vs H Q _ => ∃ p l d w x, vs = [.ref p, .str x] ∧ WebAt K H p l d w ∧ x ∉ w.ps ∧ isNm x = true ∧ Q .non H
theorem ok_Web_need_new_name (T : Tx K mg) : FnOk P w K mg base CX0 3 (He.ma K (He.ga K "Web") "_need_new_name") T.fd_Web_need_new_name ["self", "name"] (sp_need_new_name K) := by
  refine T.F_Web_need_new_name.ok sc_Web_need_new_name (fun vs H Q E h => ?_) (fun cdv A outer s H vs Q E hr h => ?_)
  · obtain ⟨_, _, _, _, _, rfl, _⟩ := h
    rfl
  · obtain ⟨p, l, d, w, x, rfl, hw, hx, hn, q⟩ := h
    obtain ⟨dx, ep⟩ := hw.self
    refine ⟨_, PSs.nox (pss_cons (ps_if (pt_not (pt_val (pe_call (ok_is_name T) (hr.mono (by decide)) (by rfl) T.g_is_name T.F_is_name.kp T.k_is_name .nil pass0 (pa_cons (pv 1) pa_nil)))) (pss_one ps_never) pss_nil)
      (pss_one (ps_if (pt_cmpR op_in_seq (pv 1) (pe_fld (pv 0) rfl) (by rfl)) (pss_one ps_never) pss_nil))), ?_⟩
    have c1 := T.cl_Web
    have c2 := T.na_Web_points
    walk_at "go"
    refine ⟨x, rfl, by have := nm_len hn; omega, ?_⟩
    rw [hn]
    walk_at "go"
    refine i_inS (SqL.of hw.pts) ?_
    rw [decide_eq_false hx]
    walk_at "go"
    exact q
def sp_need_new_point (K : PySem.W.Frag) : Sp := fun vs H Q _ => ∃ p l d w x, vs = [.ref p, .str x] ∧ WebAt K H p l d w ∧ x ∉ w.ps ∧ isNm x = true ∧ w.ps.length < 16 ∧ Q .non H
theorem ok_Web_need_new_point (T : Tx K mg) : FnOk P w K mg base CX0 4 (He.ma K (He.ga K "Web") "_need_new_point") T.fd_Web_need_new_point ["self", "name"] (sp_need_new_point K) := by
  refine T.F_Web_need_new_point.ok sc_Web_need_new_point (fun vs H Q E h => ?_) (fun cdv A outer s H vs Q E hr h => ?_)
  · obtain ⟨_, _, _, _, _, rfl, _⟩ := h
    rfl
  · obtain ⟨p, l, d, w, x, rfl, hw, hx, hn, hl, q⟩ := h
    obtain ⟨dx, ep⟩ := hw.self
    refine ⟨_, PSs.nox (pss_cons (ps_expr (pe_meth (pv 0) T.cl_Web T.m_Web_need_new_name (ok_Web_need_new_name T) (hr.mono (by decide)) T.k_Web_need_new_name .nil pass0 (pa_cons (pv 1) pa_nil)))
      (pss_one (ps_if (pt_cmpR op_ge (pe_callB x_lenL (by rfl) T.b_len (by decide +kernel) (pa_cons (pe_fld (pv 0) rfl) pa_nil)) (pe_glob (v := .int 16) rfl (T.c_MOST_POINTS).choose_spec ⟨_, rfl⟩) (nomark _)) (pss_one ps_never) pss_nil))), ?_⟩
    have c1 := T.cl_Web
    have c2 := T.na_Web_points
    walk_at "go"
    refine i_kMethC ep rfl ?_
    walk_at "go"
    refine ⟨p, l, d, w, x, rfl, hw, hx, hn, ?_⟩
    walk_at "go"
    refine i_lenL (SqL.of hw.pts) ?_
    walk_at "go"
    rw [List.length_map]
    refine i_dec (fun e => ?_) (fun _ => ?_)
    · omega
    · walk_at "go"
      exact q
def sp_need_tie (K : PySem.W.Frag) : Sp := fun vs H Q _ => ∃ p l d w n t, vs = [.ref p, .int n] ∧ WebAt K H p l d w ∧ tget w.ts n = some t ∧ Q .non H
theorem ok_Web_need_tie (T : Tx K mg) : FnOk P w K mg base CX0 2 (He.ma K (He.ga K "Web") "_need_tie") T.fd_Web_need_tie ["self", "number"] (sp_need_tie K) := by
  refine T.F_Web_need_tie.ok sc_Web_need_tie (fun vs H Q E h => ?_) (fun cdv A outer s H vs Q E hr h => ?_)
  · obtain ⟨_, _, _, _, _, _, rfl, _⟩ := h
    rfl
  · obtain ⟨p, l, d, w, n, t, rfl, hw, ht, q⟩ := h
    obtain ⟨dx, ep⟩ := hw.self
    obtain ⟨kvs, ed, hd⟩ := hw.ties
    have hu := hu_of hr
    refine ⟨_, PSs.nox (pss_one (ps_if (PW.pt (pw_or (pt_not (pt_val (pe_call (ok_is_whole T) (hr.mono (by decide)) (by rfl) T.g_is_whole T.F_is_whole.kp T.k_is_whole .nil pass0 (pa_cons (pv 1) pa_nil)))) (pw_or1 (pt_cmp (pc_dnotin hu (pv 1) (pe_fld (pv 0) rfl)))))) (pss_one ps_never) pss_nil)), ?_⟩
    have c1 := T.cl_Web
    have c2 := T.na_Web_ties
    walk_at "go"
    refine ⟨n, rfl, ?_⟩
    walk_at "go"
    refine i_kDNotInI ed ?_
    rw [hd.some, ht]
    show kB _ (.bl false) _
    walk_at "go"
    exact q
def sp_put_point (K : PySem.W.Frag) : Sp := fun vs H Q _ => ∃ p l d w x, vs = [.ref p, .str x] ∧ WebAt K H p l d w ∧ x ∉ w.ps ∧ isNm x = true ∧ w.ps.length < 16 ∧ ∀ H', WebAt K H' p l d (w.put x) → Keep H H' p l d → Q .non H'
theorem ok_Web_put_point (T : Tx K mg) : FnOk P w K mg base CX0 5 (He.ma K (He.ga K "Web") "put_point") T.fd_Web_put_point ["self", "name"] (sp_put_point K) := by
  refine T.F_Web_put_point.ok sc_Web_put_point (fun vs H Q E h => ?_) (fun cdv A outer s H vs Q E hr h => ?_)
  · obtain ⟨_, _, _, _, _, rfl, _⟩ := h
    rfl
  · obtain ⟨p, l, d, w, x, rfl, hw, hx, hn, hl, q⟩ := h
    obtain ⟨dx, ep⟩ := hw.self
    refine ⟨_, PSs.nox (pss_cons (ps_expr (pe_meth (pv 0) T.cl_Web T.m_Web_need_new_point (ok_Web_need_new_point T) (hr.mono (by decide)) T.k_Web_need_new_point .nil pass0 (pa_cons (pv 1) pa_nil)))
      (pss_one (ps_expr (pe_bm PySem.F.plainAttrs_list PySem.F.slot_list_append PySem.F.type_list_append mt_append (pe_fld (pv 0) rfl) (pa_cons (pv 1) pa_nil))))), ?_⟩
    have c1 := T.cl_Web
    have c2 := T.na_Web_points
    walk_at "go"
    refine i_kMethC ep rfl ?_
    walk_at "go"
    refine ⟨p, l, d, w, x, rfl, hw, hx, hn, hl, ?_⟩
    walk_at "go"
    refine i_kTyL (SqL.of hw.pts) ?_
    walk_at "go"
    refine i_append hw.pts ?_ (by rw [List.length_map, sizeLine_eq]; omega)
    walk_at "go"
    obtain ⟨a1, a2⟩ := hw.setPts (Same.refl H) (ps := w.ps ++ [x])
    rw [List.map_append] at a1 a2
    exact q _ a1 a2
def sp_drop_point (K : PySem.W.Frag) : Sp := fun vs H Q _ => ∃ p l d w x, vs = [.ref p, .str x] ∧ WebAt K H p l d w ∧ x ∈ w.ps ∧ isNm x = true ∧ (∀ n t, (n, t) ∈ w.ts → t.t ≠ x ∧ t.h ≠ x) ∧ ∀ H', WebAt K H' p l d (w.gone x) → Keep H H' p l d → Q .non H'
theorem ok_Web_drop_point (T : Tx K mg) : FnOk P w K mg base CX0 4 (He.ma K (He.ga K "Web") "drop_point") T.fd_Web_drop_point ["self", "name"] (sp_drop_point K) := by
  refine T.F_Web_drop_point.ok sc_Web_drop_point (fun vs H Q E h => ?_) (fun cdv A outer s H vs Q E hr h => ?_)
  · obtain ⟨_, _, _, _, _, rfl, _⟩ := h
    rfl
  · obtain ⟨p, l, d, w, x, rfl, hw, hx, hn, hf, q⟩ := h
    obtain ⟨dx, ep⟩ := hw.self
    obtain ⟨kvs, ed, hd⟩ := hw.ties
    refine ⟨_, PSs.nox (pss_cons (ps_expr (pe_meth (pv 0) T.cl_Web T.m_Web_need_point (ok_Web_need_point T) (hr.mono (by decide)) T.k_Web_need_point .nil pass0 (pa_cons (pv 1) pa_nil)))
      (pss_cons (ps_lock (ps_for PassesOwn.never rfl (pi_values (pe_fld (pv 0) rfl)) (pg_name (i := 2) sc_Web_drop_point.nd rfl (Or.inl rfl))
      (pss_one (ps_if (pt_cmpR op_in_seq (pv 1) (pe_tup (pa_cons (pe_fld (pv 2) rfl) (pa_cons (pe_fld (pv 2) rfl) pa_nil))) (by rfl)) (pss_one ps_never) pss_nil))))
      (pss_one (ps_expr (pe_bm PySem.F.plainAttrs_list PySem.F.slot_list_remove PySem.F.type_list_remove mt_removeS (pe_fld (pv 0) rfl) (pa_cons (pv 1) pa_nil)))))), ?_⟩
    have c1 := T.cl_Web
    have c2 := T.na_Web_points
    have c3 := T.na_Web_ties
    walk_at "go"
    refine i_kMethC ep rfl ?_
    walk_at "go"
    refine ⟨p, l, d, w, x, rfl, hw, hx, hn, ?_⟩
    walk_at "go"
    refine i_lock ed trivial fun od => ?_
    have ep' := (upd_ne hw.ne_pd (o := .frz od (.dK kvs))).trans ep
    walk_at "go"
    refine i_kVals upd_same ?_
    refine for_it walk_values (fun i σ H' => Same (upd H d (.frz od (.dK kvs))) H' ∧ ∃ v, σ = [some (.ref p), some (.str x), v]) ⟨Same.refl _, none, rfl⟩ (fun i σ H' _ h => h.1 _ _ upd_same) ?_ ?_
    · rintro i v σ H2 H3 hi ⟨s2, u, rfl⟩ ⟨rfl, k, hk⟩
      obtain ⟨n, t, a, et, ekv, ta⟩ := hd.item hk
      cases ekv
      obtain ⟨dy, ta2⟩ := (TieAt.locked (o := od) ta ed).same s2
      have c4 := T.cl_Tie
      have c5 := T.na_Tie_tail
      have c6 := T.na_Tie_head
      walk_at "go"
      refine ⟨by walk_at "sz", fun p3 hp3 => ?_⟩
      refine i_inT (ys := [t.t, t.h]) (SqT.of upd_same) ?_
      have hn := hf n t (List.mem_of_getElem? et)
      have e : decide (x ∈ [t.t, t.h]) = false := by
        refine decide_eq_false fun m => ?_
        rcases List.mem_cons.mp m with m | m
        · exact hn.1 m.symm
        · exact hn.2 (List.mem_singleton.mp m).symm
      rw [e]
      show kB _ (.bl false) _
      walk_at "go"
      exact ⟨Same.mut s2 (s2.free hp3), _, rfl⟩
    · rintro σ H2 ⟨s2, u, rfl⟩
      obtain ⟨e2, s3⟩ := lock_same ed s2
      refine ⟨e2, ?_⟩
      have ep2 := s3 _ _ ep
      walk_at "go"
      refine i_kTyL (SqL.of (s3 _ _ hw.pts)) ?_
      walk_at "go"
      refine i_remS (s3 _ _ hw.pts) hx ?_
      walk_at "go"
      obtain ⟨a1, a2⟩ := hw.setPts s3 (ps := w.ps.erase x)
      exact q _ a1 a2
def sp_drop_tie (K : PySem.W.Frag) : Sp := fun vs H Q _ => ∃ p l d w n t, vs = [.ref p, .int n] ∧ WebAt K H p l d w ∧ tget w.ts n = some t ∧ ∀ H', WebAt K H' p l d (w.untie n) → Keep H H' p l d → Q .non H'
theorem ok_Web_drop_tie (T : Tx K mg) : FnOk P w K mg base CX0 3 (He.ma K (He.ga K "Web") "drop_tie") T.fd_Web_drop_tie ["self", "number"] (sp_drop_tie K) := by
  refine T.F_Web_drop_tie.ok sc_Web_drop_tie (fun vs H Q E h => ?_) (fun cdv A outer s H vs Q E hr h => ?_)
  · obtain ⟨_, _, _, _, _, _, rfl, _⟩ := h
    rfl
  · obtain ⟨p, l, d, w, n, t, rfl, hw, ht, q⟩ := h
    obtain ⟨dx, ep⟩ := hw.self
    obtain ⟨kvs, ed, hd⟩ := hw.ties
    have hu := hu_of hr
    refine ⟨_, PSs.nox (pss_cons (ps_expr (pe_meth (pv 0) T.cl_Web T.m_Web_need_tie (ok_Web_need_tie T) (hr.mono (by decide)) T.k_Web_need_tie .nil pass0 (pa_cons (pv 1) pa_nil)))
      (pss_one (ps_ddel (pe_fld (pv 0) rfl) (pv 1)))), ?_⟩
    have c1 := T.cl_Web
    have c3 := T.na_Web_ties
    walk_at "go"
    refine i_kMethC ep rfl ?_
    walk_at "go"
    refine ⟨p, l, d, w, n, t, rfl, hw, ht, ?_⟩
    walk_at "go"
    refine i_kDDelI ed (by rw [hd.some, ht]; rfl) ?_
    walk_at "go"
    obtain ⟨a1, a2⟩ := hw.setTies (Same.refl H) (hd.drop (n := n))
    exact q _ a1 a2
end
end K04

set_option Elab.async false
set_option linter.all false
set_option maxRecDepth 100000
set_option maxHeartbeats 2000000
namespace K04
open PySem PySem.Spec PyProof.Rows L2 HX WB
local macro_rules | `(tactic| walk_at "side") => `(tactic| first
  | assumption
  | rfl
  | (show (0 : Int) < _; omega)
  | (unfold CDiv; omega)
  | (unfold CMul; omega)
  | (unfold CPow; omega)
  | (rw [sizeLine_eq]; omega)
  | omega)
local macro_rules | `(tactic| walk_at "e") => `(tactic| first
  | ((with_reducible apply i_var); exact rfl)
  | (with_reducible apply i_c)
  | (with_reducible apply i_op)
  | (with_reducible apply i_un)
  | (with_reducible apply i_rI0)
  | ((with_reducible apply i_rI); (case c => walk_at "side"))
  | (with_reducible apply i_rGe)
  | (with_reducible apply i_rGt)
  | (with_reducible apply i_rU)
  | (with_reducible apply i_rEqI)
  | (with_reducible apply i_rNeI)
  | (with_reducible apply i_rEqS)
  | (with_reducible apply i_rNeS)
  | (with_reducible apply i_rEqB)
  | (with_reducible apply i_rNeB)
  | (with_reducible apply i_rIsN)
  | (with_reducible apply i_rNotN)
  | (with_reducible apply i_rInS)
  | (with_reducible apply i_rNotInS)
  | ((with_reducible apply i_catS); (case c => walk_at "side"))
  | (with_reducible apply i_tcb)
  | (with_reducible apply i_nil)
  | (with_reducible apply i_cons)
  | ((with_reducible apply i_lenS); (case c => walk_at "side"))
  | ((with_reducible apply i_lenL); assumption)
  | (with_reducible apply i_abs)
  | (with_reducible apply i_max2)
  | (with_reducible apply i_min2)
  | ((with_reducible apply i_strI); (case c => walk_at "side"))
  | (with_reducible apply i_intB)
  | (with_reducible apply i_test)
  | (with_reducible apply i_tB)
  | (with_reducible apply i_kB)
  | (with_reducible apply i_and)
  | (with_reducible apply i_or)
  | (with_reducible apply i_not)
  | (with_reducible apply i_if)
  | (with_reducible apply i_andV)
  | (with_reducible apply i_orV)
  | (with_reducible apply i_notV)
  | (with_reducible apply i_kAndV)
  | (with_reducible apply i_kOrV)
  | (with_reducible apply i_kNotV)
  | (with_reducible apply i_chain)
  | (with_reducible apply i_kChain)
  | (with_reducible apply i_drop)
  | (with_reducible apply i_ret)
  | (with_reducible apply i_retN)
  | (with_reducible apply i_ifS)
  | (with_reducible apply i_asg)
  | (with_reducible apply i_gName)
  | (with_reducible apply i_for)
  | (with_reducible apply i_lc)
  | (with_reducible apply i_iList)
  | (with_reducible apply i_iTup)
  | (with_reducible apply i_iStr)
  | (with_reducible apply i_kStrI)
  | (with_reducible apply i_lst)
  | (with_reducible apply i_tup)
  | (with_reducible apply i_call)
  | (with_reducible apply i_m1)
  | (with_reducible apply i_kStr)
  | (with_reducible apply i_bm)
  | (with_reducible apply i_bm0)
  | (with_reducible apply i_part)
  | (with_reducible apply i_kInt)
  | (with_reducible apply i_noPart)
  | (with_reducible apply i_sl)
  | (with_reducible apply i_range1)
  | (with_reducible apply i_range2)
  | ((with_reducible apply i_kRng1); (case c => walk_at "side"))
  | ((with_reducible apply i_kRng2); (case c => walk_at "side"))
  | (with_reducible apply i_gCons)
  | (with_reducible apply i_gNil)
  | (with_reducible apply i_gSub)
  | (with_reducible apply i_iZip)
  | (with_reducible apply i_yes)
  | (with_reducible apply i_ift)
  | (with_reducible apply i_iff)
  | (with_reducible apply i_nb))
local macro_rules | `(tactic| walk_at "go") => `(tactic| repeat (first | (with_reducible apply i_seq) | (with_reducible apply i_next) | walk_at "e"))
local macro_rules | `(tactic| walk_at "ge") => `(tactic| repeat walk_at "e")
local macro_rules | `(tactic| walk_at "sz") => `(tactic| first | decide | (rw [sizeLine_eq]; simp; done) | (rw [sizeLine_eq]; omega))
local macro_rules | `(tactic| walk_at "side") => `(tactic| (with_reducible exact WB.most_pos))
local macro_rules | `(tactic| walk_at "e") => `(tactic| first
  | ((with_reducible apply i_isT (b := true)); exact rfl)
  | ((with_reducible apply i_isT (b := false)); exact rfl)
  | (with_reducible apply i_fld)
  | ((with_reducible apply i_kFld); (case h => assumption); (case c1 => assumption); (case c2 => assumption); (case e => first | exact lk_number | exact lk_tail | exact lk_head | exact lk_load | exact lk_oneway | exact lk_points | exact lk_ties | exact lk_given))
  | (with_reducible apply i_sfld)
  | ((with_reducible apply i_kSFld); (case h => first | assumption | exact upd_same); (case c1 => assumption); (case c2 => assumption); (case e => exact Nat.le_of_ble_eq_true rfl))
  | (with_reducible apply i_methC)
  | (with_reducible apply i_make)
  | (with_reducible apply i_fldaug)
  | (with_reducible apply i_vals)
  | (with_reducible apply i_items)
  | (with_reducible apply i_dget)
  | (with_reducible apply i_dput)
  | (with_reducible apply i_din)
  | (with_reducible apply i_dnotin)
  | (with_reducible apply i_ddel)
  | (with_reducible apply i_dc)
  | (with_reducible apply i_enum)
  | (with_reducible apply i_ckw))
section
variable {P : Program} {w : World} {K : PySem.W.Frag} {mg : Str → Option Value} {base : Heap}
def sp_put_tie (K : PySem.W.Frag) : Sp := fun vs H Q _ => ∃ p l d w t, vs = [.ref p, .str t.t, .str t.h, .int t.c, .bl t.o] ∧ WebAt K H p l d w ∧ Wok w ∧ t.t ∈ w.ps ∧ t.h ∈ w.ps ∧ t.t ≠ t.h ∧ 0 ≤ t.c ∧ t.c ≤ most ∧ w.ts.length < 48 ∧ ∀ H', WebAt K H' p l d (w.tie t) → Keep H H' p l d → Q (.int (w.g + 1)) H'
theorem ok_Web_put_tie (T : Tx K mg) : FnOk P w K mg base CX0 4 (He.ma K (He.ga K "Web") "put_tie") T.fd_Web_put_tie ["self", "tail", "head", "load", "is_oneway"] (sp_put_tie K) := by
  refine T.F_Web_put_tie.ok sc_Web_put_tie (fun vs H Q E h => ?_) (fun cdv A outer s H vs Q E hr h => ?_)
  · obtain ⟨_, _, _, _, _, rfl, _⟩ := h
    rfl
  · obtain ⟨p, l, d, w, t, rfl, hw, ok, h1, h2, h3, h4, h5, h6, q⟩ := h
    obtain ⟨dx, ep⟩ := hw.self
    obtain ⟨kvs, ed, hd⟩ := hw.ties
    have hu := hu_of hr
    refine ⟨_, PSs.nox (pss_cons (ps_expr (pe_meth (pv 0) T.cl_Web T.m_Web_need_point (ok_Web_need_point T) (hr.mono (by decide)) T.k_Web_need_point .nil pass0 (pa_cons (pv 1) pa_nil)))
      (pss_cons (ps_expr (pe_meth (pv 0) T.cl_Web T.m_Web_need_point (ok_Web_need_point T) (hr.mono (by decide)) T.k_Web_need_point .nil pass0 (pa_cons (pv 2) pa_nil)))
      (pss_cons (ps_if (pt_cmpR op_eq (pv 1) (pv 2) (nomark _)) (pss_one ps_never) pss_nil)
      (pss_cons (ps_if (pt_not (pt_val (pe_callB call_isi (by rfl) T.b_isinstance (by decide +kernel) (pa_cons (pv 4) (pa_cons (pe_bltn (v := .ty "bool") rfl T.b_bool (by decide +kernel) rfl) pa_nil))))) (pss_one ps_never) pss_nil)
      (pss_cons (ps_expr (pe_call (ok_need_load T) (hr.mono (by decide)) (by rfl) T.g_need_load T.F_need_load.kp T.k_need_load .nil pass0 (pa_cons (pv 3) pa_nil)))
      (pss_cons (ps_if (pt_cmpR op_ge (pe_callB call_lenD (by rfl) T.b_len (by decide +kernel) (pa_cons (pe_fld (pv 0) rfl) pa_nil)) (pe_glob (v := .int 48) rfl (T.c_MOST_TIES).choose_spec ⟨_, rfl⟩) (nomark _)) (pss_one ps_never) pss_nil)
      (pss_cons (ps_fldaug (pv 0) pe_int in_add)
      (pss_cons (ps_dput hu (pe_fld (pv 0) rfl) (pe_fld (pv 0) rfl) (pe_make T.mk_Tie (ok_Tie_init T) (hr.mono (by decide)) (by rfl) T.g_Tie T.k_Tie_init .nil pass0 (pa_cons (pe_fld (pv 0) rfl) (pa_cons (pv 1) (pa_cons (pv 2) (pa_cons (pv 3) (pa_cons (pv 4) pa_nil)))))) rfl)
      (pss_one (ps_ret (pe_fld (pv 0) rfl))))))))))), ?_⟩
    have c1 := T.cl_Web
    have c3 := T.na_Web_ties
    have c4 := T.na_Web_given
    walk_at "go"
    refine i_kMethC ep rfl ?_
    walk_at "go"
    refine ⟨p, l, d, w, _, rfl, hw, h1, ok.nm _ h1, ?_⟩
    walk_at "go"
    refine i_kMethC ep rfl ?_
    walk_at "go"
    refine ⟨p, l, d, w, _, rfl, hw, h2, ok.nm _ h2, ?_⟩
    walk_at "go"
    refine i_dec (fun e => absurd e h3) (fun _ => ?_)
    walk_at "go"
    refine ⟨t.c, rfl, h4, h5, ?_⟩
    walk_at "go"
    refine ⟨d, kvs, rfl, ed, ?_⟩
    walk_at "go"
    rw [hd.len]
    refine i_dec (fun e => ?_) (fun _ => ?_)
    · omega
    walk_at "go"
    refine i_kFldAugI ep c1 c4 lk_given (Nat.le_of_ble_eq_true rfl) ?_
    rw [pf_given]
    obtain ⟨b1, b2⟩ := hw.setGiven (Same.refl H) (dx := dx) (g := w.g + 1)
    generalize upd H p (.ins (He.ga K "Web") dx (webFs l d (w.g + 1))) = H1 at b1 b2 ⊢
    obtain ⟨dx1, ep1⟩ := b1.self
    walk_at "go"
    intro a dy ha hda hne
    refine ⟨a, dy, w.g + 1, t, rfl, upd_same, rfl, ?_⟩
    rw [upd_upd]
    have s2 : Same H1 (upd (upd H1 dy (.own a)) a (.ins (He.ga K "Tie") dy (tieFs (w.g + 1) t))) := Same.mut (Same.new hda) ha
    have ta : TieAt K (upd (upd H1 dy (.own a)) a (.ins (He.ga K "Tie") dy (tieFs (w.g + 1) t))) (w.g + 1) t a := ⟨dy, upd_same⟩
    generalize upd (upd H1 dy (.own a)) a (.ins (He.ga K "Tie") dy (tieFs (w.g + 1) t)) = H2 at s2 ta ⊢
    have b3 := b1.same s2
    obtain ⟨dx2, ep2⟩ := b3.self
    obtain ⟨kvs2, ed2, hd2⟩ := b3.ties
    walk_at "go"
    have hl2 := hd2.len
    refine i_kDPutI ed2 (by rw [hl2, sizeLine_eq]; show w.ts.length < _; omega) ?_
    have hnew : ∀ z ∈ w.ts, z.1 ≠ w.g + 1 := fun z hz e => by
      have := (ok.ok z.1 z.2 hz).hi
      omega
    obtain ⟨b4, b5⟩ := b3.setTies (Same.refl H2) (put_new hd2 ta hnew)
    generalize upd H2 d (.dK (putK kvs2 (Sum.inl (w.g + 1)) (.ref a))) = H3 at b4 b5 ⊢
    obtain ⟨dx3, ep3⟩ := b4.self
    walk_at "go"
    exact q H3 b4 ((b2.trans (Keep.of s2) (.inl rfl)).trans b5 (.inl rfl))
def sp_set_load (K : PySem.W.Frag) : Sp := fun vs H Q _ => ∃ p l d w n c t, vs = [.ref p, .int n, .int c] ∧ WebAt K H p l d w ∧ Wok w ∧ tget w.ts n = some t ∧ 0 ≤ c ∧ c ≤ most ∧ ∀ H', WebAt K H' p l d (w.load n c) → Keep H H' p l d → Q .non H'
theorem ok_Web_set_load (T : Tx K mg) : FnOk P w K mg base CX0 4 (He.ma K (He.ga K "Web") "set_load") T.fd_Web_set_load ["self", "number", "load"] (sp_set_load K) := by
  refine T.F_Web_set_load.ok sc_Web_set_load (fun vs H Q E h => ?_) (fun cdv A outer s H vs Q E hr h => ?_)
  · obtain ⟨_, _, _, _, _, _, _, rfl, _⟩ := h
    rfl
  · obtain ⟨p, l, d, w, n, c, t, rfl, hw, ok, ht, h4, h5, q⟩ := h
    obtain ⟨dx, ep⟩ := hw.self
    obtain ⟨kvs, ed, hd⟩ := hw.ties
    obtain ⟨a, ea, dz, ta⟩ := hd.get ht
    have hu := hu_of hr
    refine ⟨_, PSs.nox (pss_cons (ps_expr (pe_meth (pv 0) T.cl_Web T.m_Web_need_tie (ok_Web_need_tie T) (hr.mono (by decide)) T.k_Web_need_tie .nil pass0 (pa_cons (pv 1) pa_nil)))
      (pss_cons (ps_expr (pe_call (ok_need_load T) (hr.mono (by decide)) (by rfl) T.g_need_load T.F_need_load.kp T.k_need_load .nil pass0 (pa_cons (pv 2) pa_nil)))
      (pss_cons (ps_set (i := 3) sc_Web_set_load.nd rfl (Or.inl rfl) (pe_dget hu (pe_fld (pv 0) rfl) (pv 1) (fun _ _ => rfl)))
      (pss_one (ps_dput hu (pe_fld (pv 0) rfl) (pv 1) (pe_make T.mk_Tie (ok_Tie_init T) (hr.mono (by decide)) (by rfl) T.g_Tie T.k_Tie_init .nil pass0 (pa_cons (pe_fld (pv 3) rfl) (pa_cons (pe_fld (pv 3) rfl) (pa_cons (pe_fld (pv 3) rfl) (pa_cons (pv 2) (pa_cons (pe_fld (pv 3) rfl) pa_nil)))))) rfl))))), ?_⟩
    have c1 := T.cl_Web
    have c3 := T.na_Web_ties
    have c4 := T.cl_Tie
    have c5 := T.na_Tie_number
    have c6 := T.na_Tie_tail
    have c7 := T.na_Tie_head
    have c8 := T.na_Tie_is_oneway
    walk_at "go"
    refine i_kMethC ep rfl ?_
    walk_at "go"
    refine ⟨p, l, d, w, n, t, rfl, hw, ht, ?_⟩
    walk_at "go"
    refine ⟨c, rfl, h4, h5, ?_⟩
    walk_at "go"
    refine i_kDGetI ed ea ?_
    walk_at "go"
    intro b dy ha hda hne
    refine ⟨b, dy, n, { t with c := c }, rfl, upd_same, rfl, ?_⟩
    rw [upd_upd]
    have s2 : Same H (upd (upd H dy (.own b)) b (.ins (He.ga K "Tie") dy (tieFs n { t with c := c }))) := Same.mut (Same.new hda) ha
    have tb : TieAt K (upd (upd H dy (.own b)) b (.ins (He.ga K "Tie") dy (tieFs n { t with c := c }))) n { t with c := c } b := ⟨dy, upd_same⟩
    generalize upd (upd H dy (.own b)) b (.ins (He.ga K "Tie") dy (tieFs n { t with c := c })) = H2 at s2 tb ⊢
    have b3 := hw.same s2
    obtain ⟨dx2, ep2⟩ := b3.self
    obtain ⟨kvs2, ed2, hd2⟩ := b3.ties
    walk_at "go"
    have hl2 := hd2.len
    have hl3 := ok.tl
    refine i_kDPutI ed2 (by rw [hl2, sizeLine_eq]; omega) ?_
    have hp := hd2.put tb
    rw [tput_map ok.rise ht (fun t => { t with c := c })] at hp
    obtain ⟨b4, b5⟩ := b3.setTies (Same.refl H2) hp
    exact q _ b4 ((Keep.of s2).trans b5 (.inl rfl))
def sp_rename (K : PySem.W.Frag) : Sp := fun vs H Q _ => ∃ p l d w x y, vs = [.ref p, .str x, .str y] ∧ WebAt K H p l d w ∧ Wok w ∧ x ∈ w.ps ∧ y ∉ w.ps ∧ isNm y = true ∧ ∀ H' d', (d' = d ∨ H d' = none) → WebAt K H' p l d' (w.ren x y) → Keep H H' p l d → Q .non H'
theorem ok_Web_rename (T : Tx K mg) : FnOk P w K mg base CX0 5 (He.ma K (He.ga K "Web") "rename") T.fd_Web_rename ["self", "name", "other"] (sp_rename K) := by
  refine T.F_Web_rename.ok sc_Web_rename (fun vs H Q E h => ?_) (fun cdv A outer s H vs Q E hr h => ?_)
  · obtain ⟨_, _, _, _, _, _, rfl, _⟩ := h
    rfl
  · obtain ⟨p, l, d, w, x, y, rfl, hw, ok, hx, hy, hny, q⟩ := h
    obtain ⟨dx, ep⟩ := hw.self
    have hu := hu_of hr
    refine ⟨_, PSs.nox (pss_cons (ps_expr (pe_meth (pv 0) T.cl_Web T.m_Web_need_point (ok_Web_need_point T) (hr.mono (by decide)) T.k_Web_need_point .nil pass0 (pa_cons (pv 1) pa_nil)))
      (pss_cons (ps_expr (pe_meth (pv 0) T.cl_Web T.m_Web_need_new_name (ok_Web_need_new_name T) (hr.mono (by decide)) T.k_Web_need_new_name .nil pass0 (pa_cons (pv 2) pa_nil)))
      (pss_cons (ps_asg (pv 2) (pg_sub (pe_fld (pv 0) rfl) (pe_bm PySem.F.plainAttrs_list PySem.F.slot_list_index PySem.F.type_list_index mt_index (pe_fld (pv 0) rfl) (pa_cons (pv 1) pa_nil)) set_list))
      (pss_one (ps_fld (pv 0) (pe_lock (pe_dc (own := [("number", 3), ("tie", 4)]) (by rfl) sc_Web_rename.nd (pi_items (pe_fld (pv 0) rfl)) (blkOk_by (own := [("number", 3), ("tie", 4)]) (N := N_Web_rename) (sc := defScope s_Web_rename) (by decide +kernel)) (fun _ _ _ _ _ => (pg_tupK (n := 2) K rfl rfl (pgs_cons (pg_name (i := 3) sc_Web_rename.nd rfl (Or.inl rfl)) (pgs_cons (pg_name (i := 4) sc_Web_rename.nd rfl (Or.inl rfl)) pgs_nil)))) (fun _ _ _ _ _ => pts_nil) (fun _ _ _ _ _ => (pv 3)) (fun _ _ _ _ _ => (pe_call (ok_turned T) (hr.mono (by decide)) (by rfl) T.g_turned T.F_turned.kp T.k_turned .nil pass0 (pa_cons (pv 4) (pa_cons (pv 1) (pa_cons (pv 2) pa_nil))))))) rfl))))), ?_⟩
    have c1 := T.cl_Web
    have c2 := T.na_Web_points
    have c3 := T.na_Web_ties
    walk_at "go"
    refine i_kMethC ep rfl ?_
    walk_at "go"
    refine ⟨p, l, d, w, _, rfl, hw, hx, ok.nm _ hx, ?_⟩
    walk_at "go"
    refine i_kMethC ep rfl ?_
    walk_at "go"
    refine ⟨p, l, d, w, _, rfl, hw, hy, hny, ?_⟩
    walk_at "go"
    refine i_kTyL (SqL.of hw.pts) ?_
    walk_at "go"
    refine i_indexS (SqL.of hw.pts) hx ?_
    have hlt : w.ps.idxOf x < w.ps.length := List.idxOf_lt_length_iff.mpr hx
    refine i_setL hw.pts (j := w.ps.idxOf x) (by rw [List.length_map]; exact ixN_at hlt) ?_
    rw [← List.map_set]
    obtain ⟨b1, b2⟩ := hw.setPts (Same.refl H) (ps := w.ps.set (w.ps.idxOf x) y)
    generalize upd H l (.lst ((w.ps.set (w.ps.idxOf x) y).map V.str)) = H1 at b1 b2 ⊢
    obtain ⟨dx1, ep1⟩ := b1.self
    obtain ⟨kvs, ed, hd⟩ := b1.ties
    walk_at "go"
    refine i_lockE ed trivial fun od => ?_
    have ep2 := (upd_ne b1.ne_pd (o := .frz od (.dK kvs))).trans ep1
    walk_at "go"
    refine i_kItems upd_same ?_
    intro D hD
    have nDd : D ≠ d := fun e => by rw [e, upd_same] at hD; cases hD
    refine dc_it walk_items (fun m H' => Same (upd H1 d (.frz od (.dK kvs))) H' ∧ ∃ kv2, H' D = some (.dK kv2) ∧ DP (TieAt K H') kv2 ((w.ts.take m).map fun nt => (nt.1, turn x y nt.2)))
      ⟨Same.new hD, [], upd_same, by simp; exact .nil⟩ (fun i H' _ h => h.1 _ _ upd_same) ?_ ?_
    · rintro i v H2 H3 hi ⟨s2, kv2, eD, dp⟩ ⟨T0, k, v0, rfl, hT, rfl, hk, hv⟩
      obtain ⟨kv, hkv⟩ : ∃ kv, kvs[i]? = some kv := ⟨_, List.getElem?_eq_getElem hi⟩
      obtain ⟨n, t, a, et, ekv, ta⟩ := hd.item hkv
      have hk : kvs[i]?.map (fun kv => kV kv.1) = some k := hk
      have hv : kvs[i]?.map Prod.snd = some v0 := hv
      rw [hkv] at hk hv
      cases hk; cases hv
      subst ekv
      have ta2 := ((TieAt.locked (o := od) ta ed).same s2).new (o := .tup [kV (Sum.inl n), .ref a]) hT
      walk_at "go"
      refine i_gTup (SqT.of upd_same) rfl ?_
      walk_at "go"
      refine ⟨rfl, ?_⟩
      walk_at "go"
      refine ⟨a, n, t, x, y, rfl, ta2, fun b H4 s4 tb hb => ?_⟩
      have s5 : Same H2 H4 := (Same.new hT).trans s4
      refine ⟨kv2, Sum.inl n, rfl, s5 _ _ eD, ?_, ?_⟩
      · rw [dp.len, List.length_map, List.length_take, sizeLine_eq]
        have := ok.tl
        omega
      · have f : (upd H1 d (.frz od (.dK kvs))) D = none := hD
        refine ⟨Same.mut (s2.trans s5) f, _, upd_same, ?_⟩
        rw [take_map (show w.ts[i]? = some (n, t) from et)]
        have dp4 : DP (TieAt K H4) kv2 ((w.ts.take i).map fun nt => (nt.1, turn x y nt.2)) := dp.mono fun _ _ _ r => r.same s5
        have dp5 := put_new dp4 tb (fun z hz => by
          obtain ⟨z0, hz0, rfl⟩ := List.mem_map.mp hz
          exact rise_take ok.rise et z0 hz0)
        exact dp5.mono fun _ _ _ r => r.other (r.ne (s5 _ _ eD) (fun _ _ _ _ => by simp))
    · rintro H2 ⟨s2, kv2, eD, dp⟩
      rw [hd.len, List.take_length] at dp
      obtain ⟨e2, s3⟩ := lock_same ed s2
      refine ⟨e2, ?_⟩
      have ep3 := s3 _ _ ep1
      walk_at "go"
      have dp2 : DP (TieAt K (upd H2 d (.dK kvs))) kv2 (w.ts.map fun nt => (nt.1, turn x y nt.2)) := dp.mono fun _ _ _ r => r.unlock e2
      have eD2 : (upd H2 d (.dK kvs)) D = some (.dK kv2) := (upd_ne nDd).trans eD
      obtain ⟨b4, b5⟩ := b1.swapTies (dx := dx1) s3 eD2 dp2
      refine q _ D ?_ b4 (b2.trans b5 (.inl rfl))
      rw [upd_ne nDd] at hD
      right
      cases e : H D with
      | none => rfl
      | some o =>
        by_cases n1 : D = p
        · subst n1; rw [ep1] at hD; cases hD
        · by_cases n2 : D = l
          · subst n2; rw [b1.pts] at hD; cases hD
          · rw [b2 _ _ n1 n2 nDd e] at hD; cases hD
end
end K04

set_option Elab.async false
set_option linter.all false
set_option maxRecDepth 100000
set_option maxHeartbeats 2000000
namespace K04
open PySem PySem.Spec PyProof.Rows L2 HX WB
local macro_rules | `(tactic| walk_at "side") => `(tactic| first
  | assumption
  | rfl
  | (show (0 : Int) < _; omega)
  | (unfold CDiv; omega)
  | (unfold CMul; omega)
  | (unfold CPow; omega)
  | (rw [sizeLine_eq]; omega)
  | omega)
local macro_rules | `(tactic| walk_at "e") => `(tactic| first
  | ((with_reducible apply i_var); exact rfl)
  | (with_reducible apply i_c)
  | (with_reducible apply i_op)
  | (with_reducible apply i_un)
  | (with_reducible apply i_rI0)
  | ((with_reducible apply i_rI); (case c => walk_at "side"))
  | (with_reducible apply i_rGe)
  | (with_reducible apply i_rGt)
  | (with_reducible apply i_rU)
  | (with_reducible apply i_rEqI)
  | (with_reducible apply i_rNeI)
  | (with_reducible apply i_rEqS)
  | (with_reducible apply i_rNeS)
  | (with_reducible apply i_rEqB)
  | (with_reducible apply i_rNeB)
  | (with_reducible apply i_rIsN)
  | (with_reducible apply i_rNotN)
  | (with_reducible apply i_rInS)
  | (with_reducible apply i_rNotInS)
  | ((with_reducible apply i_catS); (case c => walk_at "side"))
  | (with_reducible apply i_tcb)
  | (with_reducible apply i_nil)
  | (with_reducible apply i_cons)
  | ((with_reducible apply i_lenS); (case c => walk_at "side"))
  | ((with_reducible apply i_lenL); assumption)
  | (with_reducible apply i_abs)
  | (with_reducible apply i_max2)
  | (with_reducible apply i_min2)
  | ((with_reducible apply i_strI); (case c => walk_at "side"))
  | (with_reducible apply i_intB)
  | (with_reducible apply i_test)
  | (with_reducible apply i_tB)
  | (with_reducible apply i_kB)
  | (with_reducible apply i_and)
  | (with_reducible apply i_or)
  | (with_reducible apply i_not)
  | (with_reducible apply i_if)
  | (with_reducible apply i_andV)
  | (with_reducible apply i_orV)
  | (with_reducible apply i_notV)
  | (with_reducible apply i_kAndV)
  | (with_reducible apply i_kOrV)
  | (with_reducible apply i_kNotV)
  | (with_reducible apply i_chain)
  | (with_reducible apply i_kChain)
  | (with_reducible apply i_drop)
  | (with_reducible apply i_ret)
  | (with_reducible apply i_retN)
  | (with_reducible apply i_ifS)
  | (with_reducible apply i_asg)
  | (with_reducible apply i_gName)
  | (with_reducible apply i_for)
  | (with_reducible apply i_lc)
  | (with_reducible apply i_iList)
  | (with_reducible apply i_iTup)
  | (with_reducible apply i_iStr)
  | (with_reducible apply i_kStrI)
  | (with_reducible apply i_lst)
  | (with_reducible apply i_tup)
  | (with_reducible apply i_call)
  | (with_reducible apply i_m1)
  | (with_reducible apply i_kStr)
  | (with_reducible apply i_bm)
  | (with_reducible apply i_bm0)
  | (with_reducible apply i_part)
  | (with_reducible apply i_kInt)
  | (with_reducible apply i_noPart)
  | (with_reducible apply i_sl)
  | (with_reducible apply i_range1)
  | (with_reducible apply i_range2)
  | ((with_reducible apply i_kRng1); (case c => walk_at "side"))
  | ((with_reducible apply i_kRng2); (case c => walk_at "side"))
  | (with_reducible apply i_gCons)
  | (with_reducible apply i_gNil)
  | (with_reducible apply i_gSub)
  | (with_reducible apply i_iZip)
  | (with_reducible apply i_yes)
  | (with_reducible apply i_ift)
  | (with_reducible apply i_iff)
  | (with_reducible apply i_nb))
local macro_rules | `(tactic| walk_at "go") => `(tactic| repeat (first | (with_reducible apply i_seq) | (with_reducible apply i_next) | walk_at "e"))
local macro_rules | `(tactic| walk_at "ge") => `(tactic| repeat walk_at "e")
local macro_rules | `(tactic| walk_at "sz") => `(tactic| first | decide | (rw [sizeLine_eq]; simp; done) | (rw [sizeLine_eq]; omega))
local macro_rules | `(tactic| walk_at "side") => `(tactic| (with_reducible exact WB.most_pos))
local macro_rules | `(tactic| walk_at "e") => `(tactic| first
  | ((with_reducible apply i_isT (b := true)); exact rfl)
  | ((with_reducible apply i_isT (b := false)); exact rfl)
  | (with_reducible apply i_fld)
  | ((with_reducible apply i_kFld); (case h => assumption); (case c1 => assumption); (case c2 => assumption); (case e => first | exact lk_number | exact lk_tail | exact lk_head | exact lk_load | exact lk_oneway | exact lk_points | exact lk_ties | exact lk_given))
  | (with_reducible apply i_sfld)
  | ((with_reducible apply i_kSFld); (case h => first | assumption | exact upd_same); (case c1 => assumption); (case c2 => assumption); (case e => exact Nat.le_of_ble_eq_true rfl))
  | (with_reducible apply i_methC)
  | (with_reducible apply i_make)
  | (with_reducible apply i_fldaug)
  | (with_reducible apply i_vals)
  | (with_reducible apply i_items)
  | (with_reducible apply i_dget)
  | (with_reducible apply i_dput)
  | (with_reducible apply i_din)
  | (with_reducible apply i_dnotin)
  | (with_reducible apply i_ddel)
  | (with_reducible apply i_dc)
  | (with_reducible apply i_enum)
  | (with_reducible apply i_ckw))
section
variable {P : Program} {w : World} {K : PySem.W.Frag} {mg : Str → Option Value} {base : Heap}
/-- an address that is new behind a change of a web is new ahead of it -/
theorem free_keep {H H1 : Hp} {p l d D : Addr} {w1 : Wb} (b1 : WebAt K H1 p l d w1) (b2 : Keep H H1 p l d) (hD : H1 D = none) : H D = none := by
  cases e : H D with
  | none => rfl
  | some o =>
    obtain ⟨dx1, ep1⟩ := b1.self
    obtain ⟨kvs, ed, _⟩ := b1.ties
    by_cases n1 : D = p
    · subst n1; rw [ep1] at hD; cases hD
    · by_cases n2 : D = l
      · subst n2; rw [b1.pts] at hD; cases hD
      · by_cases n3 : D = d
        · subst n3; rw [ed] at hD; cases hD
        · rw [b2 _ _ n1 n2 n3 e] at hD; cases hD
/-- a list of new ties -/
def TiesL (K : PySem.W.Frag) (H : Hp) (as : List Addr) (ts : Ts) : Prop := Two (fun b nt => TieAt K H nt.1 nt.2 b) as ts
theorem TiesL.same {H H' : Hp} {as : List Addr} {ts : Ts} (h : TiesL K H as ts) (s : Same H H') : TiesL K H' as ts := Two.mono h fun _ _ r => r.same s
theorem TiesL.snoc {H : Hp} {as : List Addr} {ts : Ts} {a : Addr} {x : Int × Ti} (h : TiesL K H as ts) (r : TieAt K H x.1 x.2 a) : TiesL K H (as ++ [a]) (ts ++ [x]) := Two.app h (.cons r .nil)
def sp_ties (K : PySem.W.Frag) : Sp := fun vs H Q _ => ∃ p l d w, vs = [.ref p] ∧ WebAt K H p l d w ∧ w.ts.length ≤ 48 ∧ ∀ a as H', Same H H' → H a = none → H' a = some (.lst (as.map V.ref)) → TiesL K H' as w.ts → Q (.ref a) H'
theorem ok_Web_ties (T : Tx K mg) : FnOk P w K mg base CX0 4 (He.ma K (He.ga K "Web") "ties") T.fd_Web_ties ["self"] (sp_ties K) := by
  refine T.F_Web_ties.ok sc_Web_ties (fun vs H Q E h => ?_) (fun cdv A outer s H vs Q E hr h => ?_)
  · obtain ⟨_, _, _, _, rfl, _⟩ := h
    rfl
  · obtain ⟨p, l, d, w, rfl, hw, hl, q⟩ := h
    obtain ⟨dx, ep⟩ := hw.self
    obtain ⟨kvs, ed, hd⟩ := hw.ties
    have hu := hu_of hr
    refine ⟨_, PSs.nox (pss_one (ps_ret (pe_lock (pe_lc (own := [("tie", 1)]) (by rfl) sc_Web_ties.nd (pi_values (pe_fld (pv 0) rfl)) (blkOk_by (own := [("tie", 1)]) (N := N_Web_ties) (sc := defScope s_Web_ties) (by decide +kernel)) (fun _ _ _ _ _ => (pg_name (i := 1) sc_Web_ties.nd rfl (Or.inl rfl))) (fun _ _ _ _ _ => pts_nil) (fun _ _ _ _ _ => (pe_call (ok_between T) (hr.mono (by decide)) (by rfl) T.g_between T.F_between.kp T.k_between .nil pass0 (pa_cons (pv 1) (pa_cons (pe_fldK K rfl (pv 1) rfl) (pa_cons (pe_fldK K rfl (pv 1) rfl) pa_nil))))))))), ?_⟩
    have c1 := T.cl_Web
    have c3 := T.na_Web_ties
    have c4 := T.cl_Tie
    have c5 := T.na_Tie_tail
    have c6 := T.na_Tie_head
    walk_at "go"
    refine i_lockE ed trivial fun od => ?_
    have ep2 := (upd_ne hw.ne_pd (o := .frz od (.dK kvs))).trans ep
    walk_at "go"
    refine i_kVals upd_same ?_
    intro D hD
    have nDd : D ≠ d := fun e => by rw [e, upd_same] at hD; cases hD
    refine lc_it walk_values (fun m H' => Same (upd H d (.frz od (.dK kvs))) H' ∧ ∃ as, H' D = some (.lst (as.map V.ref)) ∧ TiesL K H' as (w.ts.take m))
      ⟨Same.new hD, [], upd_same, by simp; exact .nil⟩ (fun i H' _ h => h.1 _ _ upd_same) ?_ ?_
    · rintro i v H2 H3 hi ⟨s2, as, eD, dp⟩ ⟨rfl, k, hk⟩
      obtain ⟨n, t, a, et, ekv, ta⟩ := hd.item hk
      cases ekv
      have ta2 := (TieAt.locked (o := od) ta ed).same s2
      obtain ⟨dy, ta3⟩ := ta2
      walk_at "go"
      refine ⟨rfl, ?_⟩
      walk_at "go"
      refine ⟨a, n, t, t.t, t.h, rfl, ⟨dy, ta3⟩, fun b H4 s4 tb hb => ?_⟩
      have eD4 := s4 _ _ eD
      refine ⟨as.map V.ref, eD4, ?_, Same.mut (s2.trans s4) hD, as ++ [b], ?_, ?_⟩
      · have := Two.len dp
        rw [List.length_map, this, List.length_take, sizeLine_eq]; omega
      · rw [upd_same, List.map_append]; rfl
      · rw [List.take_add_one, et]
        exact Two.mono (TiesL.snoc (dp.same s4) tb) fun _ _ r => r.other (r.ne eD4 (fun _ _ _ _ => by simp))
    · rintro H2 ⟨s2, as, eD, dp⟩
      rw [hd.len, List.take_length] at dp
      obtain ⟨e2, s3⟩ := lock_same ed s2
      refine ⟨e2, ?_⟩
      walk_at "go"
      refine q D as _ s3 ?_ ((upd_ne nDd).trans eD) (Two.mono dp fun _ _ r => r.unlock e2)
      rwa [upd_ne nDd] at hD
def sp_join (K : PySem.W.Frag) : Sp := fun vs H Q _ => ∃ p l d w x y, vs = [.ref p, .str x, .str y] ∧ WebAt K H p l d w ∧ Wok w ∧ x ∈ w.ps ∧ y ∈ w.ps ∧ x ≠ y ∧ ∀ H' d', (d' = d ∨ H d' = none) → WebAt K H' p l d' (w.join x y) → Keep H H' p l d → Q .non H'
theorem ok_Web_join (T : Tx K mg) : FnOk P w K mg base CX0 5 (He.ma K (He.ga K "Web") "join") T.fd_Web_join ["self", "name", "other"] (sp_join K) := by
  refine T.F_Web_join.ok sc_Web_join (fun vs H Q E h => ?_) (fun cdv A outer s H vs Q E hr h => ?_)
  · obtain ⟨_, _, _, _, _, _, rfl, _⟩ := h
    rfl
  · obtain ⟨p, l, d, w, x, y, rfl, hw, ok, hx, hy, hne, q⟩ := h
    obtain ⟨dx, ep⟩ := hw.self
    have hu := hu_of hr
    refine ⟨_, PSs.nox (pss_cons (ps_expr (pe_meth (pv 0) T.cl_Web T.m_Web_need_point (ok_Web_need_point T) (hr.mono (by decide)) T.k_Web_need_point .nil pass0 (pa_cons (pv 1) pa_nil)))
      (pss_cons (ps_expr (pe_meth (pv 0) T.cl_Web T.m_Web_need_point (ok_Web_need_point T) (hr.mono (by decide)) T.k_Web_need_point .nil pass0 (pa_cons (pv 2) pa_nil)))
      (pss_cons (ps_if (pt_cmpR op_eq (pv 1) (pv 2) (nomark _)) (pss_one ps_never) pss_nil)
      (pss_cons (ps_expr (pe_bm PySem.F.plainAttrs_list PySem.F.slot_list_remove PySem.F.type_list_remove mt_removeS (pe_fld (pv 0) rfl) (pa_cons (pv 2) pa_nil)))
      (pss_cons (ps_lock (ps_setLc (i := 3) (own := [("tie", 4)]) (by rfl) sc_Web_join.nd rfl rfl (sw_true rfl rfl rfl (by decide +kernel)) (pi_values (pe_fld (pv 0) rfl)) (blkOk_by (own := [("tie", 4)]) (N := N_Web_join) (sc := defScope s_Web_join) (by decide +kernel)) (fun _ _ _ _ _ => (pg_name (i := 4) sc_Web_join.nd rfl (Or.inl rfl))) (fun _ _ _ _ _ => pts_nil) (fun _ _ _ _ _ => (pe_call (ok_turned T) (hr.mono (by decide)) (by rfl) T.g_turned T.F_turned.kp T.k_turned .nil pass0 (pa_cons (pv 4) (pa_cons (pv 2) (pa_cons (pv 1) pa_nil)))))))
      (pss_one (ps_fld (pv 0) (pe_dc (own := [("tie", 4)]) (by rfl) sc_Web_join.nd (pi_list (pv 3)) (blkOk_by (own := [("tie", 4)]) (N := N_Web_join) (sc := defScope s_Web_join) (by decide +kernel)) (fun _ _ _ _ _ => (pg_name (i := 4) sc_Web_join.nd rfl (Or.inl rfl))) (fun _ _ _ _ _ => (pts_one (pt_cmpR op_ne (pe_fldK K rfl (pv 4) rfl) (pe_fldK K rfl (pv 4) rfl) (nomark _)))) (fun _ _ _ _ _ => (pe_fldK K rfl (pv 4) rfl)) (fun _ _ _ _ _ => (pv 4))) rfl))))))), ?_⟩
    have c1 := T.cl_Web
    have c2 := T.na_Web_points
    have c3 := T.na_Web_ties
    have c4 := T.cl_Tie
    have c5 := T.na_Tie_tail
    have c6 := T.na_Tie_head
    have c7 := T.na_Tie_number
    walk_at "go"
    refine i_kMethC ep rfl ?_
    walk_at "go"
    refine ⟨p, l, d, w, _, rfl, hw, hx, ok.nm _ hx, ?_⟩
    walk_at "go"
    refine i_kMethC ep rfl ?_
    walk_at "go"
    refine ⟨p, l, d, w, _, rfl, hw, hy, ok.nm _ hy, ?_⟩
    walk_at "go"
    refine i_dec (fun e => absurd e hne) (fun _ => ?_)
    walk_at "go"
    refine i_kTyL (SqL.of hw.pts) ?_
    walk_at "go"
    refine i_remS hw.pts hy ?_
    obtain ⟨b1, b2⟩ := hw.setPts (Same.refl H) (ps := w.ps.erase y)
    generalize upd H l (.lst ((w.ps.erase y).map V.str)) = H1 at b1 b2 ⊢
    obtain ⟨dx1, ep1⟩ := b1.self
    obtain ⟨kvs, ed, hd⟩ := b1.ties
    have hl48 := ok.tl
    walk_at "go"
    refine i_lock ed trivial fun od => ?_
    have ep2 := (upd_ne b1.ne_pd (o := .frz od (.dK kvs))).trans ep1
    walk_at "go"
    refine i_kVals upd_same ?_
    intro D hD
    have nDd : D ≠ d := fun e => by rw [e, upd_same] at hD; cases hD
    refine lc_it walk_values (fun m H' => Same (upd H1 d (.frz od (.dK kvs))) H' ∧ ∃ as, H' D = some (.lst (as.map V.ref)) ∧ TiesL K H' as ((w.ts.take m).map fun nt => (nt.1, turn y x nt.2)))
      ⟨Same.new hD, [], upd_same, by simp; exact .nil⟩ (fun i H' _ h => h.1 _ _ upd_same) ?_ ?_
    · rintro i v H2 H3 hi ⟨s2, as, eD, dp⟩ ⟨rfl, k, hk⟩
      obtain ⟨n, t, a, et, ekv, ta⟩ := hd.item hk
      cases ekv
      have ta2 := (TieAt.locked (o := od) ta ed).same s2
      walk_at "go"
      refine ⟨rfl, ?_⟩
      walk_at "go"
      refine ⟨a, n, t, y, x, rfl, ta2, fun b H4 s4 tb hb => ?_⟩
      have eD4 := s4 _ _ eD
      refine ⟨as.map V.ref, eD4, ?_, Same.mut (s2.trans s4) hD, as ++ [b], ?_, ?_⟩
      · have := Two.len dp
        rw [List.length_map, this, List.length_map, List.length_take, sizeLine_eq]; omega
      · rw [upd_same, List.map_append]; rfl
      · rw [take_map (show w.ts[i]? = some (n, t) from et)]
        exact Two.mono (TiesL.snoc (x := (n, turn y x t)) (dp.same s4) tb) fun _ _ r => r.other (r.ne eD4 (fun _ _ _ _ => by simp))
    · rintro H2 ⟨s2, as, eD, dp⟩
      rw [hd.len, List.take_length] at dp
      obtain ⟨e2, s3⟩ := lock_same ed s2
      have hDn : H1 D = none := by rwa [upd_ne nDd] at hD
      have eD3 : (upd H2 d (.dK kvs)) D = some (.lst (as.map V.ref)) := (upd_ne nDd).trans eD
      have dp3 : TiesL K (upd H2 d (.dK kvs)) as (w.ts.map fun nt => (nt.1, turn y x nt.2)) := Two.mono dp fun _ _ r => r.unlock e2
      walk_at "go"
      refine ⟨e2, ?_⟩
      generalize upd H2 d (.dK kvs) = H3 at s3 eD3 dp3 ⊢
      have ep3 := s3 _ _ ep1
      walk_at "go"
      refine i_kListI (SqL.of eD3) ?_
      intro G hG
      have hlen := Two.len dp3
      have nGD : G ≠ D := fun e => by rw [e, eD3] at hG; cases hG
      refine dc_it walk_list (fun m H' => Same H3 H' ∧ ∃ kv2, H' G = some (.dK kv2) ∧ DP (TieAt K H') kv2 (((w.ts.take m).map fun nt => (nt.1, turn y x nt.2)).filter fun nt => decide (nt.2.t ≠ nt.2.h)))
        ⟨Same.new hG, [], upd_same, by simp; exact .nil⟩ (fun i H' _ h => SqL.of (h.1 _ _ eD3)) ?_ ?_
      · rintro i v H4 H5 hi ⟨s4, kv2, eG, dp4⟩ ⟨rfl, hv⟩
        rw [List.length_map] at hi
        rw [List.getElem?_map, List.getElem?_eq_getElem hi] at hv
        cases hv
        obtain ⟨⟨n, t⟩, et, ta⟩ := Two.get dp3 (List.getElem?_eq_getElem hi)
        obtain ⟨⟨n0, t0⟩, et0, e0⟩ := Option.map_eq_some_iff.mp ((List.getElem?_map ..).symm.trans et)
        cases e0
        obtain ⟨dy, ta4⟩ := ta.same s4
        walk_at "go"
        refine ⟨rfl, ?_⟩
        have tk := take_map (f := fun nt => (nt.1, turn y x nt.2)) (show w.ts[i]? = some (n0, t0) from et0)
        walk_at "go"
        apply i_dec
        · intro e
          walk_at "go"
          refine ⟨s4, kv2, eG, ?_⟩
          rw [tk, List.filter_append]
          have ef : ([(n0, turn y x t0)] : Ts).filter (fun nt => decide (nt.2.t ≠ nt.2.h)) = [] := by
            rw [List.filter_cons, if_neg (by simpa using e)]; rfl
          show DP _ _ (_ ++ ([(n0, turn y x t0)] : Ts).filter (fun nt => decide (nt.2.t ≠ nt.2.h)))
          rw [ef, List.append_nil]
          exact dp4
        · intro e
          walk_at "go"
          refine ⟨kv2, Sum.inl n0, rfl, eG, ?_, Same.mut s4 hG, _, upd_same, ?_⟩
          · have l1 := dp4.len
            have l2 := List.length_filter_le (fun nt : Int × Ti => decide (nt.2.t ≠ nt.2.h)) ((w.ts.take i).map fun nt => (nt.1, turn y x nt.2))
            rw [List.length_map, List.length_take] at l2
            rw [l1, sizeLine_eq]; omega
          · rw [tk, List.filter_append]
            have ef : ([(n0, turn y x t0)] : Ts).filter (fun nt => decide (nt.2.t ≠ nt.2.h)) = [(n0, turn y x t0)] := by
              rw [List.filter_cons, if_pos (by simpa using e)]; rfl
            show DP _ _ (_ ++ ([(n0, turn y x t0)] : Ts).filter (fun nt => decide (nt.2.t ≠ nt.2.h)))
            rw [ef]
            have dp5 := put_new dp4 ⟨dy, ta4⟩ (fun z hz => by
              obtain ⟨z1, hz1, rfl⟩ := List.mem_map.mp (List.mem_filter.mp hz).1
              exact rise_take ok.rise et0 z1 hz1)
            exact dp5.mono fun _ _ _ r => r.other (r.ne eG (fun _ _ _ _ => by simp))
      · rintro H4 ⟨s4, kv2, eG, dp4⟩
        have hm : (List.map V.ref as).length = w.ts.length := by rw [List.length_map, hlen, List.length_map]
        rw [hm, List.take_length] at dp4
        have ep4 := s4 _ _ ep3
        walk_at "go"
        obtain ⟨b4, b5⟩ := b1.swapTies (dx := dx1) (s3.trans s4) eG dp4
        exact q _ G (.inr (free_keep b1 b2 (s3.free hG))) b4 (b2.trans b5 (.inl rfl))
end
end K04

set_option Elab.async false
set_option linter.all false
set_option maxRecDepth 100000
set_option maxHeartbeats 2000000
namespace K04
open PySem PySem.Spec PyProof.Rows L2 HX WB
local macro_rules | `(tactic| walk_at "side") => `(tactic| first
  | assumption
  | rfl
  | (show (0 : Int) < _; omega)
  | (unfold CDiv; omega)
  | (unfold CMul; omega)
  | (unfold CPow; omega)
  | (rw [sizeLine_eq]; omega)
  | omega)
local macro_rules | `(tactic| walk_at "e") => `(tactic| first
  | ((with_reducible apply i_var); exact rfl)
  | (with_reducible apply i_c)
  | (with_reducible apply i_op)
  | (with_reducible apply i_un)
  | (with_reducible apply i_rI0)
  | ((with_reducible apply i_rI); (case c => walk_at "side"))
  | (with_reducible apply i_rGe)
  | (with_reducible apply i_rGt)
  | (with_reducible apply i_rU)
  | (with_reducible apply i_rEqI)
  | (with_reducible apply i_rNeI)
  | (with_reducible apply i_rEqS)
  | (with_reducible apply i_rNeS)
  | (with_reducible apply i_rEqB)
  | (with_reducible apply i_rNeB)
  | (with_reducible apply i_rIsN)
  | (with_reducible apply i_rNotN)
  | (with_reducible apply i_rInS)
  | (with_reducible apply i_rNotInS)
  | ((with_reducible apply i_catS); (case c => walk_at "side"))
  | (with_reducible apply i_tcb)
  | (with_reducible apply i_nil)
  | (with_reducible apply i_cons)
  | ((with_reducible apply i_lenS); (case c => walk_at "side"))
  | ((with_reducible apply i_lenL); assumption)
  | (with_reducible apply i_abs)
  | (with_reducible apply i_max2)
  | (with_reducible apply i_min2)
  | ((with_reducible apply i_strI); (case c => walk_at "side"))
  | (with_reducible apply i_intB)
  | (with_reducible apply i_test)
  | (with_reducible apply i_tB)
  | (with_reducible apply i_kB)
  | (with_reducible apply i_and)
  | (with_reducible apply i_or)
  | (with_reducible apply i_not)
  | (with_reducible apply i_if)
  | (with_reducible apply i_andV)
  | (with_reducible apply i_orV)
  | (with_reducible apply i_notV)
  | (with_reducible apply i_kAndV)
  | (with_reducible apply i_kOrV)
  | (with_reducible apply i_kNotV)
  | (with_reducible apply i_chain)
  | (with_reducible apply i_kChain)
  | (with_reducible apply i_drop)
  | (with_reducible apply i_ret)
  | (with_reducible apply i_retN)
  | (with_reducible apply i_ifS)
  | (with_reducible apply i_asg)
  | (with_reducible apply i_gName)
  | (with_reducible apply i_for)
  | (with_reducible apply i_lc)
  | (with_reducible apply i_iList)
  | (with_reducible apply i_iTup)
  | (with_reducible apply i_iStr)
  | (with_reducible apply i_kStrI)
  | (with_reducible apply i_lst)
  | (with_reducible apply i_tup)
  | (with_reducible apply i_call)
  | (with_reducible apply i_m1)
  | (with_reducible apply i_kStr)
  | (with_reducible apply i_bm)
  | (with_reducible apply i_bm0)
  | (with_reducible apply i_part)
  | (with_reducible apply i_kInt)
  | (with_reducible apply i_noPart)
  | (with_reducible apply i_sl)
  | (with_reducible apply i_range1)
  | (with_reducible apply i_range2)
  | ((with_reducible apply i_kRng1); (case c => walk_at "side"))
  | ((with_reducible apply i_kRng2); (case c => walk_at "side"))
  | (with_reducible apply i_gCons)
  | (with_reducible apply i_gNil)
  | (with_reducible apply i_gSub)
  | (with_reducible apply i_iZip)
  | (with_reducible apply i_yes)
  | (with_reducible apply i_ift)
  | (with_reducible apply i_iff)
  | (with_reducible apply i_nb))
local macro_rules | `(tactic| walk_at "go") => `(tactic| repeat (first | (with_reducible apply i_seq) | (with_reducible apply i_next) | walk_at "e"))
local macro_rules | `(tactic| walk_at "ge") => `(tactic| repeat walk_at "e")
local macro_rules | `(tactic| walk_at "sz") => `(tactic| first | decide | (rw [sizeLine_eq]; simp; done) | (rw [sizeLine_eq]; omega))
local macro_rules | `(tactic| walk_at "side") => `(tactic| (with_reducible exact WB.most_pos))
local macro_rules | `(tactic| walk_at "e") => `(tactic| first
  | ((with_reducible apply i_isT (b := true)); exact rfl)
  | ((with_reducible apply i_isT (b := false)); exact rfl)
  | (with_reducible apply i_fld)
  | ((with_reducible apply i_kFld); (case h => assumption); (case c1 => assumption); (case c2 => assumption); (case e => first | exact lk_number | exact lk_tail | exact lk_head | exact lk_load | exact lk_oneway | exact lk_points | exact lk_ties | exact lk_given))
  | (with_reducible apply i_sfld)
  | ((with_reducible apply i_kSFld); (case h => first | assumption | exact upd_same); (case c1 => assumption); (case c2 => assumption); (case e => exact Nat.le_of_ble_eq_true rfl))
  | (with_reducible apply i_methC)
  | (with_reducible apply i_make)
  | (with_reducible apply i_fldaug)
  | (with_reducible apply i_vals)
  | (with_reducible apply i_items)
  | (with_reducible apply i_dget)
  | (with_reducible apply i_dput)
  | (with_reducible apply i_din)
  | (with_reducible apply i_dnotin)
  | (with_reducible apply i_ddel)
  | (with_reducible apply i_dc)
  | (with_reducible apply i_enum)
  | (with_reducible apply i_ckw))
section
variable {P : Program} {w : World} {K : PySem.W.Frag} {mg : Str → Option Value} {base : Heap}
def sp_need_ties_at (K : PySem.W.Frag) : Sp := fun vs H Q _ => ∃ p l d w x a ns, vs = [.ref p, .str x, .ref a] ∧ WebAt K H p l d w ∧ H a = some (.lst ((ns : List Int).map V.int)) ∧ ns.Nodup ∧ ns.length ≤ 48 ∧ (∀ n ∈ ns, ∃ t, tget w.ts n = some t ∧ (t.t = x ∨ t.h = x)) ∧ ∀ H', Same H H' → Q .non H'
theorem ok_Web_need_ties_at (T : Tx K mg) : FnOk P w K mg base CX0 3 (He.ma K (He.ga K "Web") "_need_ties_at") T.fd_Web_need_ties_at ["self", "name", "numbers"] (sp_need_ties_at K) := by
  refine T.F_Web_need_ties_at.ok sc_Web_need_ties_at (fun vs H Q E h => ?_) (fun cdv A outer s H vs Q E hr h => ?_)
  · obtain ⟨_, _, _, _, _, _, _, rfl, _⟩ := h
    rfl
  · obtain ⟨p, l, d, w, x, a, ns, rfl, hw, ha, hnd, hl, hn, q⟩ := h
    have hu := hu_of hr
    refine ⟨_, PSs.nox (pss_cons (ps_if (pt_not (pt_val (pe_callB call_isi (by rfl) T.b_isinstance (by decide +kernel) (pa_cons (pv 2) (pa_cons (pe_bltn (v := .ty "list") rfl T.b_list (by decide +kernel) rfl) pa_nil))))) (pss_one ps_never) pss_nil)
      (pss_cons (ps_set (i := 3) sc_Web_need_ties_at.nd rfl (Or.inl rfl) (pe_callTy0 cr_set0 (by rfl) T.b_set (by decide +kernel)))
      (pss_one (ps_for PassesOwn.never rfl (pi_list (pv 2)) (pg_name (i := 4) sc_Web_need_ties_at.nd rfl (Or.inl rfl))
      (pss_cons (ps_expr (pe_meth (pv 0) T.cl_Web T.m_Web_need_tie (ok_Web_need_tie T) (hr.mono (by decide)) T.k_Web_need_tie .nil pass0 (pa_cons (pv 4) pa_nil)))
      (pss_cons (ps_set (i := 5) sc_Web_need_ties_at.nd rfl (Or.inl rfl) (pe_dget hu (pe_fld (pv 0) rfl) (pv 4) (fun _ _ => rfl)))
      (pss_cons (ps_if (PW.pt (pw_or (pt_cmpR op_notIn_seq (pv 1) (pe_tup (pa_cons (pe_fld (pv 5) rfl) (pa_cons (pe_fld (pv 5) rfl) pa_nil))) (by rfl)) (pw_or1 (pt_cmpR or_sin (pv 4) (pv 3) (by rfl))))) (pss_one ps_never) pss_nil)
      (pss_one (ps_expr (pe_sadd (pv 3) (pa_cons (pv 4) pa_nil))))))))))), ?_⟩
    have c1 := T.cl_Web
    have c3 := T.na_Web_ties
    have c4 := T.cl_Tie
    have c5 := T.na_Tie_tail
    have c6 := T.na_Tie_head
    walk_at "go"
    refine i_isL ha ?_
    walk_at "go"
    refine ⟨rfl, fun S hS => ?_⟩
    walk_at "go"
    have ha1 : (upd H S (SetO (cxOf CX0 P ‹World› K mg base N_Web_need_ties_at (Str.ofString "Web._need_ties_at") (defScope s_Web_need_ties_at) (He.ma K (He.ga K (Str.ofString "Web")) (Str.ofString "_need_ties_at")) cdv A outer s H E).w S (fun _ => false) 0)) a = some (.lst (ns.map V.int)) := (upd_ne (ne_of_none ha hS)).trans ha
    refine i_kListI (SqL.of ha1) ?_
    refine for_it walk_list (fun i σ H' => Same H H' ∧ (∃ g cnt, H' S = some (SetO (cxOf CX0 P ‹World› K mg base N_Web_need_ties_at (Str.ofString "Web._need_ties_at") (defScope s_Web_need_ties_at) (He.ma K (He.ga K (Str.ofString "Web")) (Str.ofString "_need_ties_at")) cdv A outer s H E).w S g cnt) ∧ (∀ j, g j = decide (j ∈ ns.take i)) ∧ cnt ≤ i) ∧ ∃ v u, σ = [some (.ref p), some (.str x), some (.ref a), some (.ref S), v, u])
      ⟨Same.new hS, ⟨_, 0, upd_same, fun j => by simp, Nat.le_refl _⟩, none, none, rfl⟩ (fun i σ H' _ h => SqL.of (h.1 _ _ ha)) ?_ ?_
    · rintro i v σ H2 H3 hi ⟨s2, ⟨g, cnt, eS, hg, hc⟩, v0, u0, rfl⟩ ⟨rfl, hv⟩
      rw [List.length_map] at hi
      rw [List.getElem?_map, List.getElem?_eq_getElem hi] at hv
      cases hv
      obtain ⟨t, ht, he⟩ := hn ns[i] (List.getElem_mem hi)
      have hw2 := hw.same s2
      obtain ⟨dx, ep⟩ := hw2.self
      obtain ⟨kvs, ed, hd⟩ := hw2.ties
      obtain ⟨b, eb, dy, tb⟩ := hd.get ht
      walk_at "go"
      refine i_kMethC ep rfl ?_
      walk_at "go"
      refine ⟨p, l, d, w, ns[i], t, rfl, hw2, ht, ?_⟩
      walk_at "go"
      refine i_kDGetI ed eb ?_
      walk_at "go"
      refine ⟨by walk_at "sz", fun p3 hp3 => ?_⟩
      refine i_inT (ys := [t.t, t.h]) (SqT.of upd_same) ?_
      have e : decide (x ∈ [t.t, t.h]) = true := by
        refine decide_eq_true ?_
        rcases he with he | he <;> simp [he]
      rw [e]
      show kB _ (.bl false) _
      walk_at "go"
      have eS3 : (upd H3 p3 (.tup [.str t.t, .str t.h])) S = some _ := (upd_ne (ne_of_none eS hp3)).trans eS
      have hni : ¬ ns[i] ∈ ns.take i := by
        intro m
        obtain ⟨k, hk, ek⟩ := List.mem_take_iff_getElem.mp m
        have := (List.getElem_inj hnd (h₀ := by omega) (h₁ := hi)).mp ek
        omega
      refine ⟨ns[i], S, g, cnt, rfl, rfl, eS3, ?_⟩
      rw [hg, decide_eq_false hni]
      walk_at "go"
      refine ⟨_, rfl, ⟨S, g, cnt, rfl, eS3⟩, ?_⟩
      walk_at "go"
      refine ⟨S, ns[i], g, cnt, rfl, rfl, eS3, by show cnt + 1 < 4096; omega, ?_⟩
      refine ⟨Same.mut (Same.mut s2 (s2.free hp3)) hS, ⟨_, _, upd_same, fun j => ?_, ?_⟩, _, _, rfl⟩
      · rw [List.take_add_one, List.getElem?_eq_getElem hi]
        show (g j || decide (j = ns[i])) = _
        rw [hg, ← Bool.decide_or]
        refine decide_eq_decide.mpr ?_
        rw [List.mem_append]
        exact Iff.intro (fun h => h.imp id (fun e => by simp [e])) (fun h => h.imp id (fun e => by simpa using e))
      · split <;> omega
    · rintro σ H2 ⟨s2, _, v0, u0, rfl⟩
      walk_at "go"
      exact q H2 s2
def sp_part (K : PySem.W.Frag) : Sp := fun vs H Q _ => ∃ p l d w x y a ns, vs = [.ref p, .str x, .str y, .ref a] ∧ WebAt K H p l d w ∧ Wok w ∧ x ∈ w.ps ∧ y ∉ w.ps ∧ isNm y = true ∧ w.ps.length < 16 ∧ H a = some (.lst ((ns : List Int).map V.int)) ∧ a ≠ l ∧ ns.Nodup ∧ ns.length ≤ 48 ∧ (∀ n ∈ ns, ∃ t, tget w.ts n = some t ∧ (t.t = x ∨ t.h = x)) ∧ ∀ H', WebAt K H' p l d (w.part x y ns) → Keep H H' p l d → Q .non H'
theorem ok_Web_part (T : Tx K mg) : FnOk P w K mg base CX0 5 (He.ma K (He.ga K "Web") "part") T.fd_Web_part ["self", "name", "other", "numbers"] (sp_part K) := by
  refine T.F_Web_part.ok sc_Web_part (fun vs H Q E h => ?_) (fun cdv A outer s H vs Q E hr h => ?_)
  · obtain ⟨_, _, _, _, _, _, _, _, rfl, _⟩ := h
    rfl
  · obtain ⟨p, l, d, w, x, y, a, ns, rfl, hw, ok, hx, hy, hny, hl16, ha, hal, hnd, hl, hn, q⟩ := h
    obtain ⟨dx, ep⟩ := hw.self
    have hu := hu_of hr
    refine ⟨_, PSs.nox (pss_cons (ps_expr (pe_meth (pv 0) T.cl_Web T.m_Web_need_point (ok_Web_need_point T) (hr.mono (by decide)) T.k_Web_need_point .nil pass0 (pa_cons (pv 1) pa_nil)))
      (pss_cons (ps_expr (pe_meth (pv 0) T.cl_Web T.m_Web_need_new_point (ok_Web_need_new_point T) (hr.mono (by decide)) T.k_Web_need_new_point .nil pass0 (pa_cons (pv 2) pa_nil)))
      (pss_cons (ps_expr (pe_meth (pv 0) T.cl_Web T.m_Web_need_ties_at (ok_Web_need_ties_at T) (hr.mono (by decide)) T.k_Web_need_ties_at .nil pass0 (pa_cons (pv 1) (pa_cons (pv 3) pa_nil))))
      (pss_cons (ps_expr (pe_bm PySem.F.plainAttrs_list PySem.F.slot_list_append PySem.F.type_list_append mt_append (pe_fld (pv 0) rfl) (pa_cons (pv 2) pa_nil)))
      (pss_one (ps_for PassesOwn.never rfl (pi_list (pv 3)) (pg_name (i := 4) sc_Web_part.nd rfl (Or.inl rfl))
      (pss_one (ps_dput hu (pe_fld (pv 0) rfl) (pv 4) (pe_call (ok_turned T) (hr.mono (by decide)) (by rfl) T.g_turned T.F_turned.kp T.k_turned .nil pass0 (pa_cons (pe_dget hu (pe_fld (pv 0) rfl) (pv 4) (fun _ _ => rfl)) (pa_cons (pv 1) (pa_cons (pv 2) pa_nil)))) rfl)))))))), ?_⟩
    have c1 := T.cl_Web
    have c2 := T.na_Web_points
    have c3 := T.na_Web_ties
    walk_at "go"
    refine i_kMethC ep rfl ?_
    walk_at "go"
    refine ⟨p, l, d, w, _, rfl, hw, hx, ok.nm _ hx, ?_⟩
    walk_at "go"
    refine i_kMethC ep rfl ?_
    walk_at "go"
    refine ⟨p, l, d, w, _, rfl, hw, hy, hny, hl16, ?_⟩
    walk_at "go"
    refine i_kMethC ep rfl ?_
    walk_at "go"
    refine ⟨p, l, d, w, x, a, ns, rfl, hw, ha, hnd, hl, hn, fun H1 s1 => ?_⟩
    have hw1 := hw.same s1
    have ha1 := s1 _ _ ha
    obtain ⟨dx1, ep1⟩ := hw1.self
    walk_at "go"
    refine i_kTyL (SqL.of hw1.pts) ?_
    walk_at "go"
    refine i_append hw1.pts ?_ (by rw [List.length_map, sizeLine_eq]; omega)
    have b := hw1.setPts (Same.refl H1) (ps := w.ps ++ [y])
    rw [List.map_append] at b
    obtain ⟨b1, b2⟩ := b
    have ha2 : (upd H1 l (.lst (w.ps.map V.str ++ [.str y]))) a = some (.lst (ns.map V.int)) := (upd_ne hal).trans ha1
    have ndp : a ≠ p := by
      rintro rfl
      rw [ep1] at ha1; cases ha1
    have ndd : a ≠ d := by
      rintro rfl
      obtain ⟨_, e, _⟩ := hw1.ties
      rw [e] at ha1; cases ha1
    walk_at "go"
    have b1' : WebAt K (upd H1 l (.lst (w.ps.map V.str ++ [.str y]))) p l d { ps := w.ps ++ [y], ts := w.ts.map fun nt => if nt.1 ∈ ns.take 0 then (nt.1, turn x y nt.2) else nt, g := w.g } := by
      have e : (w.ts.map fun nt => if nt.1 ∈ ns.take 0 then (nt.1, turn x y nt.2) else nt) = w.ts := by simp
      rw [e]; exact b1
    refine i_kListI (SqL.of ha2) ?_
    refine for_it walk_list (fun i σ H' => WebAt K H' p l d { ps := w.ps ++ [y], ts := w.ts.map fun nt => if nt.1 ∈ ns.take i then (nt.1, turn x y nt.2) else nt, g := w.g } ∧ Keep (upd H1 l (.lst (w.ps.map V.str ++ [.str y]))) H' p l d ∧ ∃ v, σ = [some (.ref p), some (.str x), some (.str y), some (.ref a), v])
      ⟨b1', Keep.rfl, none, rfl⟩ (fun i σ H' _ h => SqL.of (h.2.1 _ _ ndp hal ndd ha2)) ?_ ?_
    · rintro i v σ H2 H3 hi ⟨b3, k3, v0, rfl⟩ ⟨rfl, hv⟩
      rw [List.length_map] at hi
      rw [List.getElem?_map, List.getElem?_eq_getElem hi] at hv
      cases hv
      obtain ⟨t, ht, he⟩ := hn ns[i] (List.getElem_mem hi)
      have hni : ¬ ns[i] ∈ ns.take i := by
        intro m
        obtain ⟨k, hk, ek⟩ := List.mem_take_iff_getElem.mp m
        have := (List.getElem_inj hnd (h₀ := by omega) (h₁ := hi)).mp ek
        omega
      obtain ⟨g1, g2⟩ := part_step (x := x) (y := y) ok.rise ht hni
      obtain ⟨dx3, ep3⟩ := b3.self
      obtain ⟨kvs, ed, hd⟩ := b3.ties
      obtain ⟨b, eb, tb⟩ := hd.get g1
      walk_at "go"
      refine i_kDGetI ed eb ?_
      walk_at "go"
      refine ⟨b, ns[i], t, x, y, rfl, tb, fun b5 H4 s4 t5 hb5 => ?_⟩
      have b4 := b3.same s4
      obtain ⟨dx4, ep4⟩ := b4.self
      obtain ⟨kvs4, ed4, hd4⟩ := b4.ties
      walk_at "go"
      have hl4 := hd4.len
      have hl5 := ok.tl
      refine i_kDPutI ed4 (by rw [hl4, sizeLine_eq]; show (w.ts.map _).length < _; rw [List.length_map]; omega) ?_
      have hp := hd4.put t5
      rw [show ({ ps := w.ps ++ [y], ts := w.ts.map fun nt => if nt.1 ∈ ns.take i then (nt.1, turn x y nt.2) else nt, g := w.g } : Wb).ts = w.ts.map fun nt => if nt.1 ∈ ns.take i then (nt.1, turn x y nt.2) else nt from rfl, g2] at hp
      obtain ⟨b6, b7⟩ := b4.setTies (Same.refl H4) hp
      have et : ns.take (i + 1) = ns.take i ++ [ns[i]] := by rw [List.take_add_one, List.getElem?_eq_getElem hi]; rfl
      refine ⟨?_, (k3.trans (Keep.of s4) (.inl rfl)).trans b7 (.inl rfl), _, rfl⟩
      rw [et]
      exact b6
    · rintro σ H2 ⟨b3, k3, v0, rfl⟩
      walk_at "go"
      rw [List.length_map, List.take_length] at b3
      exact q H2 b3 (((Keep.of s1).trans b2 (.inl rfl)).trans k3 (.inl rfl))
end
end K04

set_option Elab.async false
set_option linter.all false
set_option maxRecDepth 100000
set_option maxHeartbeats 2000000
namespace K04
open PySem PySem.Spec PyProof.Rows L2 HX WB
local macro_rules | `(tactic| walk_at "side") => `(tactic| first
  | assumption
  | rfl
  | (show (0 : Int) < _; omega)
  | (unfold CDiv; omega)
  | (unfold CMul; omega)
  | (unfold CPow; omega)
  | (rw [sizeLine_eq]; omega)
  | omega)
local macro_rules | `(tactic| walk_at "e") => `(tactic| first
  | ((with_reducible apply i_var); exact rfl)
  | (with_reducible apply i_c)
  | (with_reducible apply i_op)
  | (with_reducible apply i_un)
  | (with_reducible apply i_rI0)
  | ((with_reducible apply i_rI); (case c => walk_at "side"))
  | (with_reducible apply i_rGe)
  | (with_reducible apply i_rGt)
  | (with_reducible apply i_rU)
  | (with_reducible apply i_rEqI)
  | (with_reducible apply i_rNeI)
  | (with_reducible apply i_rEqS)
  | (with_reducible apply i_rNeS)
  | (with_reducible apply i_rEqB)
  | (with_reducible apply i_rNeB)
  | (with_reducible apply i_rIsN)
  | (with_reducible apply i_rNotN)
  | (with_reducible apply i_rInS)
  | (with_reducible apply i_rNotInS)
  | ((with_reducible apply i_catS); (case c => walk_at "side"))
  | (with_reducible apply i_tcb)
  | (with_reducible apply i_nil)
  | (with_reducible apply i_cons)
  | ((with_reducible apply i_lenS); (case c => walk_at "side"))
  | ((with_reducible apply i_lenL); assumption)
  | (with_reducible apply i_abs)
  | (with_reducible apply i_max2)
  | (with_reducible apply i_min2)
  | ((with_reducible apply i_strI); (case c => walk_at "side"))
  | (with_reducible apply i_intB)
  | (with_reducible apply i_test)
  | (with_reducible apply i_tB)
  | (with_reducible apply i_kB)
  | (with_reducible apply i_and)
  | (with_reducible apply i_or)
  | (with_reducible apply i_not)
  | (with_reducible apply i_if)
  | (with_reducible apply i_andV)
  | (with_reducible apply i_orV)
  | (with_reducible apply i_notV)
  | (with_reducible apply i_kAndV)
  | (with_reducible apply i_kOrV)
  | (with_reducible apply i_kNotV)
  | (with_reducible apply i_chain)
  | (with_reducible apply i_kChain)
  | (with_reducible apply i_drop)
  | (with_reducible apply i_ret)
  | (with_reducible apply i_retN)
  | (with_reducible apply i_ifS)
  | (with_reducible apply i_asg)
  | (with_reducible apply i_gName)
  | (with_reducible apply i_for)
  | (with_reducible apply i_lc)
  | (with_reducible apply i_iList)
  | (with_reducible apply i_iTup)
  | (with_reducible apply i_iStr)
  | (with_reducible apply i_kStrI)
  | (with_reducible apply i_lst)
  | (with_reducible apply i_tup)
  | (with_reducible apply i_call)
  | (with_reducible apply i_m1)
  | (with_reducible apply i_kStr)
  | (with_reducible apply i_bm)
  | (with_reducible apply i_bm0)
  | (with_reducible apply i_part)
  | (with_reducible apply i_kInt)
  | (with_reducible apply i_noPart)
  | (with_reducible apply i_sl)
  | (with_reducible apply i_range1)
  | (with_reducible apply i_range2)
  | ((with_reducible apply i_kRng1); (case c => walk_at "side"))
  | ((with_reducible apply i_kRng2); (case c => walk_at "side"))
  | (with_reducible apply i_gCons)
  | (with_reducible apply i_gNil)
  | (with_reducible apply i_gSub)
  | (with_reducible apply i_iZip)
  | (with_reducible apply i_yes)
  | (with_reducible apply i_ift)
  | (with_reducible apply i_iff)
  | (with_reducible apply i_nb))
local macro_rules | `(tactic| walk_at "go") => `(tactic| repeat (first | (with_reducible apply i_seq) | (with_reducible apply i_next) | walk_at "e"))
local macro_rules | `(tactic| walk_at "ge") => `(tactic| repeat walk_at "e")
local macro_rules | `(tactic| walk_at "sz") => `(tactic| first | decide | (rw [sizeLine_eq]; simp; done) | (rw [sizeLine_eq]; omega))
local macro_rules | `(tactic| walk_at "side") => `(tactic| (with_reducible exact WB.most_pos))
local macro_rules | `(tactic| walk_at "e") => `(tactic| first
  | ((with_reducible apply i_isT (b := true)); exact rfl)
  | ((with_reducible apply i_isT (b := false)); exact rfl)
  | (with_reducible apply i_fld)
  | ((with_reducible apply i_kFld); (case h => assumption); (case c1 => assumption); (case c2 => assumption); (case e => first | exact lk_number | exact lk_tail | exact lk_head | exact lk_load | exact lk_oneway | exact lk_points | exact lk_ties | exact lk_given))
  | (with_reducible apply i_sfld)
  | ((with_reducible apply i_kSFld); (case h => first | assumption | exact upd_same); (case c1 => assumption); (case c2 => assumption); (case e => exact Nat.le_of_ble_eq_true rfl))
  | (with_reducible apply i_methC)
  | (with_reducible apply i_make)
  | (with_reducible apply i_fldaug)
  | (with_reducible apply i_vals)
  | (with_reducible apply i_items)
  | (with_reducible apply i_dget)
  | (with_reducible apply i_dput)
  | (with_reducible apply i_din)
  | (with_reducible apply i_dnotin)
  | (with_reducible apply i_ddel)
  | (with_reducible apply i_dc)
  | (with_reducible apply i_enum)
  | (with_reducible apply i_ckw))
section
variable {P : Program} {w : World} {K : PySem.W.Frag} {mg : Str → Option Value} {base : Heap}
def sp_draw : Sp := fun vs H Q _ => ∃ c k j : Int, vs = [.int c, .int k, .int j] ∧ 0 ≤ k ∧ k ≤ 1000 ∧ 0 ≤ j ∧ j ≤ 1000 ∧ ∀ n : Int, 0 ≤ n → n < 2147483648 → Q (.int n) H
theorem ok_law_draw (T : Tx K mg) : FnOk P w K mg base CX0 1 (He.ga K "_law_draw") T.fd_law_draw ["_law_cell", "_law_k", "_law_j"] sp_draw := by
  refine T.F_law_draw.ok sc_law_draw (fun vs H Q E h => ?_) (fun cdv A outer s H vs Q E hr h => ?_)
  · obtain ⟨_, _, _, rfl, _⟩ := h
    rfl
  · obtain ⟨c, k, j, rfl, k0, k1, j0, j1, q⟩ := h
    refine ⟨_, PSs.nox (pss_cons (ps_set (i := 3) sc_law_draw.nd rfl (Or.inl rfl) (pe_op op_add (pe_op op_mul (pe_op op_mul (pe_op op_add (pv 1) pe_int) (pe_op op_add (pv 1) pe_int)) pe_int) (pe_op op_mul (pe_op op_mul (pe_op op_add (pv 2) pe_int) (pe_op op_add (pv 2) pe_int)) pe_int)))
      (pss_one (ps_ret (pe_op op_fdiv (pe_op op_mod (pe_op op_mul (pe_op op_mod (pe_op op_add (pe_op op_mul (pe_op op_mod (pv 0) pe_int) pe_int) (pv 3)) pe_int) pe_int) pe_int) pe_int)))), ?_⟩
    walk_at "go"
    refine q _ ?_ ?_ <;> omega
def sp_loadD : Sp := fun vs H Q _ => ∃ c k j : Int, vs = [.int c, .int k, .int j] ∧ 0 ≤ k ∧ k ≤ 1000 ∧ 0 ≤ j ∧ j ≤ 1000 ∧ ∀ (n : Int) H', 0 ≤ n → n ≤ most → Same H H' → Q (.int n) H'
theorem ok_law_load (T : Tx K mg) : FnOk P w K mg base CX0 2 (He.ga K "_law_load") T.fd_law_load ["_law_cell", "_law_k", "_law_j"] sp_loadD := by
  refine T.F_law_load.ok sc_law_load (fun vs H Q E h => ?_) (fun cdv A outer s H vs Q E hr h => ?_)
  · obtain ⟨_, _, _, rfl, _⟩ := h
    rfl
  · obtain ⟨c, k, j, rfl, k0, k1, j0, j1, q⟩ := h
    refine ⟨_, PSs.nox (pss_cons (ps_set (i := 3) sc_law_load.nd rfl (Or.inl rfl) (pe_call (ok_law_draw T) (hr.mono (by decide)) (by rfl) T.g_law_draw T.F_law_draw.kp T.k_law_draw .nil pass0 (pa_cons (pv 0) (pa_cons (pv 1) (pa_cons (pv 2) pa_nil)))))
      (pss_cons (ps_set (i := 4) sc_law_load.nd rfl (Or.inl rfl) (pe_lst (pa_cons (pe_op op_mod (pe_op op_fdiv (pv 3) pe_int) pe_int) (pa_cons (pe_op op_mod (pe_op op_fdiv (pv 3) pe_int) pe_int) (pa_cons (pe_op op_mod (pe_op op_add (pv 0) (pv 3)) (pe_op op_add (pe_op op_pow pe_int pe_int) pe_int)) (pa_cons (pe_op op_sub (pe_op op_pow pe_int pe_int) (pe_op op_mod (pe_op op_fdiv (pv 3) pe_int) pe_int)) pa_nil))))))
      (pss_one (ps_ret (pe_ix ix_list (pv 4) (pe_op op_mod (pv 3) pe_int) (fun _ _ => rfl)))))), ?_⟩
    walk_at "go"
    refine ⟨c, k, j, rfl, k0, k1, j0, j1, fun n n0 n1 => ?_⟩
    walk_at "go"
    refine ⟨by walk_at "sz", fun p hp => ?_⟩
    walk_at "go"
    have em : (10 : Int) ^ (60 : Int).toNat = most := by decide +kernel
    rw [em]
    have e1 : (2000 : Int) ≤ most := by decide +kernel
    generalize most = M at e1 q ⊢
    have h1 : 0 ≤ (c + n) % (M + 1) := Int.emod_nonneg _ (by omega)
    have h2 : (c + n) % (M + 1) < M + 1 := Int.emod_lt_of_pos _ (by omega)
    have hi : n % 4 = 0 ∨ n % 4 = 1 ∨ n % 4 = 2 ∨ n % 4 = 3 := by omega
    have s1 : ∀ o, Same H (upd H p o) := fun o => Same.new hp
    rcases hi with hi | hi | hi | hi <;> rw [hi]
    · exact i_ixL (SqL.of upd_same) rfl (q _ _ (by omega) (by omega) (s1 _))
    · exact i_ixL (SqL.of upd_same) rfl (q _ _ (by omega) (by omega) (s1 _))
    · exact i_ixL (SqL.of upd_same) rfl (q _ _ h1 (by omega) (s1 _))
    · exact i_ixL (SqL.of upd_same) rfl (q _ _ (by omega) (by omega) (s1 _))
def sp_whole : Sp := fun vs H Q _ => ∃ a b : Int, vs = [.int a, .int b] ∧ Q (.bl (decide (a = b))) H
theorem ok_law_whole (T : Tx K mg) : FnOk P w K mg base CX0 1 (He.ga K "_law_whole") T.fd_law_whole ["_law_thing", "_law_due"] sp_whole := by
  refine T.F_law_whole.ok sc_law_whole (fun vs H Q E h => ?_) (fun cdv A outer s H vs Q E hr h => ?_)
  · obtain ⟨_, _, rfl, _⟩ := h
    rfl
  · obtain ⟨a, b, rfl, q⟩ := h
    refine ⟨_, PSs.nox (pss_one (ps_ret (pe_and (pe_callB call_isi (by rfl) T.b_isinstance (by decide +kernel) (pa_cons (pv 0) (pa_cons (pe_bltn (v := .ty "int") rfl T.b_int (by decide +kernel) rfl) pa_nil))) (pe_and (pe_not (pe_callB call_isi (by rfl) T.b_isinstance (by decide +kernel) (pa_cons (pv 0) (pa_cons (pe_bltn (v := .ty "bool") rfl T.b_bool (by decide +kernel) rfl) pa_nil)))) (pe_one (pe_cmpR op_eq (pv 0) (pv 1) (nomark _))))))), ?_⟩
    walk_at "go"
    exact q
/-- the law's own model -/
def TupAt (H : Hp) (n : Int) (t : Ti) (a : Addr) : Prop := H a = some (.tup [.str t.t, .str t.h, .int t.c, .bl t.o])
def modKs (nl td : Addr) (g : Int) : List (Key × V) := [(Sum.inr "names", .ref nl), (Sum.inr "ties", .ref td), (Sum.inr "given", .int g)]
structure ModAt (H : Hp) (m nl td : Addr) (w : Wb) : Prop where
  self : H m = some (.dK (modKs nl td w.g))
  pts : H nl = some (.lst (w.ps.map V.str))
  ties : ∃ kvs, H td = some (.dK kvs) ∧ DP (TupAt H) kvs w.ts
theorem md_names {nl td : Addr} {g : Int} : valV (modKs nl td g) (Sum.inr "names") = some (.ref nl) := rfl
theorem md_ties {nl td : Addr} {g : Int} : valV (modKs nl td g) (Sum.inr "ties") = some (.ref td) := rfl
theorem md_given {nl td : Addr} {g : Int} : valV (modKs nl td g) (Sum.inr "given") = some (.int g) := rfl
theorem mp_given {nl td : Addr} {g h : Int} : putK (modKs nl td g) (Sum.inr "given") (.int h) = modKs nl td h := rfl
section
variable {H H' : Hp} {m nl td a : Addr} {w : Wb} {n : Int} {t : Ti} {ts : Ts} {kvs : List (Key × V)} {g : Int} {ps : List Str}
theorem TupAt.same (h : TupAt H n t a) (s : Same H H') : TupAt H' n t a := s _ _ h
theorem TupAt.other {b : Addr} {o : HO} (h : TupAt H n t a) (hb : a ≠ b) : TupAt (upd H b o) n t a := (upd_ne hb).trans h
theorem TupAt.ne {b : Addr} {o : HO} (h : TupAt H n t a) (e : H b = some o) (c : ∀ xs, o ≠ .tup xs) : a ≠ b := by
  rintro rfl
  exact c _ (Option.some.inj (e.symm.trans h))
theorem ModAt.same (h : ModAt H m nl td w) (s : Same H H') : ModAt H' m nl td w where
  self := s _ _ h.self
  pts := s _ _ h.pts
  ties := by
    obtain ⟨kvs, e, c⟩ := h.ties
    exact ⟨kvs, s _ _ e, c.mono fun _ _ _ r => r.same s⟩
theorem ModAt.ne_mn (h : ModAt H m nl td w) : m ≠ nl := by
  rintro rfl
  have e := h.self
  rw [h.pts] at e; cases e
theorem ModAt.ne_nt (h : ModAt H m nl td w) : nl ≠ td := by
  rintro rfl
  obtain ⟨_, e, _⟩ := h.ties
  rw [h.pts] at e; cases e
theorem ModAt.ne_mt (h : ModAt H m nl td w) : m ≠ td := by
  rintro rfl
  obtain ⟨kvs, e, c⟩ := h.ties
  have e2 := h.self
  rw [e] at e2
  have e3 := c.keys
  injection e2 with e2
  injection e2 with e2
  rw [e2] at e3
  cases hts : w.ts <;> rw [hts] at e3 <;> simp [modKs] at e3
theorem ModAt.setPts (h : ModAt H m nl td w) (s : Same H H') : ModAt (upd H' nl (.lst (ps.map V.str))) m nl td { w with ps := ps } ∧ Keep H (upd H' nl (.lst (ps.map V.str))) m nl td := by
  have h2 := h.same s
  obtain ⟨kvs, e3, c⟩ := h2.ties
  exact ⟨⟨(upd_ne h2.ne_mn).trans h2.self, upd_same, ⟨kvs, (upd_ne h2.ne_nt.symm).trans e3, c.mono fun _ _ _ r => r.other (r.ne h2.pts (fun _ => by simp))⟩⟩,
    fun b o _ n _ e => (upd_ne n).trans (s _ _ e)⟩
theorem ModAt.setTies (h : ModAt H m nl td w) (s : Same H H') (c : DP (TupAt H') kvs ts) : ModAt (upd H' td (.dK kvs)) m nl td { w with ts := ts } ∧ Keep H (upd H' td (.dK kvs)) m nl td := by
  have h2 := h.same s
  obtain ⟨k2, e2, _⟩ := h2.ties
  exact ⟨⟨(upd_ne h2.ne_mt).trans h2.self, (upd_ne h2.ne_nt).trans h2.pts, ⟨kvs, upd_same, c.mono fun _ _ _ r => r.other (r.ne e2 (fun _ => by simp))⟩⟩,
    fun b o _ _ n e => (upd_ne n).trans (s _ _ e)⟩
theorem ModAt.setGiven (h : ModAt H m nl td w) (s : Same H H') : ModAt (upd H' m (.dK (modKs nl td g))) m nl td { w with g := g } ∧ Keep H (upd H' m (.dK (modKs nl td g))) m nl td := by
  have h2 := h.same s
  obtain ⟨kvs, e3, c⟩ := h2.ties
  exact ⟨⟨upd_same, (upd_ne h2.ne_mn.symm).trans h2.pts, ⟨kvs, (upd_ne h2.ne_mt.symm).trans e3, c.mono fun _ _ _ r => r.other (r.ne h2.self (fun _ => by simp))⟩⟩,
    fun b o n _ _ e => (upd_ne n).trans (s _ _ e)⟩
end
/-- a web and the model of it, side by side -/
structure Pair (K : PySem.W.Frag) (H : Hp) (p l d m nl td : Addr) (w : Wb) : Prop where
  web : WebAt K H p l d w
  mod : ModAt H m nl td w
  ok : Wok w
  ln : l ≠ nl
  dt : d ≠ td
  dm : d ≠ m
end
end K04

set_option Elab.async false
set_option linter.all false
set_option maxRecDepth 100000
set_option maxHeartbeats 2000000
namespace K04
open PySem PySem.Spec PyProof.Rows L2 HX WB
local macro_rules | `(tactic| walk_at "side") => `(tactic| first
  | assumption
  | rfl
  | (show (0 : Int) < _; omega)
  | (unfold CDiv; omega)
  | (unfold CMul; omega)
  | (unfold CPow; omega)
  | (rw [sizeLine_eq]; omega)
  | omega)
local macro_rules | `(tactic| walk_at "e") => `(tactic| first
  | ((with_reducible apply i_var); exact rfl)
  | (with_reducible apply i_c)
  | (with_reducible apply i_op)
  | (with_reducible apply i_un)
  | (with_reducible apply i_rI0)
  | ((with_reducible apply i_rI); (case c => walk_at "side"))
  | (with_reducible apply i_rGe)
  | (with_reducible apply i_rGt)
  | (with_reducible apply i_rU)
  | (with_reducible apply i_rEqI)
  | (with_reducible apply i_rNeI)
  | (with_reducible apply i_rEqS)
  | (with_reducible apply i_rNeS)
  | (with_reducible apply i_rEqB)
  | (with_reducible apply i_rNeB)
  | (with_reducible apply i_rIsN)
  | (with_reducible apply i_rNotN)
  | (with_reducible apply i_rInS)
  | (with_reducible apply i_rNotInS)
  | ((with_reducible apply i_catS); (case c => walk_at "side"))
  | (with_reducible apply i_tcb)
  | (with_reducible apply i_nil)
  | (with_reducible apply i_cons)
  | ((with_reducible apply i_lenS); (case c => walk_at "side"))
  | ((with_reducible apply i_lenL); assumption)
  | (with_reducible apply i_abs)
  | (with_reducible apply i_max2)
  | (with_reducible apply i_min2)
  | ((with_reducible apply i_strI); (case c => walk_at "side"))
  | (with_reducible apply i_intB)
  | (with_reducible apply i_test)
  | (with_reducible apply i_tB)
  | (with_reducible apply i_kB)
  | (with_reducible apply i_and)
  | (with_reducible apply i_or)
  | (with_reducible apply i_not)
  | (with_reducible apply i_if)
  | (with_reducible apply i_andV)
  | (with_reducible apply i_orV)
  | (with_reducible apply i_notV)
  | (with_reducible apply i_kAndV)
  | (with_reducible apply i_kOrV)
  | (with_reducible apply i_kNotV)
  | (with_reducible apply i_chain)
  | (with_reducible apply i_kChain)
  | (with_reducible apply i_drop)
  | (with_reducible apply i_ret)
  | (with_reducible apply i_retN)
  | (with_reducible apply i_ifS)
  | (with_reducible apply i_asg)
  | (with_reducible apply i_gName)
  | (with_reducible apply i_for)
  | (with_reducible apply i_lc)
  | (with_reducible apply i_iList)
  | (with_reducible apply i_iTup)
  | (with_reducible apply i_iStr)
  | (with_reducible apply i_kStrI)
  | (with_reducible apply i_lst)
  | (with_reducible apply i_tup)
  | (with_reducible apply i_call)
  | (with_reducible apply i_m1)
  | (with_reducible apply i_kStr)
  | (with_reducible apply i_bm)
  | (with_reducible apply i_bm0)
  | (with_reducible apply i_part)
  | (with_reducible apply i_kInt)
  | (with_reducible apply i_noPart)
  | (with_reducible apply i_sl)
  | (with_reducible apply i_range1)
  | (with_reducible apply i_range2)
  | ((with_reducible apply i_kRng1); (case c => walk_at "side"))
  | ((with_reducible apply i_kRng2); (case c => walk_at "side"))
  | (with_reducible apply i_gCons)
  | (with_reducible apply i_gNil)
  | (with_reducible apply i_gSub)
  | (with_reducible apply i_iZip)
  | (with_reducible apply i_yes)
  | (with_reducible apply i_ift)
  | (with_reducible apply i_iff)
  | (with_reducible apply i_nb))
local macro_rules | `(tactic| walk_at "go") => `(tactic| repeat (first | (with_reducible apply i_seq) | (with_reducible apply i_next) | walk_at "e"))
local macro_rules | `(tactic| walk_at "ge") => `(tactic| repeat walk_at "e")
local macro_rules | `(tactic| walk_at "sz") => `(tactic| first | decide | (rw [sizeLine_eq]; simp; done) | (rw [sizeLine_eq]; omega))
local macro_rules | `(tactic| walk_at "side") => `(tactic| (with_reducible exact WB.most_pos))
local macro_rules | `(tactic| walk_at "e") => `(tactic| first
  | ((with_reducible apply i_isT (b := true)); exact rfl)
  | ((with_reducible apply i_isT (b := false)); exact rfl)
  | (with_reducible apply i_fld)
  | ((with_reducible apply i_kFld); (case h => assumption); (case c1 => assumption); (case c2 => assumption); (case e => first | exact lk_number | exact lk_tail | exact lk_head | exact lk_load | exact lk_oneway | exact lk_points | exact lk_ties | exact lk_given))
  | (with_reducible apply i_sfld)
  | ((with_reducible apply i_kSFld); (case h => first | assumption | exact upd_same); (case c1 => assumption); (case c2 => assumption); (case e => exact Nat.le_of_ble_eq_true rfl))
  | (with_reducible apply i_methC)
  | (with_reducible apply i_make)
  | (with_reducible apply i_fldaug)
  | (with_reducible apply i_vals)
  | (with_reducible apply i_items)
  | (with_reducible apply i_dget)
  | (with_reducible apply i_dput)
  | (with_reducible apply i_din)
  | (with_reducible apply i_dnotin)
  | (with_reducible apply i_ddel)
  | (with_reducible apply i_dc)
  | (with_reducible apply i_enum)
  | (with_reducible apply i_ckw))
local macro_rules | `(tactic| walk_at "e") => `(tactic| first
  | ((with_reducible apply i_kDGetS); (case h => assumption); (case e => first | exact md_names | exact md_ties | exact md_given)))
section
variable {K : PySem.W.Frag} {H H' H2 : Hp} {p l d m nl td a : Addr} {w w2 : Wb}
theorem ModAt.beside (h : ModAt H m nl td w) (g : WebAt K H p l d w2) (c1 : l ≠ nl) (c2 : d ≠ td) (c3 : d ≠ m) (k : Keep H H' p l d) : ModAt H' m nl td w := by
  obtain ⟨dx, ep⟩ := g.self
  obtain ⟨kd, ed, _⟩ := g.ties
  obtain ⟨kvs, et, c⟩ := h.ties
  have np : ∀ b o, H b = some o → (∀ C dx fs, o ≠ .ins C dx fs) → b ≠ p := fun b o e n => by
    rintro rfl
    rw [ep] at e
    exact n _ _ _ (Option.some.inj e).symm
  have nl' : ∀ b o, H b = some o → (∀ xs, o ≠ .lst xs) → b ≠ l := fun b o e n => by
    rintro rfl
    rw [g.pts] at e
    exact n _ (Option.some.inj e).symm
  have nd : ∀ b o, H b = some o → (∀ xs, o ≠ .dK xs) → b ≠ d := fun b o e n => by
    rintro rfl
    rw [ed] at e
    exact n _ (Option.some.inj e).symm
  exact ⟨k _ _ (np _ _ h.self (by simp)) (nl' _ _ h.self (by simp)) c3.symm h.self,
    k _ _ (np _ _ h.pts (by simp)) c1.symm (nd _ _ h.pts (by simp)) h.pts,
    ⟨kvs, k _ _ (np _ _ et (by simp)) (nl' _ _ et (by simp)) c2.symm et,
      c.mono fun _ _ _ r => k _ _ (np _ _ r (by simp)) (nl' _ _ r (by simp)) (nd _ _ r (by simp)) r⟩⟩
theorem most0 : (0 : Int) ≤ most := by decide +kernel
theorem _root_.WB.WebAt.besideM (h : WebAt K H p l d w) (g : ModAt H m nl td w2) (c1 : l ≠ nl) (c2 : d ≠ td) (c3 : d ≠ m) (k : Keep H H' m nl td) : WebAt K H' p l d w := by
  obtain ⟨dx, ep⟩ := h.self
  obtain ⟨kd, ed, c⟩ := h.ties
  obtain ⟨kvs, et, _⟩ := g.ties
  have nm : ∀ b o, H b = some o → (∀ xs, o ≠ .dK xs) → b ≠ m := fun b o e n => by
    rintro rfl
    rw [g.self] at e
    exact n _ (Option.some.inj e).symm
  have nl' : ∀ b o, H b = some o → (∀ xs, o ≠ .lst xs) → b ≠ nl := fun b o e n => by
    rintro rfl
    rw [g.pts] at e
    exact n _ (Option.some.inj e).symm
  have nt : ∀ b o, H b = some o → (∀ xs, o ≠ .dK xs) → b ≠ td := fun b o e n => by
    rintro rfl
    rw [et] at e
    exact n _ (Option.some.inj e).symm
  exact ⟨⟨dx, k _ _ (nm _ _ ep (by simp)) (nl' _ _ ep (by simp)) (nt _ _ ep (by simp)) ep⟩,
    k _ _ (nm _ _ h.pts (by simp)) c1 (nt _ _ h.pts (by simp)) h.pts,
    ⟨kd, k _ _ c3 (nl' _ _ ed (by simp)) c2 ed, c.mono fun n t a r => by
      obtain ⟨dy, r⟩ := r
      exact ⟨dy, k _ _ (nm _ _ r (by simp)) (nl' _ _ r (by simp)) (nt _ _ r (by simp)) r⟩⟩⟩
/-- all but some addresses stay -/
def Kp (H H' : Hp) (S : List Addr) : Prop := ∀ b o, b ∉ S → H b = some o → H' b = some o
theorem Kp.web {S : List Addr} (k : Keep H H' p l d) (h : p ∈ S ∧ l ∈ S ∧ d ∈ S) : Kp H H' S := fun b o hb e =>
  k b o (fun c => hb (c ▸ h.1)) (fun c => hb (c ▸ h.2.1)) (fun c => hb (c ▸ h.2.2)) e
theorem Kp.same {S : List Addr} (s : Same H H') : Kp H H' S := fun b o _ e => s b o e
theorem Kp.trans {S : List Addr} (k : Kp H H' S) (k2 : Kp H' H2 S) : Kp H H2 S := fun b o hb e => k2 b o hb (k b o hb e)
theorem pick {α : Type} {xs : List α} {i : Int} (f : α → V) (h0 : 0 ≤ i) (h1 : i < (xs.length : Int)) : ∃ s, xs[i.toNat]? = some s ∧ s ∈ xs ∧ atI (xs.map f) i = some (f s) := by
  obtain ⟨j, rfl⟩ := Int.eq_ofNat_of_zero_le h0
  have hj : j < xs.length := by omega
  exact ⟨xs[j], by simp [hj], List.getElem_mem hj, atI_nat (by rw [List.getElem?_map, List.getElem?_eq_getElem hj]; rfl)⟩
theorem nd_idx {α : Type} {xs : List α} (h : xs.Nodup) {i j : Nat} {x : α} (e1 : xs[i]? = some x) (e2 : xs[j]? = some x) : i = j := by
  obtain ⟨h1, g1⟩ := List.getElem?_eq_some_iff.mp e1
  obtain ⟨h2, g2⟩ := List.getElem?_eq_some_iff.mp e2
  exact (List.getElem_inj h (h₀ := h1) (h₁ := h2)).mp (g1.trans g2.symm)
/-- two places that differ -/
theorem off_ne {n L : Int} (hn : 0 ≤ n) (hL : 2 ≤ L) : 0 ≤ n % L ∧ n % L < L ∧ 0 ≤ (n + 1 + n / 16 % (L - 1)) % L ∧ (n + 1 + n / 16 % (L - 1)) % L < L ∧ (n + 1 + n / 16 % (L - 1)) % L ≠ n % L := by
  have r0 : 0 ≤ n / 16 % (L - 1) := Int.emod_nonneg _ (by omega)
  have r1 : n / 16 % (L - 1) < L - 1 := Int.emod_lt_of_pos _ (by omega)
  refine ⟨Int.emod_nonneg _ (by omega), Int.emod_lt_of_pos _ (by omega), Int.emod_nonneg _ (by omega), Int.emod_lt_of_pos _ (by omega), fun e => ?_⟩
  generalize n / 16 % (L - 1) = r at *
  have h1 : (n + 1 + r) % L = (n % L + (1 + r)) % L := by
    rw [Int.emod_add_emod, Int.add_assoc]
  rw [h1] at e
  have h2 : 0 ≤ n % L := Int.emod_nonneg _ (by omega)
  have h3 : n % L < L := Int.emod_lt_of_pos _ (by omega)
  generalize n % L = q at *
  by_cases hq : q + (1 + r) < L
  · rw [Int.emod_eq_of_lt (by omega) hq] at e; omega
  · have : (q + (1 + r)) % L = q + (1 + r) - L := by
      rw [← Int.sub_emod_right, Int.emod_eq_of_lt (by omega) (by omega)]
    omega
end
section
variable {P : Program} {w : World} {K : PySem.W.Frag} {mg : Str → Option Value} {base : Heap}
/-- behind a deed -/
def DQ (K : PySem.W.Frag) (H : Hp) (p l d m nl td : Addr) (w : Wb) (Q : VK) : Prop := ∀ H' d' w', (d' = d ∨ H d' = none) → Pair K H' p l d' m nl td w' → w'.g ≤ w.g + 1 → Kp H H' [p, l, d, m, nl, td] → Q (.bl true) H'
def sp_lput (K : PySem.W.Frag) : Sp := fun vs H Q _ => ∃ p l d m nl td w c k, vs = [.ref p, .ref m, .int c, .int k] ∧ Pair K H p l d m nl td w ∧ 0 ≤ k ∧ k ≤ 1000 ∧ 2 ≤ w.ps.length ∧ w.ts.length < 48 ∧ ∀ H' t, Pair K H' p l d m nl td (w.tie t) → Kp H H' [p, l, d, m, nl, td] → Q (.bl true) H'
set_option maxHeartbeats 8000000 in
theorem ok_law_put_tie (T : Tx K mg) : FnOk P w K mg base CX0 5 (He.ga K "_law_put_tie") T.fd_law_put_tie ["_law_web", "_law_model", "_law_cell", "_law_k"] (sp_lput K) := by
  refine T.F_law_put_tie.ok sc_law_put_tie (fun vs H Q E h => ?_) (fun cdv A outer s H vs Q E hr h => ?_)
  · obtain ⟨_, _, _, _, _, _, _, _, _, rfl, _⟩ := h
    rfl
  · obtain ⟨p, l, d, m, nl, td, w, c, k, rfl, hp, k0, k1, l2, l48, q⟩ := h
    have hu := hu_of hr
    refine ⟨_, PSs.nox (pss_cons (ps_set (i := 4) sc_law_put_tie.nd rfl (Or.inl rfl) (pe_dget hu (pv 1) pe_str (fun _ _ => rfl)))
      (pss_cons (ps_set (i := 5) sc_law_put_tie.nd rfl (Or.inl rfl) (pe_call (ok_law_draw T) (hr.mono (by decide)) (by rfl) T.g_law_draw T.F_law_draw.kp T.k_law_draw .nil pass0 (pa_cons (pv 2) (pa_cons (pv 3) (pa_cons pe_int pa_nil)))))
      (pss_cons (ps_set (i := 6) sc_law_put_tie.nd rfl (Or.inl rfl) (pe_ix ix_list (pv 4) (pe_op op_mod (pv 5) (pe_callB x_lenL (by rfl) T.b_len (by decide +kernel) (pa_cons (pv 4) pa_nil))) (fun _ _ => rfl)))
      (pss_cons (ps_set (i := 7) sc_law_put_tie.nd rfl (Or.inl rfl) (pe_ix ix_list (pv 4) (pe_op op_mod (pe_op op_add (pe_op op_add (pv 5) pe_int) (pe_op op_mod (pe_op op_fdiv (pv 5) pe_int) (pe_op op_sub (pe_callB x_lenL (by rfl) T.b_len (by decide +kernel) (pa_cons (pv 4) pa_nil)) pe_int))) (pe_callB x_lenL (by rfl) T.b_len (by decide +kernel) (pa_cons (pv 4) pa_nil))) (fun _ _ => rfl)))
      (pss_cons (ps_set (i := 8) sc_law_put_tie.nd rfl (Or.inl rfl) (pe_call (ok_law_load T) (hr.mono (by decide)) (by rfl) T.g_law_load T.F_law_load.kp T.k_law_load .nil pass0 (pa_cons (pv 2) (pa_cons (pv 3) (pa_cons pe_int pa_nil)))))
      (pss_cons (ps_set (i := 9) sc_law_put_tie.nd rfl (Or.inl rfl) (pe_cmpR op_eq (pe_op op_mod (pe_op op_fdiv (pv 5) pe_int) pe_int) pe_int (nomark _)))
      (C8.pss_cut (ps_if (pt_cmpR op_eq (pe_op op_mod (pe_op op_fdiv (pv 5) pe_int) pe_int) pe_int (nomark _)) (pss_cons (ps_asg (pe_tup (pa_cons pe_int (pa_cons pe_bl pa_nil))) (pg_tup rfl (pgs_cons (pg_name (i := 8) sc_law_put_tie.nd rfl (Or.inl rfl)) (pgs_cons (pg_name (i := 9) sc_law_put_tie.nd rfl (Or.inl rfl)) pgs_nil))))
      (pss_one (ps_set (i := 10) sc_law_put_tie.nd rfl (Or.inl rfl) (pe_meth (pv 0) T.cl_Web T.m_Web_put_tie (ok_Web_put_tie T) (hr.mono (by decide)) (T.k_Web_put_tie_0).choose_spec.2 (T.k_Web_put_tie_0).choose_spec.1 pass0 (pa_cons (pv 6) (pa_cons (pv 7) pa_nil)))))) (pss_one (ps_if (pt_cmpR op_eq (pe_op op_mod (pe_op op_fdiv (pv 5) pe_int) pe_int) pe_int (nomark _)) (pss_cons (ps_set (i := 9) sc_law_put_tie.nd rfl (Or.inl rfl) pe_bl)
      (pss_one (ps_set (i := 10) sc_law_put_tie.nd rfl (Or.inl rfl) (pe_meth (pv 0) T.cl_Web T.m_Web_put_tie (ok_Web_put_tie T) (hr.mono (by decide)) (T.k_Web_put_tie_1).choose_spec.2 (T.k_Web_put_tie_1).choose_spec.1 pass0 (pa_cons (pv 6) (pa_cons (pv 7) (pa_cons (pv 8) pa_nil))))))) (pss_one (ps_set (i := 10) sc_law_put_tie.nd rfl (Or.inl rfl) (pe_meth (pv 0) T.cl_Web T.m_Web_put_tie (ok_Web_put_tie T) (hr.mono (by decide)) (T.k_Web_put_tie_2).choose_spec.2 (T.k_Web_put_tie_2).choose_spec.1 pass0 (pa_cons (pv 6) (pa_cons (pv 7) (pa_cons (pv 8) (pa_cons (pv 9) pa_nil))))))))))
      (pss_cons (ps_dput hu (pv 1) pe_str (pe_op op_add (pe_dget hu (pv 1) pe_str (fun _ _ => rfl)) pe_int) rfl)
      (pss_cons (ps_dput hu (pe_dget hu (pv 1) pe_str (fun _ _ => rfl)) (pe_dget hu (pv 1) pe_str (fun _ _ => rfl)) (pe_tup (pa_cons (pv 6) (pa_cons (pv 7) (pa_cons (pv 8) (pa_cons (pv 9) pa_nil))))) rfl)
      (pss_one (ps_ret (pe_call (ok_law_whole T) (hr.mono (by decide)) (by rfl) T.g_law_whole T.F_law_whole.kp T.k_law_whole .nil pass0 (pa_cons (pv 10) (pa_cons (pe_dget hu (pv 1) pe_str (fun _ _ => rfl)) pa_nil)))))))))))))), ?_⟩
    have em := hp.mod.self
    have en := hp.mod.pts
    walk_at "go"
    refine ⟨c, k, 2, rfl, k0, k1, by decide, by decide, fun n n0 n1 => ?_⟩
    walk_at "go"
    refine i_lenL (SqL.of en) ?_
    rw [List.length_map]
    obtain ⟨g1, g2, g3, g4, g5⟩ := off_ne (L := (w.ps.length : Int)) n0 (by omega)
    refine i_rI ?_ (by omega)
    obtain ⟨x, hx1, hx2, hx3⟩ := pick V.str g1 g2
    refine i_ixL (SqL.of en) hx3 ?_
    walk_at "go"
    refine i_lenL (SqL.of en) ?_
    rw [List.length_map]
    walk_at "go"
    refine i_lenL (SqL.of en) ?_
    rw [List.length_map]
    refine i_rI ?_ (by omega)
    obtain ⟨y, hy1, hy2, hy3⟩ := pick V.str g3 g4
    refine i_ixL (SqL.of en) hy3 ?_
    have hxy : x ≠ y := by
      rintro rfl
      have := nd_idx hp.ok.nd hx1 hy1
      omega
    walk_at "go"
    refine ⟨c, k, 3, rfl, k0, k1, by decide, by decide, fun c2 H1 z0 z1 s1 => ?_⟩
    walk_at "go"
    refine ⟨fun σ' H' => ∃ (c3 : Int) (o : Bool), σ' = [some (.ref p), some (.ref m), some (.int c), some (.int k), some (.ref nl), some (.int n), some (.str x), some (.str y), some (.int c3), some (.bl o), some (.int (w.g + 1))] ∧ 0 ≤ c3 ∧ c3 ≤ most ∧ WebAt K H' p l d (w.tie ⟨x, y, c3, o⟩) ∧ ModAt H' m nl td w ∧ Kp H H' [p, l, d, m, nl, td], ?_, ?_⟩
    · have hw1 := hp.web.same s1
      have hm1 := hp.mod.same s1
      obtain ⟨dx, ep⟩ := hw1.self
      have fin : ∀ H3 c3 o, Same H1 H3 → ∀ H4, WebAt K H4 p l d (w.tie ⟨x, y, c3, o⟩) → Keep H3 H4 p l d → WebAt K H4 p l d (w.tie ⟨x, y, c3, o⟩) ∧ ModAt H4 m nl td w ∧ Kp H H4 [p, l, d, m, nl, td] := fun H3 c3 o s3 H4 a1 a2 =>
        ⟨a1, (hm1.same s3).beside (hw1.same s3) hp.ln hp.dt hp.dm a2, (Kp.same (s1.trans s3)).trans (Kp.web a2 (by simp))⟩
      walk_at "go"
      refine i_dec (fun _ => ?_) (fun _ => ?_)
      · walk_at "go"
        refine ⟨by walk_at "sz", fun p3 hp3 => ?_⟩
        walk_at "go"
        refine i_gTup (SqT.of upd_same) rfl ?_
        walk_at "go"
        have s3 : Same H1 (upd H1 p3 (.tup [.int 0, .bl false])) := Same.new hp3
        refine i_kMethC (s3 _ _ ep) rfl ?_
        walk_at "go"
        refine ⟨p, l, d, w, ⟨x, y, 0, false⟩, rfl, hw1.same s3, hp.ok, hx2, hy2, hxy, Int.le_refl 0, most0, l48, fun H4 a1 a2 => ?_⟩
        exact ⟨0, false, rfl, Int.le_refl 0, most0, fin _ _ _ s3 H4 a1 a2⟩
      · walk_at "go"
        refine i_dec (fun _ => ?_) (fun _ => ?_)
        · walk_at "go"
          refine i_kMethC ep rfl ?_
          walk_at "go"
          refine ⟨p, l, d, w, ⟨x, y, c2, false⟩, rfl, hw1, hp.ok, hx2, hy2, hxy, z0, z1, l48, fun H4 a1 a2 => ?_⟩
          exact ⟨c2, false, rfl, z0, z1, fin _ _ _ (Same.refl _) H4 a1 a2⟩
        · walk_at "go"
          refine i_kMethC ep rfl ?_
          walk_at "go"
          refine ⟨p, l, d, w, ⟨x, y, c2, decide (n / 300 % 2 = 1)⟩, rfl, hw1, hp.ok, hx2, hy2, hxy, z0, z1, l48, fun H4 a1 a2 => ?_⟩
          exact ⟨c2, _, rfl, z0, z1, fin _ _ _ (Same.refl _) H4 a1 a2⟩
    · rintro σ H2 ⟨c3, o, rfl, y0, y1, hw2, hm2, kp⟩
      have em2 := hm2.self
      walk_at "go"
      refine i_kDPutS em2 (by show 3 < _; walk_at "sz") ?_
      rw [mp_given]
      obtain ⟨b1, b2⟩ := hm2.setGiven (Same.refl H2) (g := w.g + 1)
      have hw3 := hw2.besideM hm2 hp.ln hp.dt hp.dm b2
      generalize upd H2 m (.dK (modKs nl td (w.g + 1))) = H3 at b1 b2 hw3 ⊢
      walk_at "go"
      refine ⟨by walk_at "sz", fun p4 hp4 => ?_⟩
      have b3 := b1.same (Same.new hp4 (o := .tup [.str x, .str y, .int c3, .bl o]))
      have hw4 := hw3.same (Same.new hp4 (o := .tup [.str x, .str y, .int c3, .bl o]))
      have tt : TupAt (upd H3 p4 (.tup [.str x, .str y, .int c3, .bl o])) (w.g + 1) ⟨x, y, c3, o⟩ p4 := upd_same
      have k4 : Same H3 (upd H3 p4 (.tup [.str x, .str y, .int c3, .bl o])) := Same.new hp4
      generalize upd H3 p4 (.tup [.str x, .str y, .int c3, .bl o]) = H4 at b3 hw4 tt k4 ⊢
      have em4 := b3.self
      obtain ⟨kvs, et, hd⟩ := b3.ties
      walk_at "go"
      have hl := hd.len
      refine i_kDPutI et (by rw [hl, sizeLine_eq]; show w.ts.length < _; omega) ?_
      have hnew : ∀ z ∈ w.ts, z.1 ≠ w.g + 1 := fun z hz e => by
        have := (hp.ok.ok z.1 z.2 hz).hi
        omega
      obtain ⟨b5, b6⟩ := b3.setTies (Same.refl H4) (put_new hd tt hnew)
      have hw5 := hw4.besideM b3 hp.ln hp.dt hp.dm b6
      generalize upd H4 td (.dK (putK kvs (Sum.inl (w.g + 1)) (.ref p4))) = H5 at b5 b6 hw5 ⊢
      have em5 := b5.self
      walk_at "go"
      refine ⟨w.g + 1, w.g + 1, rfl, ?_⟩
      rw [decide_eq_true rfl]
      exact q H5 ⟨x, y, c3, o⟩ ⟨hw5, b5, hp.ok.tie hx2 hy2 hxy y0 y1 l48, hp.ln, hp.dt, hp.dm⟩ (((kp.trans (Kp.web b2 (by simp))).trans (Kp.same k4)).trans (Kp.web b6 (by simp)))
end
end K04

set_option Elab.async false
set_option linter.all false
set_option maxRecDepth 100000
set_option maxHeartbeats 4000000
namespace K04
open PySem PySem.Spec PyProof.Rows L2 HX WB
local macro_rules | `(tactic| walk_at "side") => `(tactic| first
  | assumption
  | rfl
  | (show (0 : Int) < _; omega)
  | (unfold CDiv; omega)
  | (unfold CMul; omega)
  | (unfold CPow; omega)
  | (rw [sizeLine_eq]; omega)
  | omega)
local macro_rules | `(tactic| walk_at "e") => `(tactic| first
  | ((with_reducible apply i_var); exact rfl)
  | (with_reducible apply i_c)
  | (with_reducible apply i_op)
  | (with_reducible apply i_un)
  | (with_reducible apply i_rI0)
  | ((with_reducible apply i_rI); (case c => walk_at "side"))
  | (with_reducible apply i_rGe)
  | (with_reducible apply i_rGt)
  | (with_reducible apply i_rU)
  | (with_reducible apply i_rEqI)
  | (with_reducible apply i_rNeI)
  | (with_reducible apply i_rEqS)
  | (with_reducible apply i_rNeS)
  | (with_reducible apply i_rEqB)
  | (with_reducible apply i_rNeB)
  | (with_reducible apply i_rIsN)
  | (with_reducible apply i_rNotN)
  | (with_reducible apply i_rInS)
  | (with_reducible apply i_rNotInS)
  | ((with_reducible apply i_catS); (case c => walk_at "side"))
  | (with_reducible apply i_tcb)
  | (with_reducible apply i_nil)
  | (with_reducible apply i_cons)
  | ((with_reducible apply i_lenS); (case c => walk_at "side"))
  | ((with_reducible apply i_lenL); assumption)
  | (with_reducible apply i_abs)
  | (with_reducible apply i_max2)
  | (with_reducible apply i_min2)
  | ((with_reducible apply i_strI); (case c => walk_at "side"))
  | (with_reducible apply i_intB)
  | (with_reducible apply i_test)
  | (with_reducible apply i_tB)
  | (with_reducible apply i_kB)
  | (with_reducible apply i_and)
  | (with_reducible apply i_or)
  | (with_reducible apply i_not)
  | (with_reducible apply i_if)
  | (with_reducible apply i_andV)
  | (with_reducible apply i_orV)
  | (with_reducible apply i_notV)
  | (with_reducible apply i_kAndV)
  | (with_reducible apply i_kOrV)
  | (with_reducible apply i_kNotV)
  | (with_reducible apply i_chain)
  | (with_reducible apply i_kChain)
  | (with_reducible apply i_drop)
  | (with_reducible apply i_ret)
  | (with_reducible apply i_retN)
  | (with_reducible apply i_ifS)
  | (with_reducible apply i_asg)
  | (with_reducible apply i_gName)
  | (with_reducible apply i_for)
  | (with_reducible apply i_lc)
  | (with_reducible apply i_iList)
  | (with_reducible apply i_iTup)
  | (with_reducible apply i_iStr)
  | (with_reducible apply i_kStrI)
  | (with_reducible apply i_lst)
  | (with_reducible apply i_tup)
  | (with_reducible apply i_call)
  | (with_reducible apply i_m1)
  | (with_reducible apply i_kStr)
  | (with_reducible apply i_bm)
  | (with_reducible apply i_bm0)
  | (with_reducible apply i_part)
  | (with_reducible apply i_kInt)
  | (with_reducible apply i_noPart)
  | (with_reducible apply i_sl)
  | (with_reducible apply i_range1)
  | (with_reducible apply i_range2)
  | ((with_reducible apply i_kRng1); (case c => walk_at "side"))
  | ((with_reducible apply i_kRng2); (case c => walk_at "side"))
  | (with_reducible apply i_gCons)
  | (with_reducible apply i_gNil)
  | (with_reducible apply i_gSub)
  | (with_reducible apply i_iZip)
  | (with_reducible apply i_yes)
  | (with_reducible apply i_ift)
  | (with_reducible apply i_iff)
  | (with_reducible apply i_nb))
local macro_rules | `(tactic| walk_at "go") => `(tactic| repeat (first | (with_reducible apply i_seq) | (with_reducible apply i_next) | walk_at "e"))
local macro_rules | `(tactic| walk_at "ge") => `(tactic| repeat walk_at "e")
local macro_rules | `(tactic| walk_at "sz") => `(tactic| first | decide | (rw [sizeLine_eq]; simp; done) | (rw [sizeLine_eq]; omega))
local macro_rules | `(tactic| walk_at "side") => `(tactic| (with_reducible exact WB.most_pos))
local macro_rules | `(tactic| walk_at "e") => `(tactic| first
  | ((with_reducible apply i_isT (b := true)); exact rfl)
  | ((with_reducible apply i_isT (b := false)); exact rfl)
  | (with_reducible apply i_fld)
  | ((with_reducible apply i_kFld); (case h => assumption); (case c1 => assumption); (case c2 => assumption); (case e => first | exact lk_number | exact lk_tail | exact lk_head | exact lk_load | exact lk_oneway | exact lk_points | exact lk_ties | exact lk_given))
  | (with_reducible apply i_sfld)
  | ((with_reducible apply i_kSFld); (case h => first | assumption | exact upd_same); (case c1 => assumption); (case c2 => assumption); (case e => exact Nat.le_of_ble_eq_true rfl))
  | (with_reducible apply i_methC)
  | (with_reducible apply i_make)
  | (with_reducible apply i_fldaug)
  | (with_reducible apply i_vals)
  | (with_reducible apply i_items)
  | (with_reducible apply i_dget)
  | (with_reducible apply i_dput)
  | (with_reducible apply i_din)
  | (with_reducible apply i_dnotin)
  | (with_reducible apply i_ddel)
  | (with_reducible apply i_dc)
  | (with_reducible apply i_enum)
  | (with_reducible apply i_ckw))
local macro_rules | `(tactic| walk_at "e") => `(tactic| first
  | ((with_reducible apply i_kDGetS); (case h => assumption); (case e => first | exact md_names | exact md_ties | exact md_given)))
def nums (ts : Ts) : List Int := ts.map (·.1)
theorem i_sorted {H : Hp} {a : Addr} {kvs : List (Key × V)} {R : Int → Ti → Addr → Prop} {ts : Ts} {Q : VK} (h : H a = some (.dK kvs)) (dp : DP R kvs ts) (hs : Rise ts) (l : ts.length < 64) (q : ∀ p, H p = none → Q (.ref p) (upd H p (.lst ((nums ts).map V.int)))) : xSortedD [.ref a] H Q := by
  refine ⟨a, kvs, nums ts, rfl, .inl h, dp.keys, by unfold nums; rw [List.length_map]; exact l, fun ys p hp hsrt hf => ?_⟩
  have e : ys = nums ts := List.Perm.eq_of_pairwise (fun a b _ _ h1 h2 => by omega) hsrt ((List.pairwise_map.mpr hs).imp (fun h => Int.le_of_lt h)) hp
  rw [e]
  exact q p hf
theorem nums_get {ts : Ts} {i : Nat} {n : Int} (h : (nums ts)[i]? = some n) : ∃ t, ts[i]? = some (n, t) := by
  unfold nums at h
  rw [List.getElem?_map] at h
  obtain ⟨⟨m, t⟩, e1, e2⟩ := Option.map_eq_some_iff.mp h
  cases e2
  exact ⟨t, e1⟩
theorem nums_mem {ts : Ts} {n : Int} (h : n ∈ nums ts) : ∃ t, (n, t) ∈ ts := by
  obtain ⟨⟨m, t⟩, e1, e2⟩ := List.mem_map.mp h
  cases e2
  exact ⟨t, e1⟩
theorem nums_nd {ts : Ts} (hs : Rise ts) : (nums ts).Nodup := (List.pairwise_map.mpr hs).imp (fun h e => by omega)
section
variable {P : Program} {w : World} {K : PySem.W.Frag} {mg : Str → Option Value} {base : Heap}
def sp_tie_changed (K : PySem.W.Frag) : Sp := fun vs H Q _ => ∃ p l d m nl td w c k g, vs = [.ref p, .ref m, .int c, .int k, .bl g] ∧ Pair K H p l d m nl td w ∧ 0 ≤ k ∧ k ≤ 1000 ∧ 0 < w.ts.length ∧ DQ K H p l d m nl td w Q
theorem ok_law_tie_changed (T : Tx K mg) : FnOk P w K mg base CX0 5 (He.ga K "_law_tie_changed") T.fd_law_tie_changed ["_law_web", "_law_model", "_law_cell", "_law_k", "_law_is_gone"] (sp_tie_changed K) := by
  refine T.F_law_tie_changed.ok sc_law_tie_changed (fun vs H Q E h => ?_) (fun cdv A outer s H vs Q E hr h => ?_)
  · obtain ⟨_, _, _, _, _, _, _, _, _, _, rfl, _⟩ := h
    rfl
  · obtain ⟨p, l, d, m, nl, td, w, c, k, g, rfl, hp, k0, k1, l0, q⟩ := h
    have hu := hu_of hr
    refine ⟨_, PSs.nox (pss_cons (ps_set (i := 5) sc_law_tie_changed.nd rfl (Or.inl rfl) (pe_call (ok_law_draw T) (hr.mono (by decide)) (by rfl) T.g_law_draw T.F_law_draw.kp T.k_law_draw .nil pass0 (pa_cons (pv 2) (pa_cons (pv 3) (pa_cons pe_int pa_nil)))))
      (pss_cons (ps_set (i := 6) sc_law_tie_changed.nd rfl (Or.inl rfl) (pe_ix ix_list (pe_callB (x_sortedD rfl) (by rfl) T.b_sorted (by decide +kernel) (pa_cons (pe_dget hu (pv 1) pe_str (fun _ _ => rfl)) pa_nil)) (pe_op op_mod (pv 5) (pe_callB call_lenD (by rfl) T.b_len (by decide +kernel) (pa_cons (pe_dget hu (pv 1) pe_str (fun _ _ => rfl)) pa_nil))) (fun _ _ => rfl)))
      (pss_cons (ps_if (pt_val (pv 4)) (pss_cons (ps_expr (pe_dpop1 (pe_dget hu (pv 1) pe_str (fun _ _ => rfl)) (pv 6) ⟨rfl, rfl, rfl, rfl⟩))
      (pss_one (ps_ret (pe_cmpR op_isN1 (pe_meth (pv 0) T.cl_Web T.m_Web_drop_tie (ok_Web_drop_tie T) (hr.mono (by decide)) T.k_Web_drop_tie .nil pass0 (pa_cons (pv 6) pa_nil)) pe_non (nomark _))))) pss_nil)
      (pss_cons (ps_asg (pe_dget hu (pe_dget hu (pv 1) pe_str (fun _ _ => rfl)) (pv 6) (fun _ _ => rfl)) (pg_tup rfl (pgs_cons (pg_name (i := 7) sc_law_tie_changed.nd rfl (Or.inl rfl)) (pgs_cons (pg_name (i := 8) sc_law_tie_changed.nd rfl (Or.inl rfl)) (pgs_cons (pg_name (i := 9) sc_law_tie_changed.nd rfl (Or.inl rfl)) (pgs_cons (pg_name (i := 10) sc_law_tie_changed.nd rfl (Or.inl rfl)) pgs_nil))))))
      (pss_cons (ps_set (i := 9) sc_law_tie_changed.nd rfl (Or.inl rfl) (pe_call (ok_law_load T) (hr.mono (by decide)) (by rfl) T.g_law_load T.F_law_load.kp T.k_law_load .nil pass0 (pa_cons (pv 2) (pa_cons (pv 3) (pa_cons pe_int pa_nil)))))
      (pss_cons (ps_dput hu (pe_dget hu (pv 1) pe_str (fun _ _ => rfl)) (pv 6) (pe_tup (pa_cons (pv 7) (pa_cons (pv 8) (pa_cons (pv 9) (pa_cons (pv 10) pa_nil))))) rfl)
      (pss_one (ps_ret (pe_cmpR op_isN1 (pe_meth (pv 0) T.cl_Web T.m_Web_set_load (ok_Web_set_load T) (hr.mono (by decide)) T.k_Web_set_load .nil pass0 (pa_cons (pv 6) (pa_cons (pv 9) pa_nil))) pe_non (nomark _)))))))))), ?_⟩
    have em := hp.mod.self
    obtain ⟨kvs, et, hd⟩ := hp.mod.ties
    have l48 := hp.ok.tl
    walk_at "go"
    refine ⟨c, k, 4, rfl, k0, k1, by decide, by decide, fun n n0 n1 => ?_⟩
    walk_at "go"
    refine i_sorted et hd hp.ok.rise (by omega) fun p1 hp1 => ?_
    have s1 : Same H (upd H p1 (.lst ((nums w.ts).map V.int))) := Same.new hp1
    have e1 : (upd H p1 (.lst ((nums w.ts).map V.int))) p1 = some (.lst ((nums w.ts).map V.int)) := upd_same
    generalize upd H p1 (.lst ((nums w.ts).map V.int)) = H1 at s1 e1 ⊢
    have hp' : Pair K H1 p l d m nl td w := ⟨hp.web.same s1, hp.mod.same s1, hp.ok, hp.ln, hp.dt, hp.dm⟩
    have em1 := hp'.mod.self
    have et1 := s1 _ _ et
    have hd1 : DP (TupAt H1) kvs w.ts := hd.mono fun _ _ _ r => r.same s1
    walk_at "go"
    refine ⟨td, kvs, rfl, et1, ?_⟩
    rw [hd.len]
    refine i_rI ?_ (by omega)
    have hL : (0 : Int) < (w.ts.length : Int) := by omega
    obtain ⟨num, hn1, hn2, hn3⟩ := pick (xs := nums w.ts) V.int (Int.emod_nonneg n (Int.ne_of_gt hL)) (by unfold nums; rw [List.length_map]; exact Int.emod_lt_of_pos _ hL)
    refine i_ixL (SqL.of e1) hn3 ?_
    obtain ⟨t, ht0⟩ := nums_mem hn2
    have ht := tget_of hp.ok.rise ht0
    walk_at "go"
    refine i_b (fun _ => ?_) (fun _ => ?_)
    · walk_at "go"
      apply i_dpop1
      walk_at "go"
      obtain ⟨a, ea, ta⟩ := hd1.get ht
      refine ⟨td, rfl, .inl ⟨kvs, .inl et1⟩, ?_⟩
      walk_at "go"
      refine ⟨kvs, Sum.inl num, _, et1, rfl, ea, ?_⟩
      obtain ⟨b1, b2⟩ := hp'.mod.setTies (Same.refl H1) (hd1.drop (n := num))
      have hw1 := hp'.web.besideM hp'.mod hp.ln hp.dt hp.dm b2
      generalize upd H1 td (.dK (dropK kvs (Sum.inl num))) = H2 at b1 b2 hw1 ⊢
      obtain ⟨dx, ep⟩ := hw1.self
      walk_at "go"
      refine i_kMethC ep rfl ?_
      walk_at "go"
      refine ⟨p, l, d, w, num, t, rfl, hw1, ht, fun H3 a1 a2 => ?_⟩
      walk_at "go"
      have b3 := b1.beside hw1 hp.ln hp.dt hp.dm a2
      exact q H3 d (w.untie num) (.inl rfl) ⟨a1, b3, hp.ok.untie num, hp.ln, hp.dt, hp.dm⟩ (by show w.g ≤ w.g + 1; omega) (((Kp.same s1).trans (Kp.web b2 (by simp))).trans (Kp.web a2 (by simp)))
    · walk_at "go"
      obtain ⟨a, ea, ta⟩ := hd1.get ht
      refine i_kDGetI et1 ea ?_
      walk_at "go"
      refine i_gTup (SqT.of ta) rfl ?_
      walk_at "go"
      refine ⟨c, k, 5, rfl, k0, k1, by decide, by decide, fun c2 H2 z0 z1 s2 => ?_⟩
      have em2 := s2 _ _ em1
      walk_at "go"
      refine ⟨by walk_at "sz", fun p4 hp4 => ?_⟩
      have s3 : Same H1 (upd H2 p4 (.tup [.str t.t, .str t.h, .int c2, .bl t.o])) := s2.trans (Same.new hp4)
      have tt : TupAt (upd H2 p4 (.tup [.str t.t, .str t.h, .int c2, .bl t.o])) num { t with c := c2 } p4 := upd_same
      generalize upd H2 p4 (.tup [.str t.t, .str t.h, .int c2, .bl t.o]) = H4 at s3 tt ⊢
      have hm4 := hp'.mod.same s3
      have hw4 := hp'.web.same s3
      have em4 := hm4.self
      have et4 := s3 _ _ et1
      have hd4 : DP (TupAt H4) kvs w.ts := hd1.mono fun _ _ _ r => r.same s3
      walk_at "go"
      have hl := hd4.len
      refine i_kDPutI et4 (by rw [hl, sizeLine_eq]; omega) ?_
      have hpt := hd4.put tt
      rw [tput_map hp.ok.rise ht (fun t => { t with c := c2 })] at hpt
      obtain ⟨b1, b2⟩ := hm4.setTies (Same.refl H4) hpt
      have hw5 := hw4.besideM hm4 hp.ln hp.dt hp.dm b2
      generalize upd H4 td (.dK (putK kvs (Sum.inl num) (.ref p4))) = H5 at b1 b2 hw5 ⊢
      obtain ⟨dx, ep⟩ := hw5.self
      walk_at "go"
      refine i_kMethC ep rfl ?_
      walk_at "go"
      refine ⟨p, l, d, w, num, c2, t, rfl, hw5, hp.ok, ht, z0, z1, fun H6 a1 a2 => ?_⟩
      walk_at "go"
      have b3 := b1.beside hw5 hp.ln hp.dt hp.dm a2
      exact q H6 d (w.load num c2) (.inl rfl) ⟨a1, b3, hp.ok.load z0 z1, hp.ln, hp.dt, hp.dm⟩ (by show w.g ≤ w.g + 1; omega) ((((Kp.same s1).trans (Kp.same s3)).trans (Kp.web b2 (by simp))).trans (Kp.web a2 (by simp)))
def sp_moved : Sp := fun vs H Q _ => ∃ m nl td w x y a ns, vs = [.ref m, .str x, .str y, .ref a] ∧ ModAt H m nl td w ∧ Rise w.ts ∧ w.ts.length ≤ 48 ∧ H a = some (.lst ((ns : List Int).map V.int)) ∧ a ≠ nl ∧ ns.Nodup ∧ (∀ n ∈ ns, ∃ t, tget w.ts n = some t) ∧ ∀ H', ModAt H' m nl td { w with ts := w.ts.map fun nt => if nt.1 ∈ ns then (nt.1, turn x y nt.2) else nt } → Keep H H' m nl td → Q .non H'
theorem ok_law_moved (T : Tx K mg) : FnOk P w K mg base CX0 1 (He.ga K "_law_moved") T.fd_law_moved ["_law_model", "_law_name", "_law_other", "_law_numbers"] sp_moved := by
  refine T.F_law_moved.ok sc_law_moved (fun vs H Q E h => ?_) (fun cdv A outer s H vs Q E hr h => ?_)
  · obtain ⟨_, _, _, _, _, _, _, _, rfl, _⟩ := h
    rfl
  · obtain ⟨m, nl, td, w, x, y, a, ns, rfl, hm, hs, l48, ha, hal, hnd, hn, q⟩ := h
    have hu := hu_of hr
    refine ⟨_, PSs.nox (pss_one (ps_for PassesOwn.never rfl (pi_list (pv 3)) (pg_name (i := 4) sc_law_moved.nd rfl (Or.inl rfl))
      (pss_cons (ps_asg (pe_dget hu (pe_dget hu (pv 0) pe_str (fun _ _ => rfl)) (pv 4) (fun _ _ => rfl)) (pg_tup rfl (pgs_cons (pg_name (i := 5) sc_law_moved.nd rfl (Or.inl rfl)) (pgs_cons (pg_name (i := 6) sc_law_moved.nd rfl (Or.inl rfl)) (pgs_cons (pg_name (i := 7) sc_law_moved.nd rfl (Or.inl rfl)) (pgs_cons (pg_name (i := 8) sc_law_moved.nd rfl (Or.inl rfl)) pgs_nil))))))
      (pss_cons (ps_set (i := 5) sc_law_moved.nd rfl (Or.inl rfl) (pe_ifExp (pt_cmpR op_eq (pv 5) (pv 1) (nomark _)) (pv 2) (pv 5)))
      (pss_one (ps_dput hu (pe_dget hu (pv 0) pe_str (fun _ _ => rfl)) (pv 4) (pe_tup (pa_cons (pv 5) (pa_cons (pe_ifExp (pt_cmpR op_eq (pv 6) (pv 1) (nomark _)) (pv 2) (pv 6)) (pa_cons (pv 7) (pa_cons (pv 8) pa_nil))))) rfl)))))), ?_⟩
    have ndm : a ≠ m := by
      rintro rfl
      rw [hm.self] at ha; cases ha
    have ndd : a ≠ td := by
      rintro rfl
      obtain ⟨_, e, _⟩ := hm.ties
      rw [e] at ha; cases ha
    have b1' : ModAt H m nl td { w with ts := w.ts.map fun nt => if nt.1 ∈ ns.take 0 then (nt.1, turn x y nt.2) else nt } := by
      have e : (w.ts.map fun nt => if nt.1 ∈ ns.take 0 then (nt.1, turn x y nt.2) else nt) = w.ts := by simp
      rw [e]; exact hm
    walk_at "go"
    refine i_kListI (SqL.of ha) ?_
    refine for_it walk_list (fun i σ H' => ModAt H' m nl td { w with ts := w.ts.map fun nt => if nt.1 ∈ ns.take i then (nt.1, turn x y nt.2) else nt } ∧ Keep H H' m nl td ∧ ∃ v1 v2 v3 v4 v5, σ = [some (.ref m), some (.str x), some (.str y), some (.ref a), v1, v2, v3, v4, v5])
      ⟨b1', Keep.rfl, none, none, none, none, none, rfl⟩ (fun i σ H' _ h => SqL.of (h.2.1 _ _ ndm hal ndd ha)) ?_ ?_
    · rintro i v σ H2 H3 hi ⟨b3, k3, v1, v2, v3, v4, v5, rfl⟩ ⟨rfl, hv⟩
      rw [List.length_map] at hi
      rw [List.getElem?_map, List.getElem?_eq_getElem hi] at hv
      cases hv
      obtain ⟨t, ht⟩ := hn ns[i] (List.getElem_mem hi)
      have hni : ¬ ns[i] ∈ ns.take i := by
        intro mm
        obtain ⟨k, hk, ek⟩ := List.mem_take_iff_getElem.mp mm
        have := (List.getElem_inj hnd (h₀ := by omega) (h₁ := hi)).mp ek
        omega
      obtain ⟨g1, g2⟩ := part_step (x := x) (y := y) hs ht hni
      have em := b3.self
      obtain ⟨kvs, et, hd⟩ := b3.ties
      obtain ⟨b, eb, tb⟩ := hd.get g1
      have eT : ns.take (i + 1) = ns.take i ++ [ns[i]] := by rw [List.take_add_one, List.getElem?_eq_getElem hi]; rfl
      walk_at "go"
      refine i_kDGetI et eb ?_
      walk_at "go"
      refine i_gTup (SqT.of tb) rfl ?_
      have fin : ∀ p4, H3 p4 = none → ∀ (t5 : Ti), t5 = turn x y t → ∀ σ, (∃ v1 v2 v3 v4 v5, σ = [some (.ref m), some (.str x), some (.str y), some (.ref a), v1, v2, v3, v4, v5]) →
          kDPut (.ref td) (.ref p4) { nx := fun σ H' => ModAt H' m nl td { w with ts := w.ts.map fun nt => if nt.1 ∈ ns.take (i + 1) then (nt.1, turn x y nt.2) else nt } ∧ Keep H H' m nl td ∧ ∃ v1 v2 v3 v4 v5, σ = [some (.ref m), some (.str x), some (.str y), some (.ref a), v1, v2, v3, v4, v5], rt := Q, bk := fun _ _ => True, ct := fun _ _ => True } σ (.int ns[i]) (upd H3 p4 (.tup [.str t5.t, .str t5.h, .int t5.c, .bl t5.o])) := by
        rintro p4 hp4 t5 rfl σ hσ
        have s4 : Same H3 (upd H3 p4 (.tup [.str (turn x y t).t, .str (turn x y t).h, .int (turn x y t).c, .bl (turn x y t).o])) := Same.new hp4
        have tt : TupAt (upd H3 p4 (.tup [.str (turn x y t).t, .str (turn x y t).h, .int (turn x y t).c, .bl (turn x y t).o])) ns[i] (turn x y t) p4 := upd_same
        generalize upd H3 p4 (.tup [.str (turn x y t).t, .str (turn x y t).h, .int (turn x y t).c, .bl (turn x y t).o]) = H4 at s4 tt ⊢
        have b4 := b3.same s4
        have hd4 : DP (TupAt H4) kvs _ := hd.mono fun _ _ _ r => r.same s4
        have hl := hd4.len
        refine i_kDPutI (s4 _ _ et) (by rw [hl, sizeLine_eq]; show (w.ts.map _).length < _; rw [List.length_map]; omega) ?_
        have hpt := hd4.put tt
        rw [show ({ w with ts := w.ts.map fun nt => if nt.1 ∈ ns.take i then (nt.1, turn x y nt.2) else nt } : Wb).ts = w.ts.map fun nt => if nt.1 ∈ ns.take i then (nt.1, turn x y nt.2) else nt from rfl, g2] at hpt
        obtain ⟨b6, b7⟩ := b4.setTies (Same.refl H4) hpt
        refine ⟨?_, (k3.trans (Keep.of s4) (.inl rfl)).trans b7 (.inl rfl), hσ⟩
        rw [eT]
        exact b6
      have last : ∀ p4 (t5 : Ti), H3 p4 = none → (upd H3 p4 (.tup [.str t5.t, .str t5.h, .int t5.c, .bl t5.o])) m = some (.dK (modKs nl td w.g)) := fun p4 t5 hp4 => (Same.new hp4) _ _ em
      walk_at "go"
      refine i_dec (fun e1 => ?_) (fun e1 => ?_)
      · walk_at "go"
        refine i_dec (fun e2 => ?_) (fun e2 => ?_)
        · walk_at "go"
          refine ⟨by walk_at "sz", fun p4 hp4 => ?_⟩
          have em4 := last p4 ⟨y, y, t.c, t.o⟩ hp4
          walk_at "go"
          exact fin p4 hp4 ⟨y, y, t.c, t.o⟩ (by simp [turn, e1, e2]) _ ⟨_, _, _, _, _, rfl⟩
        · walk_at "go"
          refine ⟨by walk_at "sz", fun p4 hp4 => ?_⟩
          have em4 := last p4 ⟨y, t.h, t.c, t.o⟩ hp4
          walk_at "go"
          exact fin p4 hp4 ⟨y, t.h, t.c, t.o⟩ (by simp [turn, e1, e2]) _ ⟨_, _, _, _, _, rfl⟩
      · walk_at "go"
        refine i_dec (fun e2 => ?_) (fun e2 => ?_)
        · walk_at "go"
          refine ⟨by walk_at "sz", fun p4 hp4 => ?_⟩
          have em4 := last p4 ⟨t.t, y, t.c, t.o⟩ hp4
          walk_at "go"
          exact fin p4 hp4 ⟨t.t, y, t.c, t.o⟩ (by simp [turn, e1, e2]) _ ⟨_, _, _, _, _, rfl⟩
        · walk_at "go"
          refine ⟨by walk_at "sz", fun p4 hp4 => ?_⟩
          have em4 := last p4 ⟨t.t, t.h, t.c, t.o⟩ hp4
          walk_at "go"
          exact fin p4 hp4 ⟨t.t, t.h, t.c, t.o⟩ (by simp [turn, e1, e2]) _ ⟨_, _, _, _, _, rfl⟩
    · rintro σ H2 ⟨b3, k3, v1, v2, v3, v4, v5, rfl⟩
      walk_at "go"
      rw [List.length_map, List.take_length] at b3
      exact q H2 b3 k3
/-- the numbers of the ties at a point -/
def atP (ts : Ts) (x : Str) : List Int := nums (ts.filter fun nt => decide (x = nt.2.t) || decide (x = nt.2.h))
theorem ends_in {x a b : Str} : decide (x ∈ [a, b]) = (decide (x = a) || decide (x = b)) := by
  rw [← Bool.decide_or]
  exact decide_eq_decide.mpr (by simp)
theorem cut2 {t : Ti} : cutV [V.str t.t, .str t.h, .int t.c, .bl t.o] none (some 2) = [t.t, t.h].map V.str := rfl
def sp_at : Sp := fun vs H Q _ => ∃ m nl td w x, vs = [.ref m, .str x] ∧ ModAt H m nl td w ∧ Rise w.ts ∧ w.ts.length ≤ 48 ∧ ∀ a H', Same H H' → H a = none → H' a = some (.lst ((atP w.ts x).map V.int)) → Q (.ref a) H'
theorem ok_law_at (T : Tx K mg) : FnOk P w K mg base CX0 1 (He.ga K "_law_at") T.fd_law_at ["_law_model", "_law_name"] sp_at := by
  refine T.F_law_at.ok sc_law_at (fun vs H Q E h => ?_) (fun cdv A outer s H vs Q E hr h => ?_)
  · obtain ⟨_, _, _, _, _, rfl, _⟩ := h
    rfl
  · obtain ⟨m, nl, td, w, x, rfl, hm, hs, l48, q⟩ := h
    have hu := hu_of hr
    refine ⟨_, PSs.nox (pss_one (ps_ret (pe_lc (own := [("_law_number_here", 2)]) (by rfl) sc_law_at.nd (pi_list (pe_callB (x_sortedD rfl) (by rfl) T.b_sorted (by decide +kernel) (pa_cons (pe_dget hu (pv 0) pe_str (fun _ _ => rfl)) pa_nil))) (blkOk_by (own := [("_law_number_here", 2)]) (N := N_law_at) (sc := defScope s_law_at) (by decide +kernel)) (fun _ _ _ _ _ => (pg_name (i := 2) sc_law_at.nd rfl (Or.inl rfl))) (fun _ _ _ _ _ => (pts_one (pt_cmpR (op_in_seqK K rfl) (pv 1) (pe_slice (sl_tupK K rfl) (pe_dget hu (pe_dget hu (pv 0) pe_str (fun _ _ => rfl)) (pv 2) (fun _ _ => rfl)) po_none (po_some pe_int)) (by rfl)))) (fun _ _ _ _ _ => (pv 2))))), ?_⟩
    have em := hm.self
    obtain ⟨kvs, et, hd⟩ := hm.ties
    walk_at "go"
    refine i_sorted et hd hs (by omega) fun p1 hp1 => ?_
    have s1 : Same H (upd H p1 (.lst ((nums w.ts).map V.int))) := Same.new hp1
    have e1 : (upd H p1 (.lst ((nums w.ts).map V.int))) p1 = some (.lst ((nums w.ts).map V.int)) := upd_same
    generalize upd H p1 (.lst ((nums w.ts).map V.int)) = H1 at s1 e1 ⊢
    have hm1 := hm.same s1
    walk_at "go"
    refine i_kListI (SqL.of e1) ?_
    intro D hD
    refine lc_it walk_list (fun i H' => Same H1 H' ∧ H' D = some (.lst ((atP (w.ts.take i) x).map V.int)))
      ⟨Same.new hD, by rw [upd_same]; rfl⟩ (fun i H' _ h => SqL.of (h.1 _ _ e1)) ?_ ?_
    · rintro i v H2 H3 hi ⟨s2, eD⟩ ⟨rfl, hv⟩
      rw [List.length_map] at hi
      rw [List.getElem?_map, List.getElem?_eq_getElem hi] at hv
      cases hv
      obtain ⟨t, ht⟩ := nums_get (List.getElem?_eq_getElem hi)
      have hg := tget_of hs (List.mem_of_getElem? ht)
      have hm2 := hm1.same s2
      have em2 := hm2.self
      obtain ⟨kv2, et2, hd2⟩ := hm2.ties
      obtain ⟨b, eb, tb⟩ := hd2.get hg
      have eT : atP (w.ts.take (i + 1)) x = atP (w.ts.take i) x ++ (if (decide (x = t.t) || decide (x = t.h)) = true then [(nums w.ts)[i]] else []) := by
        unfold atP nums
        rw [List.take_add_one, ht, List.filter_append, List.map_append]
        congr 1
        show ([((nums w.ts)[i], t)].filter _).map _ = _
        rw [List.filter_cons]
        split <;> rfl
      walk_at "go"
      refine ⟨rfl, ?_⟩
      walk_at "go"
      refine i_kDGetI et2 eb ?_
      walk_at "go"
      refine i_slT (SqT.of tb) (show ¬(HT.sIx 4 0 none = 0 ∧ HT.sIx 4 4 (some 2) = 4) by decide) fun p3 hp3 => ?_
      rw [cut2]
      refine i_inT (SqT.of upd_same) ?_
      rw [ends_in]
      have s3 : Same H1 (upd H3 p3 (.tup ([t.t, t.h].map V.str))) := s2.trans (Same.new hp3)
      have eD3 : (upd H3 p3 (.tup ([t.t, t.h].map V.str))) D = some (.lst ((atP (w.ts.take i) x).map V.int)) := (upd_ne (ne_of_none eD hp3)).trans eD
      generalize upd H3 p3 (.tup ([t.t, t.h].map V.str)) = H4 at s3 eD3 ⊢
      show kB _ (.bl (decide (x = t.t) || decide (x = t.h))) H4
      walk_at "go"
      apply i_b
      · intro c
        rw [c] at eT
        walk_at "go"
        refine ⟨_, eD3, ?_, Same.mut s3 hD, ?_⟩
        · have l1 : (atP (w.ts.take i) x).length ≤ (w.ts.take i).length := by
            unfold atP nums
            rw [List.length_map]
            exact List.length_filter_le _ _
          rw [List.length_take] at l1
          rw [List.length_map, sizeLine_eq]; omega
        · rw [upd_same, eT, if_pos rfl, List.map_append]; rfl
      · intro c
        rw [c] at eT
        walk_at "go"
        refine ⟨s3, ?_⟩
        rw [eT, if_neg (by decide), List.append_nil]
        exact eD3
    · rintro H2 ⟨s2, eD⟩
      have hln : (List.map V.int (nums w.ts)).length = w.ts.length := by unfold nums; rw [List.length_map, List.length_map]
      rw [hln, List.take_length] at eD
      walk_at "go"
      exact q D H2 (s1.trans s2) (s1.free hD) eD
end
end K04

set_option Elab.async false
set_option linter.all false
set_option maxRecDepth 100000
set_option maxHeartbeats 2000000
/-! KD: lists that are held against each other, deep. -/
namespace WB
open PySem PySem.Spec PyProof.Rows L2 HX
section
variable {K : PySem.W.Frag} {H : Hp} {Q : VK}
abbrev okS (z : Str) : Bool := PyData.strOk z
theorem dp_strs : ∀ ys : List Str, DpAll K H (ys.map V.str) (ys.map PyData.str)
  | [] => .nil
  | y :: r => .cons (.str y) (dp_strs r)
theorem depth_strs : ∀ ys : List Str, PyData.depthAll (ys.map PyData.str) = 0
  | [] => by simp [PyData.depthAll]
  | y :: r => by simp [PyData.depthAll, PyData.depth, depth_strs r]
theorem lay_strs : ∀ {ys : List Str}, (∀ y ∈ ys, okS y = true) → PyData.canLayAll0 (ys.map PyData.str) = true
  | [], _ => by simp [PyData.canLayAll0]
  | y :: r, h => by
    have h1 := h y (by simp)
    have h2 := lay_strs (ys := r) fun z hz => h z (by simp [hz])
    simp only [List.map_cons, PyData.canLayAll0, PyData.canLay0, h2, Bool.and_true]
    exact h1
theorem shaped_strs {ys : List Str} (h : ∀ y ∈ ys, okS y = true) : SeqAt.shaped (.list (ys.map PyData.str)) = true := by
  unfold SeqAt.shaped
  rw [PyData.canLay0, lay_strs h, PyData.depth, depth_strs]
  rfl
theorem dp_ints : ∀ ys : List Int, DpAll K H (ys.map V.int) (ys.map PyData.int)
  | [] => .nil
  | y :: r => .cons (.int y) (dp_ints r)
theorem depth_ints : ∀ ys : List Int, PyData.depthAll (ys.map PyData.int) = 0
  | [] => by simp [PyData.depthAll]
  | y :: r => by simp [PyData.depthAll, PyData.depth, depth_ints r]
theorem lay_ints : ∀ ys : List Int, PyData.canLayAll0 (ys.map PyData.int) = true
  | [] => by simp [PyData.canLayAll0]
  | y :: r => by
    have h2 := lay_ints r
    simp only [List.map_cons, PyData.canLayAll0, PyData.canLay0, h2, Bool.and_true]
theorem shaped_ints (ys : List Int) : SeqAt.shaped (.list (ys.map PyData.int)) = true := by
  unfold SeqAt.shaped
  rw [PyData.canLay0, lay_ints, PyData.depth, depth_ints]
  rfl
theorem eqvAll_nil (f : α → PyData) : ∀ ys : List α, PyData.eqv (.list (ys.map f)) (.list []) = ys.isEmpty
  | [] => by simp [PyData.eqv, PyData.eqvAll]
  | y :: r => by simp [PyData.eqv, PyData.eqvAll]
theorem i_eqNilI {D p : Addr} {ys : List Int} (h : SqL K H D (ys.map V.int)) (h2 : SqL K H p []) (q : Q (.bl ys.isEmpty) H) : rEqD K (.ref D) (.ref p) H Q :=
  ⟨_, _, .lst h (dp_ints ys), .lst h2 .nil, shaped_ints ys, by decide +kernel, by rw [eqvAll_nil]; exact q⟩
theorem i_eqSameI {D p : Addr} {ys : List Int} (h : SqL K H D (ys.map V.int)) (h2 : SqL K H p (ys.map V.int)) (q : Q (.bl true) H) : rEqD K (.ref D) (.ref p) H Q :=
  ⟨_, _, .lst h (dp_ints ys), .lst h2 (dp_ints ys), shaped_ints ys, shaped_ints ys, by rw [SeqAt.eqv_refl _ (by rw [PyData.canLay0]; exact lay_ints ys)]; exact q⟩
theorem i_eqNil {D p : Addr} {ys : List Str} (h : SqL K H D (ys.map V.str)) (h2 : SqL K H p []) (o : ∀ y ∈ ys, okS y = true) (q : Q (.bl ys.isEmpty) H) : rEqD K (.ref D) (.ref p) H Q :=
  ⟨_, _, .lst h (dp_strs ys), .lst h2 .nil, shaped_strs o, by decide +kernel, by rw [eqvAll_nil]; exact q⟩
theorem i_eq00 {D p : Addr} (h : SqL K H D []) (h2 : SqL K H p []) (q : Q (.bl true) H) : rEqD K (.ref D) (.ref p) H Q :=
  i_eqNilI (ys := []) h h2 q
theorem i_ne00 {D p : Addr} (h : SqL K H D []) (h2 : SqL K H p []) (q : Q (.bl false) H) : rNeD K (.ref D) (.ref p) H Q :=
  ⟨_, _, .lst (xs := [].map V.int) h (dp_ints []), .lst h2 .nil, shaped_ints [], by decide +kernel, by rw [eqvAll_nil]; exact q⟩
theorem i_neSame {D p : Addr} {ys : List Str} (h : SqL K H D (ys.map V.str)) (h2 : SqL K H p (ys.map V.str)) (o : ∀ y ∈ ys, okS y = true) (q : Q (.bl false) H) : rNeD K (.ref D) (.ref p) H Q :=
  ⟨_, _, .lst h (dp_strs ys), .lst h2 (dp_strs ys), shaped_strs o, shaped_strs o, by rw [SeqAt.eqv_refl _ (by rw [PyData.canLay0]; exact lay_strs o)]; exact q⟩
theorem nm_ok {z : Str} (h : isNm z = true) : okS z = true := by
  unfold isNm at h
  simp only [Bool.and_eq_true, decide_eq_true_eq, List.all_eq_true] at h
  show PyData.strOk z = true
  unfold PyData.strOk
  rw [Array.all_eq_true']
  intro c hc
  have := h.2 c (by simpa using hc)
  exact decide_eq_true (by omega)
/-! ### rows -/
def rowD (n : Int) (t : Ti) : PyData := .tuple [.int n, .str t.t, .str t.h, .int t.c, .bool t.o]
def RowAt (H : Hp) (n : Int) (t : Ti) (a : Addr) : Prop := H a = some (.tup [.int n, .str t.t, .str t.h, .int t.c, .bl t.o])
theorem RowAt.dp {n : Int} {t : Ti} {a : Addr} (h : RowAt H n t a) : Dp K H (.ref a) (rowD n t) := .tup (SqT.of h) (.cons (.int _) (.cons (.str _) (.cons (.str _) (.cons (.int _) (.cons (.bl _) .nil)))))
def RowsL (H : Hp) (as : List Addr) (ts : Ts) : Prop := Two (fun b nt => RowAt H nt.1 nt.2 b) as ts
theorem RowsL.dp {as : List Addr} {ts : Ts} (h : RowsL H as ts) : DpAll K H (as.map V.ref) (ts.map fun nt => rowD nt.1 nt.2) := by
  induction h with
  | nil => exact .nil
  | cons h _ ih => exact .cons (RowAt.dp h) ih
def rowOk (t : Ti) : Prop := okS t.t = true ∧ okS t.h = true
theorem row_lay {n : Int} {t : Ti} (o : rowOk t) : PyData.canLay0 (rowD n t) = true := by
  unfold rowD
  simp only [PyData.canLay0, PyData.canLayAll0, Bool.and_true, Bool.true_and]
  rw [show PyData.strOk t.t = true from o.1, show PyData.strOk t.h = true from o.2]
  rfl
theorem row_depth {n : Int} {t : Ti} : PyData.depth (rowD n t) = 1 := by
  unfold rowD
  simp [PyData.depth, PyData.depthAll]
theorem row_shaped {n : Int} {t : Ti} (o : rowOk t) : SeqAt.shaped (rowD n t) = true := by
  unfold SeqAt.shaped
  rw [row_lay o, row_depth]
  rfl
theorem rows_lay : ∀ {ts : Ts}, (∀ n t, (n, t) ∈ ts → rowOk t) → PyData.canLayAll0 (ts.map fun nt => rowD nt.1 nt.2) = true
  | [], _ => by simp [PyData.canLayAll0]
  | (n, t) :: r, o => by
    have h2 := rows_lay (ts := r) fun m u hu => o m u (List.mem_cons_of_mem _ hu)
    have h1 := row_lay (n := n) (o n t List.mem_cons_self)
    simp only [List.map_cons, PyData.canLayAll0, h1, h2, Bool.and_true]
theorem rows_depth : ∀ ts : Ts, PyData.depthAll (ts.map fun nt => rowD nt.1 nt.2) ≤ 1
  | [] => by simp [PyData.depthAll]
  | (n, t) :: r => by
    have h2 := rows_depth r
    simp only [List.map_cons, PyData.depthAll, row_depth]
    omega
theorem rows_shaped {ts : Ts} (o : ∀ n t, (n, t) ∈ ts → rowOk t) : SeqAt.shaped (.list (ts.map fun nt => rowD nt.1 nt.2)) = true := by
  have h := rows_depth ts
  unfold SeqAt.shaped
  rw [PyData.canLay0, rows_lay o, PyData.depth]
  simp
  omega
theorem i_neRows {D p : Addr} {as bs : List Addr} {ts : Ts} (h : SqL K H D (as.map V.ref)) (h2 : SqL K H p (bs.map V.ref)) (r1 : RowsL H as ts) (r2 : RowsL H bs ts) (o : ∀ n t, (n, t) ∈ ts → rowOk t) (q : Q (.bl false) H) : rNeD K (.ref D) (.ref p) H Q :=
  ⟨_, _, .lst h r1.dp, .lst h2 r2.dp, rows_shaped o, rows_shaped o, by rw [SeqAt.eqv_refl _ (by rw [PyData.canLay0]; exact rows_lay o)]; exact q⟩
theorem i_neRow {a b : Addr} {n : Int} {t : Ti} (r1 : RowAt H n t a) (r2 : RowAt H n t b) (o : rowOk t) (q : Q (.bl false) H) : rNeD K (.ref a) (.ref b) H Q :=
  ⟨_, _, r1.dp, r2.dp, row_shaped o, row_shaped o, by rw [SeqAt.eqv_refl _ (row_lay o)]; exact q⟩
theorem i_neRows0 {D p : Addr} {as : List Addr} {ts : Ts} (h : SqL K H D (as.map V.ref)) (h2 : SqL K H p []) (r1 : RowsL H as ts) (o : ∀ n t, (n, t) ∈ ts → rowOk t) (q : Q (.bl (!ts.isEmpty)) H) : rNeD K (.ref D) (.ref p) H Q :=
  ⟨_, _, .lst h r1.dp, .lst h2 .nil, rows_shaped o, by decide +kernel, by rw [eqvAll_nil]; exact q⟩
end
end WB

set_option Elab.async false
set_option linter.all false
set_option maxRecDepth 100000
set_option maxHeartbeats 4000000
namespace K04
open PySem PySem.Spec PyProof.Rows L2 HX WB
local macro_rules | `(tactic| walk_at "side") => `(tactic| first
  | assumption
  | rfl
  | (show (0 : Int) < _; omega)
  | (unfold CDiv; omega)
  | (unfold CMul; omega)
  | (unfold CPow; omega)
  | (rw [sizeLine_eq]; omega)
  | omega)
local macro_rules | `(tactic| walk_at "e") => `(tactic| first
  | ((with_reducible apply i_var); exact rfl)
  | (with_reducible apply i_c)
  | (with_reducible apply i_op)
  | (with_reducible apply i_un)
  | (with_reducible apply i_rI0)
  | ((with_reducible apply i_rI); (case c => walk_at "side"))
  | (with_reducible apply i_rGe)
  | (with_reducible apply i_rGt)
  | (with_reducible apply i_rU)
  | (with_reducible apply i_rEqI)
  | (with_reducible apply i_rNeI)
  | (with_reducible apply i_rEqS)
  | (with_reducible apply i_rNeS)
  | (with_reducible apply i_rEqB)
  | (with_reducible apply i_rNeB)
  | (with_reducible apply i_rIsN)
  | (with_reducible apply i_rNotN)
  | (with_reducible apply i_rInS)
  | (with_reducible apply i_rNotInS)
  | ((with_reducible apply i_catS); (case c => walk_at "side"))
  | (with_reducible apply i_tcb)
  | (with_reducible apply i_nil)
  | (with_reducible apply i_cons)
  | ((with_reducible apply i_lenS); (case c => walk_at "side"))
  | ((with_reducible apply i_lenL); assumption)
  | (with_reducible apply i_abs)
  | (with_reducible apply i_max2)
  | (with_reducible apply i_min2)
  | ((with_reducible apply i_strI); (case c => walk_at "side"))
  | (with_reducible apply i_intB)
  | (with_reducible apply i_test)
  | (with_reducible apply i_tB)
  | (with_reducible apply i_kB)
  | (with_reducible apply i_and)
  | (with_reducible apply i_or)
  | (with_reducible apply i_not)
  | (with_reducible apply i_if)
  | (with_reducible apply i_andV)
  | (with_reducible apply i_orV)
  | (with_reducible apply i_notV)
  | (with_reducible apply i_kAndV)
  | (with_reducible apply i_kOrV)
  | (with_reducible apply i_kNotV)
  | (with_reducible apply i_chain)
  | (with_reducible apply i_kChain)
  | (with_reducible apply i_drop)
  | (with_reducible apply i_ret)
  | (with_reducible apply i_retN)
  | (with_reducible apply i_ifS)
  | (with_reducible apply i_asg)
  | (with_reducible apply i_gName)
  | (with_reducible apply i_for)
  | (with_reducible apply i_lc)
  | (with_reducible apply i_iList)
  | (with_reducible apply i_iTup)
  | (with_reducible apply i_iStr)
  | (with_reducible apply i_kStrI)
  | (with_reducible apply i_lst)
  | (with_reducible apply i_tup)
  | (with_reducible apply i_call)
  | (with_reducible apply i_m1)
  | (with_reducible apply i_kStr)
  | (with_reducible apply i_bm)
  | (with_reducible apply i_bm0)
  | (with_reducible apply i_part)
  | (with_reducible apply i_kInt)
  | (with_reducible apply i_noPart)
  | (with_reducible apply i_sl)
  | (with_reducible apply i_range1)
  | (with_reducible apply i_range2)
  | ((with_reducible apply i_kRng1); (case c => walk_at "side"))
  | ((with_reducible apply i_kRng2); (case c => walk_at "side"))
  | (with_reducible apply i_gCons)
  | (with_reducible apply i_gNil)
  | (with_reducible apply i_gSub)
  | (with_reducible apply i_iZip)
  | (with_reducible apply i_yes)
  | (with_reducible apply i_ift)
  | (with_reducible apply i_iff)
  | (with_reducible apply i_nb))
local macro_rules | `(tactic| walk_at "go") => `(tactic| repeat (first | (with_reducible apply i_seq) | (with_reducible apply i_next) | walk_at "e"))
local macro_rules | `(tactic| walk_at "ge") => `(tactic| repeat walk_at "e")
local macro_rules | `(tactic| walk_at "sz") => `(tactic| first | decide | (rw [sizeLine_eq]; simp; done) | (rw [sizeLine_eq]; omega))
local macro_rules | `(tactic| walk_at "side") => `(tactic| (with_reducible exact WB.most_pos))
local macro_rules | `(tactic| walk_at "e") => `(tactic| first
  | ((with_reducible apply i_isT (b := true)); exact rfl)
  | ((with_reducible apply i_isT (b := false)); exact rfl)
  | (with_reducible apply i_fld)
  | ((with_reducible apply i_kFld); (case h => assumption); (case c1 => assumption); (case c2 => assumption); (case e => first | exact lk_number | exact lk_tail | exact lk_head | exact lk_load | exact lk_oneway | exact lk_points | exact lk_ties | exact lk_given))
  | (with_reducible apply i_sfld)
  | ((with_reducible apply i_kSFld); (case h => first | assumption | exact upd_same); (case c1 => assumption); (case c2 => assumption); (case e => exact Nat.le_of_ble_eq_true rfl))
  | (with_reducible apply i_methC)
  | (with_reducible apply i_make)
  | (with_reducible apply i_fldaug)
  | (with_reducible apply i_vals)
  | (with_reducible apply i_items)
  | (with_reducible apply i_dget)
  | (with_reducible apply i_dput)
  | (with_reducible apply i_din)
  | (with_reducible apply i_dnotin)
  | (with_reducible apply i_ddel)
  | (with_reducible apply i_dc)
  | (with_reducible apply i_enum)
  | (with_reducible apply i_ckw))
local macro_rules | `(tactic| walk_at "e") => `(tactic| first
  | ((with_reducible apply i_kDGetS); (case h => assumption); (case e => first | exact md_names | exact md_ties | exact md_given)))
local macro_rules | `(tactic| walk_at "e") => `(tactic| first
  | ((with_reducible apply i_kDGetS); (case h => assumption); (case e => assumption)))
theorem j_pairs0 {σ : L2.St} {H : Hp} {Q : List (V × V) → Hp → Prop} (q : Q [] H) : tPairs [] σ H Q := q
theorem j_pairs {σ : L2.St} {H : Hp} {Q : List (V × V) → Hp → Prop} {tk tv : TE} {r : List (TE × TE)} (q : tk σ H fun x H1 => tv σ H1 fun y H2 => tPairs r σ H2 fun ps H3 => Q ((x, y) :: ps) H3) : tPairs ((tk, tv) :: r) σ H Q := q
section
variable {P : Program} {w : World} {K : PySem.W.Frag} {mg : Str → Option Value} {base : Heap}
/-- what is read of a model -/
structure ModS (H : Hp) (m nl td : Addr) (w : Wb) : Prop where
  self : ∃ kvs, H m = some (.dK kvs) ∧ valV kvs (Sum.inr "names") = some (.ref nl) ∧ valV kvs (Sum.inr "ties") = some (.ref td) ∧ valV kvs (Sum.inr "given") = some (.int w.g)
  pts : H nl = some (.lst (w.ps.map V.str))
  ties : ∃ kvs, H td = some (.dK kvs) ∧ DP (TupAt H) kvs w.ts
theorem ModAt.view {H : Hp} {m nl td : Addr} {w : Wb} (h : ModAt H m nl td w) : ModS H m nl td w := ⟨⟨_, h.self, md_names, md_ties, md_given⟩, h.pts, h.ties⟩
theorem ModS.same {H H' : Hp} {m nl td : Addr} {w : Wb} (h : ModS H m nl td w) (s : Same H H') : ModS H' m nl td w where
  self := by
    obtain ⟨kvs, e, r⟩ := h.self
    exact ⟨kvs, s _ _ e, r⟩
  pts := s _ _ h.pts
  ties := by
    obtain ⟨kvs, e, c⟩ := h.ties
    exact ⟨kvs, s _ _ e, c.mono fun _ _ _ r => r.same s⟩
def sp_rows : Sp := fun vs H Q _ => ∃ m nl td w, vs = [.ref m] ∧ ModS H m nl td w ∧ Rise w.ts ∧ w.ts.length ≤ 48 ∧ ∀ a as H', Same H H' → H a = none → H' a = some (.lst (as.map V.ref)) → RowsL H' as w.ts → Q (.ref a) H'
theorem ok_law_rows (T : Tx K mg) : FnOk P w K mg base CX0 1 (He.ga K "_law_rows") T.fd_law_rows ["_law_model"] sp_rows := by
  refine T.F_law_rows.ok sc_law_rows (fun vs H Q E h => ?_) (fun cdv A outer s H vs Q E hr h => ?_)
  · obtain ⟨_, _, _, _, rfl, _⟩ := h
    rfl
  · obtain ⟨m, nl, td, w, rfl, hm, hs, l48, q⟩ := h
    have hu := hu_of hr
    refine ⟨_, PSs.nox (pss_one (ps_ret (pe_lc (own := [("_law_number_here", 1)]) (by rfl) sc_law_rows.nd (pi_list (pe_callB (x_sortedD rfl) (by rfl) T.b_sorted (by decide +kernel) (pa_cons (pe_dget hu (pv 0) pe_str (fun _ _ => rfl)) pa_nil))) (blkOk_by (own := [("_law_number_here", 1)]) (N := N_law_rows) (sc := defScope s_law_rows) (by decide +kernel)) (fun _ _ _ _ _ => (pg_name (i := 1) sc_law_rows.nd rfl (Or.inl rfl))) (fun _ _ _ _ _ => pts_nil) (fun _ _ _ _ _ => (pe_op (op_catTK K rfl) (pe_tup (pa_cons (pv 1) pa_nil)) (pe_dget hu (pe_dget hu (pv 0) pe_str (fun _ _ => rfl)) (pv 1) (fun _ _ => rfl))))))), ?_⟩
    obtain ⟨mkv, em, mv1, mv2, mv3⟩ := hm.self
    obtain ⟨kvs, et, hd⟩ := hm.ties
    walk_at "go"
    refine i_sorted et hd hs (by omega) fun p1 hp1 => ?_
    have s1 : Same H (upd H p1 (.lst ((nums w.ts).map V.int))) := Same.new hp1
    have e1 : (upd H p1 (.lst ((nums w.ts).map V.int))) p1 = some (.lst ((nums w.ts).map V.int)) := upd_same
    generalize upd H p1 (.lst ((nums w.ts).map V.int)) = H1 at s1 e1 ⊢
    have hm1 := hm.same s1
    walk_at "go"
    refine i_kListI (SqL.of e1) ?_
    intro D hD
    refine lc_it walk_list (fun i H' => Same H1 H' ∧ ∃ as : List Addr, H' D = some (.lst (as.map V.ref)) ∧ RowsL H' as (w.ts.take i))
      ⟨Same.new hD, [], upd_same, by simp; exact .nil⟩ (fun i H' _ h => SqL.of (h.1 _ _ e1)) ?_ ?_
    · rintro i v H2 H3 hi ⟨s2, as, eD, hrs⟩ ⟨rfl, hv⟩
      rw [List.length_map] at hi
      rw [List.getElem?_map, List.getElem?_eq_getElem hi] at hv
      cases hv
      obtain ⟨t, ht⟩ := nums_get (List.getElem?_eq_getElem hi)
      have hg := tget_of hs (List.mem_of_getElem? ht)
      have hm2 := hm1.same s2
      have em2 := s2 _ _ (s1 _ _ em)
      obtain ⟨kv2, et2, hd2⟩ := hm2.ties
      obtain ⟨b, eb, tb⟩ := hd2.get hg
      walk_at "go"
      refine ⟨rfl, ?_⟩
      walk_at "go"
      refine ⟨by walk_at "sz", fun p3 hp3 => ?_⟩
      have s3 : Same H3 (upd H3 p3 (.tup [.int (nums w.ts)[i]])) := Same.new hp3
      have et3 := s3 _ _ et2
      have em3 := s3 _ _ em2
      have tb3 : TupAt _ _ _ _ := TupAt.same tb s3
      have e3 : (upd H3 p3 (.tup [.int (nums w.ts)[i]])) p3 = some (.tup [.int (nums w.ts)[i]]) := upd_same
      have eD3 := s3 _ _ eD
      have hrs3 : RowsL _ as (w.ts.take i) := Two.mono hrs fun _ _ r => s3 _ _ r
      generalize upd H3 p3 (.tup [.int (nums w.ts)[i]]) = H4 at s3 et3 em3 tb3 e3 eD3 hrs3 ⊢
      walk_at "go"
      refine i_kDGetI et3 eb ?_
      refine ⟨p3, b, _, _, rfl, rfl, SqT.of e3, SqT.of tb3, by simp, (by show 1 + 4 ≤ _; walk_at "sz"), (fun e => nomatch e), fun _ p4 hp4 => ?_⟩
      have s4 : Same H1 (upd H4 p4 (.tup ([.int (nums w.ts)[i]] ++ [.str t.t, .str t.h, .int t.c, .bl t.o]))) := (s2.trans s3).trans (Same.new hp4)
      have eD4 := (upd_ne (ne_of_none eD3 hp4) (o := .tup ([.int (nums w.ts)[i]] ++ [.str t.t, .str t.h, .int t.c, .bl t.o]))).trans eD3
      refine ⟨_, eD4, ?_, Same.mut s4 hD, as ++ [p4], by rw [upd_same, List.map_append]; rfl, ?_⟩
      · have := Two.len hrs
        rw [List.length_map, this, List.length_take, sizeLine_eq]; omega
      · rw [List.take_add_one, ht]
        have nDp : p4 ≠ D := fun e => by rw [← e, hp4] at eD3; cases eD3
        refine Two.app (Two.mono hrs3 fun b2 nt r => ?_) (.cons ?_ .nil)
        · have r' : H4 b2 = _ := r
          have n1 : b2 ≠ p4 := ne_of_none r' hp4
          have n2 : b2 ≠ D := fun e => by rw [e, eD3] at r'; cases r'
          exact (upd_ne n2).trans ((upd_ne n1).trans r)
        · exact (upd_ne nDp).trans upd_same
    · rintro H2 ⟨s2, as, eD, hrs⟩
      have hln : (List.map V.int (nums w.ts)).length = w.ts.length := by unfold nums; rw [List.length_map, List.length_map]
      rw [hln, List.take_length] at hrs
      walk_at "go"
      exact q D as H2 (s1.trans s2) (s1.free hD) eD hrs
def sp_none : Sp := fun vs H Q _ => vs = [] ∧ ∀ m nl td H', Same H H' → H m = none → H nl = none → H td = none → ModAt H' m nl td ⟨[], [], 0⟩ → Q (.ref m) H'
theorem ok_law_none (T : Tx K mg) : FnOk P w K mg base CX0 1 (He.ga K "_law_none") T.fd_law_none [] sp_none := by
  refine T.F_law_none.ok sc_law_none (fun vs H Q E h => ?_) (fun cdv A outer s H vs Q E hr h => ?_)
  · obtain ⟨rfl, _⟩ := h
    rfl
  · obtain ⟨rfl, q⟩ := h
    have hu := hu_of hr
    refine ⟨_, PSs.nox (pss_one (ps_ret (pe_disp (pps_cons pe_str (pe_lst pa_nil) (pps_cons pe_str pe_dnewK (pps_cons pe_str pe_int pps_nil))) (by rfl) (by rfl) (fun z => by cases z) (by decide)))), ?_⟩
    walk_at "go"
    intro md hmd
    have s0 : Same H (upd H md (.dK [])) := Same.new hmd
    have e0 : (upd H md (.dK [])) md = some (.dK []) := upd_same
    generalize upd H md (.dK []) = H0 at s0 e0 ⊢
    apply j_pairs
    walk_at "go"
    refine ⟨by walk_at "sz", fun p1 hp1 => ?_⟩
    have s1 : Same H0 (upd H0 p1 (.lst [])) := Same.new hp1
    have e1 : (upd H0 p1 (.lst [])) p1 = some (.lst []) := upd_same
    generalize upd H0 p1 (.lst []) = H1 at s1 e1 ⊢
    apply j_pairs
    walk_at "go"
    intro p2 hp2
    have s2 : Same H1 (upd H1 p2 (.dK [])) := Same.new hp2
    have e2 : (upd H1 p2 (.dK [])) p2 = some (.dK []) := upd_same
    generalize upd H1 p2 (.dK []) = H2 at s2 e2 ⊢
    have s3 : Same H H2 := (s0.trans s1).trans s2
    have e02 := s2 _ _ (s1 _ _ e0)
    have e12 := s2 _ _ e1
    apply j_pairs
    walk_at "go"
    apply j_pairs0
    refine ⟨e02, modKs p1 p2 0, rfl, (show 3 ≤ 15 by decide), ?_⟩
    have hn1 : p1 ≠ md := fun e => by rw [e, e02] at e12; cases e12
    have hn2 : p2 ≠ md := fun e => by
      have := s1 _ _ e0
      rw [e, this] at hp2; cases hp2
    exact q md p1 p2 _ (Same.mut s3 hmd) hmd (s0.free hp1) ((s0.trans s1).free hp2) ⟨upd_same, (upd_ne hn1).trans e12, ⟨[], (upd_ne hn2).trans e2, DP.nil⟩⟩
def sp_row (K : PySem.W.Frag) : Sp := fun vs H Q _ => ∃ a n t, vs = [.ref a] ∧ TieAt K H n t a ∧ ∀ b H', Same H H' → H b = none → RowAt H' n t b → Q (.ref b) H'
theorem ok_law_row (T : Tx K mg) : FnOk P w K mg base CX0 1 (He.ga K "_law_row") T.fd_law_row ["_law_tie"] (sp_row K) := by
  refine T.F_law_row.ok sc_law_row (fun vs H Q E h => ?_) (fun cdv A outer s H vs Q E hr h => ?_)
  · obtain ⟨_, _, _, rfl, _⟩ := h
    rfl
  · obtain ⟨a, n, t, rfl, ⟨dx, ta⟩, q⟩ := h
    have hu := hu_of hr
    refine ⟨_, PSs.nox (pss_cons (ps_set (i := 1) sc_law_row.nd rfl (Or.inl rfl) (pe_tup (pa_cons (pe_fld (pv 0) rfl) (pa_cons (pe_fld (pv 0) rfl) (pa_cons (pe_fld (pv 0) rfl) (pa_cons (pe_fld (pv 0) rfl) (pa_cons (pe_fld (pv 0) rfl) pa_nil)))))))
      (pss_cons (ps_if (pt_cmpR (op_neD hr.units) (pe_lc (own := [("_law_one", 2)]) (by rfl) sc_law_row.nd (pi_tup (pe_tup (pa_cons (pe_ix ix_tup (pv 1) pe_int (fun _ _ => rfl)) (pa_cons (pe_ix ix_tup (pv 1) pe_int (fun _ _ => rfl)) pa_nil)))) (blkOk_by (own := [("_law_one", 2)]) (N := N_law_row) (sc := defScope s_law_row) (by decide +kernel)) (fun _ _ _ _ _ => (pg_name (i := 2) sc_law_row.nd rfl (Or.inl rfl))) (fun _ _ _ _ _ => (pts_one (PW.pt (pw_or (pt_val (pe_callB (x_isiK K rfl) (by rfl) T.b_isinstance (by decide +kernel) (pa_cons (pv 2) (pa_cons (pe_bltn (v := .ty "bool") rfl T.b_bool (by decide +kernel) rfl) pa_nil)))) (pw_or1 (pt_not (pt_val (pe_callB (x_isiK K rfl) (by rfl) T.b_isinstance (by decide +kernel) (pa_cons (pv 2) (pa_cons (pe_bltn (v := .ty "int") rfl T.b_int (by decide +kernel) rfl) pa_nil)))))))))) (fun _ _ _ _ _ => (pv 2))) (pe_lst pa_nil) (nomark _)) (pss_one (ps_ret pe_non)) pss_nil)
      (pss_one (ps_ret (pe_ifExp (PW.pt (pw_and (pt_val (pe_callB call_isi (by rfl) T.b_isinstance (by decide +kernel) (pa_cons (pe_ix ix_tup (pv 1) pe_int (fun _ _ => rfl)) (pa_cons (pe_bltn (v := .ty "str") rfl T.b_str (by decide +kernel) rfl) pa_nil)))) (pw_and (pt_val (pe_callB call_isi (by rfl) T.b_isinstance (by decide +kernel) (pa_cons (pe_ix ix_tup (pv 1) pe_int (fun _ _ => rfl)) (pa_cons (pe_bltn (v := .ty "str") rfl T.b_str (by decide +kernel) rfl) pa_nil)))) (pw_and1 (pt_val (pe_callB call_isi (by rfl) T.b_isinstance (by decide +kernel) (pa_cons (pe_ix ix_tup (pv 1) pe_int (fun _ _ => rfl)) (pa_cons (pe_bltn (v := .ty "bool") rfl T.b_bool (by decide +kernel) rfl) pa_nil)))))))) (pv 1) pe_non))))), ?_⟩
    have c1 := T.cl_Tie
    have c2 := T.na_Tie_number
    have c3 := T.na_Tie_tail
    have c4 := T.na_Tie_head
    have c5 := T.na_Tie_load
    have c6 := T.na_Tie_is_oneway
    walk_at "go"
    refine ⟨by walk_at "sz", fun b hb => ?_⟩
    have s0 : Same H (upd H b (.tup [.int n, .str t.t, .str t.h, .int t.c, .bl t.o])) := Same.new hb
    have e0 : (upd H b (.tup [.int n, .str t.t, .str t.h, .int t.c, .bl t.o])) b = some (.tup [.int n, .str t.t, .str t.h, .int t.c, .bl t.o]) := upd_same
    generalize upd H b (.tup [.int n, .str t.t, .str t.h, .int t.c, .bl t.o]) = H0 at s0 e0 ⊢
    walk_at "go"
    refine i_ixT (SqT.of e0) (j := 0) (v := .int n) rfl ?_
    walk_at "go"
    refine i_ixT (SqT.of e0) (j := 3) (v := .int t.c) rfl ?_
    walk_at "go"
    refine ⟨by walk_at "sz", fun p1 hp1 => ?_⟩
    have s1 : Same H0 (upd H0 p1 (.tup [.int n, .int t.c])) := Same.new hp1
    have e1 : (upd H0 p1 (.tup [.int n, .int t.c])) p1 = some (.tup [.int n, .int t.c]) := upd_same
    generalize upd H0 p1 (.tup [.int n, .int t.c]) = H1 at s1 e1 ⊢
    walk_at "go"
    refine i_kTupI (SqT.of e1) ?_
    intro D hD
    refine lc_it walk_tup (fun i H' => Same H1 H' ∧ H' D = some (.lst [])) ⟨Same.new hD, upd_same⟩ (fun i H' _ h => SqT.of (h.1 _ _ e1)) ?_ ?_
    · rintro i v H2 H3 hi ⟨s2, eD⟩ ⟨rfl, hv⟩
      obtain ⟨z, rfl⟩ : ∃ z : Int, v = .int z := by
        have := List.mem_of_getElem? hv
        simp only [List.mem_cons, List.not_mem_nil, or_false] at this
        rcases this with rfl | rfl <;> exact ⟨_, rfl⟩
      walk_at "go"
      refine ⟨rfl, ?_⟩
      walk_at "go"
      exact ⟨s2, eD⟩
    · rintro H2 ⟨s2, eD⟩
      walk_at "go"
      refine ⟨by walk_at "sz", fun p3 hp3 => ?_⟩
      have s3 : Same H1 (upd H2 p3 (.lst [])) := s2.trans (Same.new hp3)
      refine i_ne00 (SqL.of ((upd_ne (ne_of_none eD hp3)).trans eD)) (SqL.of upd_same) ?_
      generalize upd H2 p3 (.lst []) = H4 at s3 ⊢
      have s4 := (s0.trans s1).trans s3
      have e4 := s3 _ _ (s1 _ _ e0)
      walk_at "go"
      refine i_ixT (SqT.of e4) (j := 1) (v := .str t.t) rfl ?_
      walk_at "go"
      refine i_ixT (SqT.of e4) (j := 2) (v := .str t.h) rfl ?_
      walk_at "go"
      refine i_ixT (SqT.of e4) (j := 4) (v := .bl t.o) rfl ?_
      walk_at "go"
      exact q b _ s4 hb e4
end
end K04

set_option Elab.async false
set_option linter.all false
set_option maxRecDepth 100000
set_option maxHeartbeats 4000000
namespace K04
open PySem PySem.Spec PyProof.Rows L2 HX WB
local macro_rules | `(tactic| walk_at "side") => `(tactic| first
  | assumption
  | rfl
  | (show (0 : Int) < _; omega)
  | (unfold CDiv; omega)
  | (unfold CMul; omega)
  | (unfold CPow; omega)
  | (rw [sizeLine_eq]; omega)
  | omega)
local macro_rules | `(tactic| walk_at "e") => `(tactic| first
  | ((with_reducible apply i_var); exact rfl)
  | (with_reducible apply i_c)
  | (with_reducible apply i_op)
  | (with_reducible apply i_un)
  | (with_reducible apply i_rI0)
  | ((with_reducible apply i_rI); (case c => walk_at "side"))
  | (with_reducible apply i_rGe)
  | (with_reducible apply i_rGt)
  | (with_reducible apply i_rU)
  | (with_reducible apply i_rEqI)
  | (with_reducible apply i_rNeI)
  | (with_reducible apply i_rEqS)
  | (with_reducible apply i_rNeS)
  | (with_reducible apply i_rEqB)
  | (with_reducible apply i_rNeB)
  | (with_reducible apply i_rIsN)
  | (with_reducible apply i_rNotN)
  | (with_reducible apply i_rInS)
  | (with_reducible apply i_rNotInS)
  | ((with_reducible apply i_catS); (case c => walk_at "side"))
  | (with_reducible apply i_tcb)
  | (with_reducible apply i_nil)
  | (with_reducible apply i_cons)
  | ((with_reducible apply i_lenS); (case c => walk_at "side"))
  | ((with_reducible apply i_lenL); assumption)
  | (with_reducible apply i_abs)
  | (with_reducible apply i_max2)
  | (with_reducible apply i_min2)
  | ((with_reducible apply i_strI); (case c => walk_at "side"))
  | (with_reducible apply i_intB)
  | (with_reducible apply i_test)
  | (with_reducible apply i_tB)
  | (with_reducible apply i_kB)
  | (with_reducible apply i_and)
  | (with_reducible apply i_or)
  | (with_reducible apply i_not)
  | (with_reducible apply i_if)
  | (with_reducible apply i_andV)
  | (with_reducible apply i_orV)
  | (with_reducible apply i_notV)
  | (with_reducible apply i_kAndV)
  | (with_reducible apply i_kOrV)
  | (with_reducible apply i_kNotV)
  | (with_reducible apply i_chain)
  | (with_reducible apply i_kChain)
  | (with_reducible apply i_drop)
  | (with_reducible apply i_ret)
  | (with_reducible apply i_retN)
  | (with_reducible apply i_ifS)
  | (with_reducible apply i_asg)
  | (with_reducible apply i_gName)
  | (with_reducible apply i_for)
  | (with_reducible apply i_lc)
  | (with_reducible apply i_iList)
  | (with_reducible apply i_iTup)
  | (with_reducible apply i_iStr)
  | (with_reducible apply i_kStrI)
  | (with_reducible apply i_lst)
  | (with_reducible apply i_tup)
  | (with_reducible apply i_call)
  | (with_reducible apply i_m1)
  | (with_reducible apply i_kStr)
  | (with_reducible apply i_bm)
  | (with_reducible apply i_bm0)
  | (with_reducible apply i_part)
  | (with_reducible apply i_kInt)
  | (with_reducible apply i_noPart)
  | (with_reducible apply i_sl)
  | (with_reducible apply i_range1)
  | (with_reducible apply i_range2)
  | ((with_reducible apply i_kRng1); (case c => walk_at "side"))
  | ((with_reducible apply i_kRng2); (case c => walk_at "side"))
  | (with_reducible apply i_gCons)
  | (with_reducible apply i_gNil)
  | (with_reducible apply i_gSub)
  | (with_reducible apply i_iZip)
  | (with_reducible apply i_yes)
  | (with_reducible apply i_ift)
  | (with_reducible apply i_iff)
  | (with_reducible apply i_nb))
local macro_rules | `(tactic| walk_at "go") => `(tactic| repeat (first | (with_reducible apply i_seq) | (with_reducible apply i_next) | walk_at "e"))
local macro_rules | `(tactic| walk_at "ge") => `(tactic| repeat walk_at "e")
local macro_rules | `(tactic| walk_at "sz") => `(tactic| first | decide | (rw [sizeLine_eq]; simp; done) | (rw [sizeLine_eq]; omega))
local macro_rules | `(tactic| walk_at "side") => `(tactic| (with_reducible exact WB.most_pos))
local macro_rules | `(tactic| walk_at "e") => `(tactic| first
  | ((with_reducible apply i_isT (b := true)); exact rfl)
  | ((with_reducible apply i_isT (b := false)); exact rfl)
  | (with_reducible apply i_fld)
  | ((with_reducible apply i_kFld); (case h => assumption); (case c1 => assumption); (case c2 => assumption); (case e => first | exact lk_number | exact lk_tail | exact lk_head | exact lk_load | exact lk_oneway | exact lk_points | exact lk_ties | exact lk_given))
  | (with_reducible apply i_sfld)
  | ((with_reducible apply i_kSFld); (case h => first | assumption | exact upd_same); (case c1 => assumption); (case c2 => assumption); (case e => exact Nat.le_of_ble_eq_true rfl))
  | (with_reducible apply i_methC)
  | (with_reducible apply i_make)
  | (with_reducible apply i_fldaug)
  | (with_reducible apply i_vals)
  | (with_reducible apply i_items)
  | (with_reducible apply i_dget)
  | (with_reducible apply i_dput)
  | (with_reducible apply i_din)
  | (with_reducible apply i_dnotin)
  | (with_reducible apply i_ddel)
  | (with_reducible apply i_dc)
  | (with_reducible apply i_enum)
  | (with_reducible apply i_ckw))
local macro_rules | `(tactic| walk_at "e") => `(tactic| first
  | ((with_reducible apply i_kDGetS); (case h => assumption); (case e => first | exact md_names | exact md_ties | exact md_given)))
local macro_rules | `(tactic| walk_at "e") => `(tactic| first
  | ((with_reducible apply i_kDGetS); (case h => assumption); (case e => assumption)))
theorem wok_row {w : Wb} (h : Wok w) : ∀ n t, (n, t) ∈ w.ts → rowOk t := fun n t ht => ⟨nm_ok (h.nm _ (h.ok n t ht).t), nm_ok (h.nm _ (h.ok n t ht).h)⟩
section
variable {P : Program} {w : World} {K : PySem.W.Frag} {mg : Str → Option Value} {base : Heap}
def sp_stands (K : PySem.W.Frag) : Sp := fun vs H Q _ => ∃ p l d m nl td w, vs = [.ref p, .ref m] ∧ WebAt K H p l d w ∧ ModS H m nl td w ∧ Wok w ∧ ∀ H', Same H H' → Q (.bl true) H'
theorem ok_law_stands (T : Tx K mg) : FnOk P w K mg base CX0 5 (He.ga K "_law_stands") T.fd_law_stands ["_law_web", "_law_model"] (sp_stands K) := by
  refine T.F_law_stands.ok sc_law_stands (fun vs H Q E h => ?_) (fun cdv A outer s H vs Q E hr h => ?_)
  · obtain ⟨_, _, _, _, _, _, _, rfl, _⟩ := h
    rfl
  · obtain ⟨p, l, d, m, nl, td, w, rfl, hw, hm, ok, q⟩ := h
    have hu := hu_of hr
    refine ⟨_, PSs.nox (pss_cons (ps_setLc (i := 2) (own := [("_law_tie", 3)]) (by rfl) sc_law_stands.nd rfl rfl (sw_true rfl rfl rfl (by decide +kernel)) (pi_list (pe_meth0 (pv 0) T.cl_Web T.m_Web_ties (ok_Web_ties T) (hr.mono (by decide)) T.k_Web_ties .nil pass0)) (blkOk_by (own := [("_law_tie", 3)]) (N := N_law_stands) (sc := defScope s_law_stands) (by decide +kernel)) (fun _ _ _ _ _ => (pg_name (i := 3) sc_law_stands.nd rfl (Or.inl rfl))) (fun _ _ _ _ _ => pts_nil) (fun _ _ _ _ _ => (pe_call (ok_law_row T) (hr.mono (by decide)) (by rfl) T.g_law_row T.F_law_row.kp T.k_law_row .nil pass0 (pa_cons (pv 3) pa_nil))))
      (pss_cons (ps_if (PW.pt (pw_or (pt_cmpR (op_neD hr.units) (pe_meth0 (pv 0) T.cl_Web T.m_Web_points (ok_Web_points T) (hr.mono (by decide)) T.k_Web_points .nil pass0) (pe_dget hu (pv 1) pe_str (fun _ _ => rfl)) (nomark _)) (pw_or1 (pt_cmpR (op_neD hr.units) (pv 2) (pe_call (ok_law_rows T) (hr.mono (by decide)) (by rfl) T.g_law_rows T.F_law_rows.kp T.k_law_rows .nil pass0 (pa_cons (pv 1) pa_nil)) (nomark _))))) (pss_one (ps_ret pe_bl)) pss_nil)
      (pss_one (ps_ret (pe_call (ok_law_whole T) (hr.mono (by decide)) (by rfl) T.g_law_whole T.F_law_whole.kp T.k_law_whole .nil pass0 (pa_cons (pe_meth0 (pv 0) T.cl_Web T.m_Web_given (ok_Web_given T) (hr.mono (by decide)) T.k_Web_given .nil pass0) (pa_cons (pe_dget hu (pv 1) pe_str (fun _ _ => rfl)) pa_nil))))))), ?_⟩
    obtain ⟨dx, ep⟩ := hw.self
    walk_at "go"
    refine i_kMethC ep rfl ?_
    walk_at "go"
    refine ⟨p, l, d, w, rfl, hw, ok.tl, fun a as H1 s1 ha ea has => ?_⟩
    refine i_kListI (SqL.of ea) ?_
    intro D hD
    have hln : (as.map V.ref).length = w.ts.length := by rw [List.length_map]; exact Two.len has
    refine lc_it walk_list (fun i H' => Same H1 H' ∧ ∃ bs : List Addr, H' D = some (.lst (bs.map V.ref)) ∧ RowsL H' bs (w.ts.take i))
      ⟨Same.new hD, [], upd_same, by simp; exact .nil⟩ (fun i H' _ h => SqL.of (h.1 _ _ ea)) ?_ ?_
    · rintro i v H2 H3 hi ⟨s2, bs, eD, hrs⟩ ⟨rfl, hv⟩
      rw [List.length_map] at hi
      rw [List.getElem?_map, List.getElem?_eq_getElem hi] at hv
      cases hv
      obtain ⟨⟨n, t⟩, ht, ta⟩ := Two.get has (List.getElem?_eq_getElem hi)
      walk_at "go"
      refine ⟨rfl, ?_⟩
      walk_at "go"
      refine ⟨as[i], n, t, rfl, ta.same s2, fun b H4 s4 hb r4 => ?_⟩
      have eD4 := s4 _ _ eD
      refine ⟨_, eD4, ?_, Same.mut (s2.trans s4) hD, bs ++ [b], by rw [upd_same, List.map_append]; rfl, ?_⟩
      · have h1 := Two.len hrs
        have h2 := ok.tl
        rw [List.length_map, h1, List.length_take, sizeLine_eq]; omega
      · rw [List.take_add_one, ht]
        have ne : ∀ {b2 n t}, RowAt H4 n t b2 → RowAt (upd H4 D (.lst (bs.map V.ref ++ [.ref b]))) n t b2 := fun {b2 n t} r => by
          have r' : H4 b2 = _ := r
          have n2 : b2 ≠ D := fun e => by rw [e, eD4] at r'; cases r'
          exact (upd_ne n2).trans r
        exact Two.app (Two.mono hrs fun b2 nt r => ne (s4 _ _ r)) (.cons (ne r4) .nil)
    · rintro H2 ⟨s2, bs, eD, hrs⟩
      rw [hln, List.take_length] at hrs
      have hw2 := hw.same (s1.trans s2)
      have hm2 := hm.same (s1.trans s2)
      obtain ⟨dx2, ep2⟩ := hw2.self
      walk_at "go"
      refine i_kMethC ep2 rfl ?_
      walk_at "go"
      refine ⟨p, l, d, w, rfl, hw2, fun pa hpa => ?_⟩
      have s3 : Same H2 (upd H2 pa (.lst (w.ps.map V.str))) := Same.new hpa
      have e3 : (upd H2 pa (.lst (w.ps.map V.str))) pa = some (.lst (w.ps.map V.str)) := upd_same
      generalize upd H2 pa (.lst (w.ps.map V.str)) = H3 at s3 e3 ⊢
      have hm3 := hm2.same s3
      obtain ⟨mkv, em3, mv1, mv2, mv3⟩ := hm3.self
      walk_at "go"
      refine i_neSame (SqL.of e3) (SqL.of hm3.pts) (fun z hz => nm_ok (ok.nm z hz)) ?_
      walk_at "go"
      refine ⟨m, nl, td, w, rfl, hm3, ok.rise, ok.tl, fun ra rs H4 s4 hra era hrr => ?_⟩
      have eD4 := s4 _ _ (s3 _ _ eD)
      refine i_neRows (SqL.of eD4) (SqL.of era) (Two.mono hrs fun _ _ r => s4 _ _ (s3 _ _ r)) hrr (wok_row ok) ?_
      have s5 := ((s1.trans s2).trans s3).trans s4
      have hw5 := hw.same s5
      obtain ⟨mkv5, em5, mw1, mw2, mw3⟩ := (hm.same s5).self
      obtain ⟨dx5, ep5⟩ := hw5.self
      walk_at "go"
      refine i_kMethC ep5 rfl ?_
      walk_at "go"
      refine ⟨p, l, d, w, rfl, hw5, ?_⟩
      walk_at "go"
      refine ⟨w.g, w.g, rfl, ?_⟩
      rw [decide_eq_true rfl]
      exact q H4 s5
end
end K04

set_option Elab.async false
set_option linter.all false
set_option maxRecDepth 100000
set_option maxHeartbeats 4000000
namespace K04
open PySem PySem.Spec PyProof.Rows L2 HX WB
local macro_rules | `(tactic| walk_at "side") => `(tactic| first
  | assumption
  | rfl
  | (show (0 : Int) < _; omega)
  | (unfold CDiv; omega)
  | (unfold CMul; omega)
  | (unfold CPow; omega)
  | (rw [sizeLine_eq]; omega)
  | omega)
local macro_rules | `(tactic| walk_at "e") => `(tactic| first
  | ((with_reducible apply i_var); exact rfl)
  | (with_reducible apply i_c)
  | (with_reducible apply i_op)
  | (with_reducible apply i_un)
  | (with_reducible apply i_rI0)
  | ((with_reducible apply i_rI); (case c => walk_at "side"))
  | (with_reducible apply i_rGe)
  | (with_reducible apply i_rGt)
  | (with_reducible apply i_rU)
  | (with_reducible apply i_rEqI)
  | (with_reducible apply i_rNeI)
  | (with_reducible apply i_rEqS)
  | (with_reducible apply i_rNeS)
  | (with_reducible apply i_rEqB)
  | (with_reducible apply i_rNeB)
  | (with_reducible apply i_rIsN)
  | (with_reducible apply i_rNotN)
  | (with_reducible apply i_rInS)
  | (with_reducible apply i_rNotInS)
  | ((with_reducible apply i_catS); (case c => walk_at "side"))
  | (with_reducible apply i_tcb)
  | (with_reducible apply i_nil)
  | (with_reducible apply i_cons)
  | ((with_reducible apply i_lenS); (case c => walk_at "side"))
  | ((with_reducible apply i_lenL); assumption)
  | (with_reducible apply i_abs)
  | (with_reducible apply i_max2)
  | (with_reducible apply i_min2)
  | ((with_reducible apply i_strI); (case c => walk_at "side"))
  | (with_reducible apply i_intB)
  | (with_reducible apply i_test)
  | (with_reducible apply i_tB)
  | (with_reducible apply i_kB)
  | (with_reducible apply i_and)
  | (with_reducible apply i_or)
  | (with_reducible apply i_not)
  | (with_reducible apply i_if)
  | (with_reducible apply i_andV)
  | (with_reducible apply i_orV)
  | (with_reducible apply i_notV)
  | (with_reducible apply i_kAndV)
  | (with_reducible apply i_kOrV)
  | (with_reducible apply i_kNotV)
  | (with_reducible apply i_chain)
  | (with_reducible apply i_kChain)
  | (with_reducible apply i_drop)
  | (with_reducible apply i_ret)
  | (with_reducible apply i_retN)
  | (with_reducible apply i_ifS)
  | (with_reducible apply i_asg)
  | (with_reducible apply i_gName)
  | (with_reducible apply i_for)
  | (with_reducible apply i_lc)
  | (with_reducible apply i_iList)
  | (with_reducible apply i_iTup)
  | (with_reducible apply i_iStr)
  | (with_reducible apply i_kStrI)
  | (with_reducible apply i_lst)
  | (with_reducible apply i_tup)
  | (with_reducible apply i_call)
  | (with_reducible apply i_m1)
  | (with_reducible apply i_kStr)
  | (with_reducible apply i_bm)
  | (with_reducible apply i_bm0)
  | (with_reducible apply i_part)
  | (with_reducible apply i_kInt)
  | (with_reducible apply i_noPart)
  | (with_reducible apply i_sl)
  | (with_reducible apply i_range1)
  | (with_reducible apply i_range2)
  | ((with_reducible apply i_kRng1); (case c => walk_at "side"))
  | ((with_reducible apply i_kRng2); (case c => walk_at "side"))
  | (with_reducible apply i_gCons)
  | (with_reducible apply i_gNil)
  | (with_reducible apply i_gSub)
  | (with_reducible apply i_iZip)
  | (with_reducible apply i_yes)
  | (with_reducible apply i_ift)
  | (with_reducible apply i_iff)
  | (with_reducible apply i_nb))
local macro_rules | `(tactic| walk_at "go") => `(tactic| repeat (first | (with_reducible apply i_seq) | (with_reducible apply i_next) | walk_at "e"))
local macro_rules | `(tactic| walk_at "ge") => `(tactic| repeat walk_at "e")
local macro_rules | `(tactic| walk_at "sz") => `(tactic| first | decide | (rw [sizeLine_eq]; simp; done) | (rw [sizeLine_eq]; omega))
local macro_rules | `(tactic| walk_at "side") => `(tactic| (with_reducible exact WB.most_pos))
local macro_rules | `(tactic| walk_at "e") => `(tactic| first
  | ((with_reducible apply i_isT (b := true)); exact rfl)
  | ((with_reducible apply i_isT (b := false)); exact rfl)
  | (with_reducible apply i_fld)
  | ((with_reducible apply i_kFld); (case h => assumption); (case c1 => assumption); (case c2 => assumption); (case e => first | exact lk_number | exact lk_tail | exact lk_head | exact lk_load | exact lk_oneway | exact lk_points | exact lk_ties | exact lk_given))
  | (with_reducible apply i_sfld)
  | ((with_reducible apply i_kSFld); (case h => first | assumption | exact upd_same); (case c1 => assumption); (case c2 => assumption); (case e => exact Nat.le_of_ble_eq_true rfl))
  | (with_reducible apply i_methC)
  | (with_reducible apply i_make)
  | (with_reducible apply i_fldaug)
  | (with_reducible apply i_vals)
  | (with_reducible apply i_items)
  | (with_reducible apply i_dget)
  | (with_reducible apply i_dput)
  | (with_reducible apply i_din)
  | (with_reducible apply i_dnotin)
  | (with_reducible apply i_ddel)
  | (with_reducible apply i_dc)
  | (with_reducible apply i_enum)
  | (with_reducible apply i_ckw))
local macro_rules | `(tactic| walk_at "e") => `(tactic| first
  | ((with_reducible apply i_kDGetS); (case h => assumption); (case e => first | exact md_names | exact md_ties | exact md_given)))
theorem at_in {ts : Ts} (hs : Rise ts) {n : Int} {t : Ti} {x : Str} (h : (n, t) ∈ ts) : n ∈ atP ts x ↔ (t.t = x ∨ t.h = x) := by
  unfold atP
  constructor
  · intro m
    obtain ⟨u, hu⟩ := nums_mem m
    obtain ⟨h1, h2⟩ := List.mem_filter.mp hu
    have := tget_of hs h1
    rw [tget_of hs h] at this
    cases this
    rcases Bool.or_eq_true _ _ ▸ h2 with e | e
    · exact .inl (of_decide_eq_true e).symm
    · exact .inr (of_decide_eq_true e).symm
  · intro m
    refine List.mem_map.mpr ⟨(n, t), List.mem_filter.mpr ⟨h, ?_⟩, rfl⟩
    rcases m with e | e <;> simp [e]
theorem at_nd {ts : Ts} (hs : Rise ts) {x : Str} : (atP ts x).Nodup := nums_nd (hs.filter _)
theorem at_get {ts : Ts} (hs : Rise ts) {x : Str} : ∀ n ∈ atP ts x, ∃ t, tget ts n = some t ∧ (t.t = x ∨ t.h = x) := by
  intro n hn
  obtain ⟨u, hu⟩ := nums_mem hn
  have hm := (List.mem_filter.mp hu).1
  exact ⟨u, tget_of hs hm, (at_in hs hm).mp hn⟩
theorem at_len {ts : Ts} {x : Str} : (atP ts x).length ≤ ts.length := by
  unfold atP nums
  rw [List.length_map]
  exact List.length_filter_le _ _
theorem at_turn {ts : Ts} (hs : Rise ts) {x y : Str} : (ts.map fun nt => if nt.1 ∈ atP ts x then (nt.1, turn x y nt.2) else nt) = ts.map fun nt => (nt.1, turn x y nt.2) := by
  apply List.map_congr_left
  rintro ⟨n, t⟩ hm
  by_cases c : n ∈ atP ts x
  · simp only [c, if_true]
  · simp only [c, if_false]
    have c2 := fun h => c ((at_in hs hm).mpr h)
    have h1 : ¬ t.t = x := fun e => c2 (.inl e)
    have h2 : ¬ t.h = x := fun e => c2 (.inr e)
    simp [turn, h1, h2]
section
variable {P : Program} {w : World} {K : PySem.W.Frag} {mg : Str → Option Value} {base : Heap}
/-- of some numbers those whose ties end at a point -/
def btw (ts : Ts) (ns : List Int) (o : Str) : List Int := ns.filter fun n => (tget ts n).any fun t => decide (o = t.t) || decide (o = t.h)
theorem btw_in {ts : Ts} (hs : Rise ts) {n : Int} {t : Ti} {x o : Str} (h : (n, t) ∈ ts) : n ∈ btw ts (atP ts x) o ↔ (t.t = x ∨ t.h = x) ∧ (t.t = o ∨ t.h = o) := by
  unfold btw
  rw [List.mem_filter, at_in hs h, tget_of hs h]
  simp only [Option.any_some, Bool.or_eq_true, decide_eq_true_eq]
  exact Iff.intro (fun ⟨a, b⟩ => ⟨a, b.imp Eq.symm Eq.symm⟩) (fun ⟨a, b⟩ => ⟨a, b.imp Eq.symm Eq.symm⟩)
theorem filter_map' {α β : Type} (f : α → β) (p : β → Bool) : ∀ l : List α, (l.map f).filter p = (l.filter fun a => p (f a)).map f
  | [] => rfl
  | a :: r => by
    rw [List.map_cons, List.filter_cons, List.filter_cons, filter_map' f p r]
    cases p (f a) <;> rfl
theorem join_eq {w : Wb} (ok : Wok w) {x o : Str} (hne : x ≠ o) : ((w.ts.filter fun nt => decide (nt.1 ∉ btw w.ts (atP w.ts x) o)).map fun nt => (nt.1, turn o x nt.2)) = (w.join x o).ts := by
  show _ = (w.ts.map fun nt => (nt.1, turn o x nt.2)).filter fun nt => decide (nt.2.t ≠ nt.2.h)
  rw [filter_map']
  congr 1
  apply List.filter_congr
  rintro ⟨n, t⟩ hm
  have hb := btw_in (x := x) (o := o) ok.rise hm
  have hth := (ok.ok n t hm).ne
  refine decide_eq_decide.mpr (not_congr ?_)
  rw [hb]
  show _ ↔ (if t.t = o then x else t.t) = (if t.h = o then x else t.h)
  constructor
  · rintro ⟨h1 | h1, h2 | h2⟩
    · exact absurd (h1.symm.trans h2) hne
    · rw [if_neg (fun e => hne (h1.symm.trans e)), if_pos h2, h1]
    · rw [if_pos h2, if_neg (fun e => hne (h1.symm.trans e)), h1]
    · exact absurd (h1.symm.trans h2) hne
  · intro e
    by_cases c1 : t.t = o
    · rw [if_pos c1] at e
      have c2 : ¬ t.h = o := fun c => hth (c1.trans c.symm)
      rw [if_neg c2] at e
      exact ⟨.inr e.symm, .inl c1⟩
    · rw [if_neg c1] at e
      by_cases c2 : t.h = o
      · rw [if_pos c2] at e
        exact ⟨.inl e, .inr c2⟩
      · rw [if_neg c2] at e
        exact absurd e hth
theorem drop_more {ts : Ts} {B : List Int} {n : Int} : tdrop (ts.filter fun nt => decide (nt.1 ∉ B)) n = ts.filter fun nt => decide (nt.1 ∉ B ++ [n]) := by
  unfold tdrop
  rw [List.filter_filter]
  apply List.filter_congr
  intro nt _
  rw [← Bool.decide_and]
  exact decide_eq_decide.mpr (by simp [and_comm])
theorem lst_otherW {K : PySem.W.Frag} {H : Hp} {p l d a : Addr} {w : Wb} {xs : List V} {o : HO} (h : WebAt K H p l d w) (e : H a = some (.lst xs)) (ha : a ≠ l) : WebAt K (upd H a o) p l d w := by
  obtain ⟨dx, ep⟩ := h.self
  obtain ⟨kvs, ed, c⟩ := h.ties
  refine ⟨⟨dx, (upd_ne ?_).trans ep⟩, (upd_ne ha.symm).trans h.pts, ⟨kvs, (upd_ne ?_).trans ed, c.mono fun _ _ _ r => r.other (r.ne e (fun _ _ _ _ => by simp))⟩⟩
  · rintro rfl
    rw [ep] at e; cases e
  · rintro rfl
    rw [ed] at e; cases e
theorem lst_otherM {H : Hp} {m nl td a : Addr} {w : Wb} {xs : List V} {o : HO} (h : ModAt H m nl td w) (e : H a = some (.lst xs)) (ha : a ≠ nl) : ModAt (upd H a o) m nl td w := by
  have em := h.self
  obtain ⟨kvs, ed, c⟩ := h.ties
  refine ⟨(upd_ne ?_).trans em, (upd_ne ha.symm).trans h.pts, ⟨kvs, (upd_ne ?_).trans ed, c.mono fun _ _ _ r => r.other (r.ne e (fun _ => by simp))⟩⟩
  · rintro rfl
    rw [em] at e; cases e
  · rintro rfl
    rw [ed] at e; cases e
/-- points without ties -/
def idles (w : Wb) (ps : List Str) : List Str := ps.filter fun z => (atP w.ts z).isEmpty
theorem fin_deed {H1 H3 H4 : Hp} {p l d d' m nl td : Addr} {w w2 : Wb} {Q : VK} (q1 : DQ K H1 p l d m nl td w Q) (kp : Kp H1 H3 [p, l, d, m, nl, td]) (hw3 : WebAt K H3 p l d w) (hm3 : ModAt H3 m nl td w2) (ln : l ≠ nl) (dt : d ≠ td) (dm : d ≠ m) (hd : d' = d ∨ H3 d' = none) (a1 : WebAt K H4 p l d' w2) (a2 : Keep H3 H4 p l d) (ok : Wok w2) (hg : w2.g ≤ w.g + 1 := by exact Int.le_of_lt (Int.lt_succ _)) : Q (.bl true) H4 := by
  have b5 := hm3.beside hw3 ln dt dm a2
  obtain ⟨kv, et, _⟩ := hm3.ties
  have em := hm3.self
  have n1 : d' ≠ td := by
    rcases hd with rfl | e
    · exact dt
    · rintro rfl
      rw [et] at e; cases e
  have n2 : d' ≠ m := by
    rcases hd with rfl | e
    · exact dm
    · rintro rfl
      rw [em] at e; cases e
  refine q1 H4 d' w2 ?_ ⟨a1, b5, ok, ln, n1, n2⟩ hg (kp.trans (Kp.web a2 (by simp)))
  rcases hd with e | e
  · exact .inl e
  right
  cases e1 : H1 d' with
  | none => rfl
  | some o =>
    by_cases c : d' ∈ [p, l, d, m, nl, td]
    · exfalso
      obtain ⟨dx, ep⟩ := hw3.self
      obtain ⟨kd, ed, _⟩ := hw3.ties
      have e3 := hw3.pts
      have e4 := hm3.pts
      simp only [List.mem_cons, List.not_mem_nil, or_false] at c
      rcases c with rfl | rfl | rfl | rfl | rfl | rfl
      · rw [ep] at e; cases e
      · rw [e3] at e; cases e
      · rw [ed] at e; cases e
      · rw [em] at e; cases e
      · rw [e4] at e; cases e
      · rw [et] at e; cases e
    · rw [kp _ _ c e1] at e; cases e
def sp_point_changed (K : PySem.W.Frag) : Sp := fun vs H Q _ => ∃ p l d m nl td w c k way fa free, vs = [.ref p, .ref m, .ref fa, .int c, .int k, .int way] ∧ Pair K H p l d m nl td w ∧ 0 ≤ k ∧ k ≤ 1000 ∧ 2 ≤ w.ps.length ∧ H fa = some (.lst ((free : List Str).map V.str)) ∧ 0 < free.length ∧ (∀ y ∈ free, isNm y = true ∧ y ∉ w.ps) ∧ DQ K H p l d m nl td w Q
theorem ok_law_point_changed (T : Tx K mg) : FnOk P w K mg base CX0 6 (He.ga K "_law_point_changed") T.fd_law_point_changed ["_law_web", "_law_model", "_law_free", "_law_cell", "_law_k", "_law_way"] (sp_point_changed K) := by
  refine T.F_law_point_changed.ok sc_law_point_changed (fun vs H Q E h => ?_) (fun cdv A outer s H vs Q E hr h => ?_)
  · obtain ⟨_, _, _, _, _, _, _, _, _, _, _, _, rfl, _⟩ := h
    rfl
  · obtain ⟨p, l, d, m, nl, td, w, c, k, way, fa, free, rfl, hp, k0, k1, l2, hfa, hf0, hfree, q⟩ := h
    have hu := hu_of hr
    refine ⟨_, PSs.nox (pss_cons (ps_set (i := 6) sc_law_point_changed.nd rfl (Or.inr rfl) (pe_dget hu (pv 1) pe_str (fun _ _ => rfl)))
      (pss_cons (ps_set (i := 7) sc_law_point_changed.nd rfl (Or.inr rfl) (pe_call (ok_law_draw T) (hr.mono (by decide)) (by rfl) T.g_law_draw T.F_law_draw.kp T.k_law_draw .nil pass0 (pa_cons (pv 3) (pa_cons (pv 4) (pa_cons pe_int pa_nil)))))
      (pss_cons (ps_set (i := 8) sc_law_point_changed.nd rfl (Or.inl rfl) (pe_ix ix_list (pv 6) (pe_op op_mod (pv 7) (pe_callB x_lenL (by rfl) T.b_len (by decide +kernel) (pa_cons (pv 6) pa_nil))) (fun _ _ => rfl)))
      (pss_cons (ps_set (i := 9) sc_law_point_changed.nd rfl (Or.inl rfl) (pe_call (ok_law_at T) (hr.mono (by decide)) (by rfl) T.g_law_at T.F_law_at.kp T.k_law_at .nil pass0 (pa_cons (pv 1) (pa_cons (pv 8) pa_nil))))
      (pss_cons (ps_set (i := 10) sc_law_point_changed.nd rfl (Or.inr rfl) (pe_ix ix_list (pv 2) (pe_op op_mod (pe_op op_fdiv (pv 7) pe_int) (pe_callB x_lenL (by rfl) T.b_len (by decide +kernel) (pa_cons (pv 2) pa_nil))) (fun _ _ => rfl)))
      (pss_cons (ps_if (pt_cmpR op_eq (pv 5) pe_int (nomark _)) (pss_cons (ps_asg (pv 10) (pg_sub (pv 6) (pe_bm PySem.F.plainAttrs_list PySem.F.slot_list_index PySem.F.type_list_index mt_index (pv 6) (pa_cons (pv 8) pa_nil)) set_list))
      (pss_cons (ps_expr (pe_call (ok_law_moved T) (hr.mono (by decide)) (by rfl) T.g_law_moved T.F_law_moved.kp T.k_law_moved .nil pass0 (pa_cons (pv 1) (pa_cons (pv 8) (pa_cons (pv 10) (pa_cons (pv 9) pa_nil))))))
      (pss_one (ps_ret (pe_cmpR op_isN1 (pe_meth (pv 0) T.cl_Web T.m_Web_rename (ok_Web_rename T) (hr.mono (by decide)) T.k_Web_rename .nil pass0 (pa_cons (pv 8) (pa_cons (pv 10) pa_nil))) pe_non (nomark _)))))) pss_nil)
      (C8.pss_cut (ps_if (PW.pt (pw_and (pt_cmpR op_eq (pv 5) pe_int (nomark _)) (pw_and1 (pt_cmpR op_lt (pe_callB x_lenL (by rfl) T.b_len (by decide +kernel) (pa_cons (pv 6) pa_nil)) pe_int (nomark _))))) (pss_cons (ps_setLc (i := 11) (own := [("_law_j", 17)]) (by rfl) sc_law_point_changed.nd rfl rfl (sw_true rfl rfl rfl (by decide +kernel)) (pi_range1 rfl T.b_range (pa_cons (pe_callB x_lenL (by rfl) T.b_len (by decide +kernel) (pa_cons (pv 9) pa_nil)) pa_nil)) (blkOk_by (own := [("_law_j", 17)]) (N := N_law_point_changed) (sc := defScope s_law_point_changed) (by decide +kernel)) (fun _ _ _ _ _ => (pg_name (i := 17) sc_law_point_changed.nd rfl (Or.inl rfl))) (fun _ _ _ _ _ => pts_nil) (fun _ _ _ _ _ => (pe_op op_mod (pe_op op_fdiv (pv 7) (pe_op op_shl pe_int (pe_op op_mod (pv 17) pe_int))) pe_int)))
      (pss_cons (ps_set (i := 12) sc_law_point_changed.nd rfl (Or.inl rfl) (pe_stepL (pe_lc (own := [("_law_number_here", 14), ("_law_bit", 18)]) (by rfl) sc_law_point_changed.nd (pi_zip (by rfl) T.b_zip (pa_cons (pv 9) (pa_cons (pv 11) pa_nil))) (blkOk_by (own := [("_law_number_here", 14), ("_law_bit", 18)]) (N := N_law_point_changed) (sc := defScope s_law_point_changed) (by decide +kernel)) (fun _ _ _ _ _ => (pg_tupK (n := 2) K rfl rfl (pgs_cons (pg_name (i := 14) sc_law_point_changed.nd rfl (Or.inl rfl)) (pgs_cons (pg_name (i := 18) sc_law_point_changed.nd rfl (Or.inl rfl)) pgs_nil)))) (fun _ _ _ _ _ => (pts_one (pt_cmpR op_eq (pv 18) pe_int (nomark _)))) (fun _ _ _ _ _ => (pv 14))) (pe_ix ix_list (pe_lst (pa_cons pe_int (pa_cons (pe_un un_neg pe_int) pa_nil))) (pe_op op_mod (pv 7) pe_int) (fun _ _ => rfl))))
      (pss_cons (ps_expr (pe_bm PySem.F.plainAttrs_list PySem.F.slot_list_append PySem.F.type_list_append mt_append (pv 6) (pa_cons (pv 10) pa_nil)))
      (pss_cons (ps_expr (pe_call (ok_law_moved T) (hr.mono (by decide)) (by rfl) T.g_law_moved T.F_law_moved.kp T.k_law_moved .nil pass0 (pa_cons (pv 1) (pa_cons (pv 8) (pa_cons (pv 10) (pa_cons (pv 12) pa_nil))))))
      (pss_cons (ps_set (i := 13) sc_law_point_changed.nd rfl (Or.inl rfl) (pe_callTy x_list (by rfl) T.b_list (by decide +kernel) (pa_cons (pv 12) pa_nil)))
      (pss_one (ps_ret (pe_and (pe_cmpR op_isN1 (pe_meth (pv 0) T.cl_Web T.m_Web_part (ok_Web_part T) (hr.mono (by decide)) T.k_Web_part .nil pass0 (pa_cons (pv 8) (pa_cons (pv 10) (pa_cons (pv 13) pa_nil)))) pe_non (nomark _)) (pe_one (pe_cmpR (op_eqD hr.units) (pv 13) (pv 12) (nomark _))))))))))) pss_nil)
      (C8.pss_cut (ps_if (PW.pt (pw_and (pt_cmpR op_eq (pv 5) pe_int (nomark _)) (pw_and1 (pt_cmpR op_gt (pe_callB x_lenL (by rfl) T.b_len (by decide +kernel) (pa_cons (pv 6) pa_nil)) pe_int (nomark _))))) (pss_cons (ps_set (i := 10) sc_law_point_changed.nd rfl (Or.inr rfl) (pe_ix ix_list (pv 6) (pe_op op_mod (pe_op op_add (pe_op op_add (pv 7) pe_int) (pe_op op_mod (pe_op op_fdiv (pv 7) pe_int) (pe_op op_sub (pe_callB x_lenL (by rfl) T.b_len (by decide +kernel) (pa_cons (pv 6) pa_nil)) pe_int))) (pe_callB x_lenL (by rfl) T.b_len (by decide +kernel) (pa_cons (pv 6) pa_nil))) (fun _ _ => rfl)))
      (pss_cons (ps_for PassesOwn.never rfl (pi_list (pe_lc (own := [("_law_number_here", 14)]) (by rfl) sc_law_point_changed.nd (pi_list (pv 9)) (blkOk_by (own := [("_law_number_here", 14)]) (N := N_law_point_changed) (sc := defScope s_law_point_changed) (by decide +kernel)) (fun _ _ _ _ _ => (pg_name (i := 14) sc_law_point_changed.nd rfl (Or.inl rfl))) (fun _ _ _ _ _ => (pts_one (pt_cmpR (op_in_seqK K rfl) (pv 10) (pe_slice (sl_tupK K rfl) (pe_dget hu (pe_dget hu (pv 1) pe_str (fun _ _ => rfl)) (pv 14) (fun _ _ => rfl)) po_none (po_some pe_int)) (by rfl)))) (fun _ _ _ _ _ => (pv 14)))) (pg_name (i := 14) sc_law_point_changed.nd rfl (Or.inl rfl))
      (pss_one (ps_expr (pe_dpop1 (pe_dget hu (pv 1) pe_str (fun _ _ => rfl)) (pv 14) ⟨rfl, rfl, rfl, rfl⟩))))
      (pss_cons (ps_expr (pe_call (ok_law_moved T) (hr.mono (by decide)) (by rfl) T.g_law_moved T.F_law_moved.kp T.k_law_moved .nil pass0 (pa_cons (pv 1) (pa_cons (pv 10) (pa_cons (pv 8) (pa_cons (pe_call (ok_law_at T) (hr.mono (by decide)) (by rfl) T.g_law_at T.F_law_at.kp T.k_law_at .nil pass0 (pa_cons (pv 1) (pa_cons (pv 10) pa_nil))) pa_nil))))))
      (pss_cons (ps_expr (pe_bm PySem.F.plainAttrs_list PySem.F.slot_list_remove PySem.F.type_list_remove mt_removeS (pv 6) (pa_cons (pv 10) pa_nil)))
      (pss_one (ps_ret (pe_cmpR op_isN1 (pe_meth (pv 0) T.cl_Web T.m_Web_join (ok_Web_join T) (hr.mono (by decide)) T.k_Web_join .nil pass0 (pa_cons (pv 8) (pa_cons (pv 10) pa_nil))) pe_non (nomark _)))))))) pss_nil)
      (pss_cons (ps_setLc (i := 15) (own := [("_law_one", 19)]) (by rfl) sc_law_point_changed.nd rfl rfl (sw_true rfl rfl rfl (by decide +kernel)) (pi_list (pv 6)) (blkOk_by (own := [("_law_one", 19)]) (N := N_law_point_changed) (sc := defScope s_law_point_changed) (by decide +kernel)) (fun _ _ _ _ _ => (pg_name (i := 19) sc_law_point_changed.nd rfl (Or.inl rfl))) (fun _ _ _ _ _ => (pts_one (pt_cmpR (op_eqDK K rfl hr.units) (pe_call (ok_law_at T) (hr.mono (by decide)) (by rfl) T.g_law_at T.F_law_at.kp T.k_law_at .nil pass0 (pa_cons (pv 1) (pa_cons (pv 19) pa_nil))) (pe_lst pa_nil) (nomark _)))) (fun _ _ _ _ _ => (pv 19)))
      (pss_cons (ps_if (PW.pt (pw_or (pt_cmpR (op_eqD hr.units) (pv 15) (pe_lst pa_nil) (nomark _)) (pw_or1 (pt_cmpR op_lt (pe_callB x_lenL (by rfl) T.b_len (by decide +kernel) (pa_cons (pv 6) pa_nil)) pe_int (nomark _))))) (pss_one (ps_ret pe_bl)) pss_nil)
      (pss_cons (ps_expr (pe_bm PySem.F.plainAttrs_list PySem.F.slot_list_remove PySem.F.type_list_remove mt_removeS (pv 6) (pa_cons (pe_ix ix_list (pv 15) (pe_op op_mod (pv 7) (pe_callB x_lenL (by rfl) T.b_len (by decide +kernel) (pa_cons (pv 15) pa_nil))) (fun _ _ => rfl)) pa_nil)))
      (pss_cons (ps_set (i := 16) sc_law_point_changed.nd rfl (Or.inl rfl) (pe_ix ix_list (pe_lc (own := [("_law_one", 19)]) (by rfl) sc_law_point_changed.nd (pi_list (pv 15)) (blkOk_by (own := [("_law_one", 19)]) (N := N_law_point_changed) (sc := defScope s_law_point_changed) (by decide +kernel)) (fun _ _ _ _ _ => (pg_name (i := 19) sc_law_point_changed.nd rfl (Or.inl rfl))) (fun _ _ _ _ _ => (pts_one (pt_cmpR (op_notIn_seqK K rfl) (pv 19) (pv 6) (by rfl)))) (fun _ _ _ _ _ => (pv 19))) pe_int (fun _ _ => rfl)))
      (pss_one (ps_ret (pe_cmpR op_isN1 (pe_meth (pv 0) T.cl_Web T.m_Web_drop_point (ok_Web_drop_point T) (hr.mono (by decide)) T.k_Web_drop_point .nil pass0 (pa_cons (pv 16) pa_nil)) pe_non (nomark _)))))))))))))))), ?_⟩
    have em := hp.mod.self
    have en := hp.mod.pts
    have l48 := hp.ok.tl
    have l16 := hp.ok.le
    walk_at "go"
    refine ⟨c, k, 6, rfl, k0, k1, by decide, by decide, fun n n0 n1 => ?_⟩
    walk_at "go"
    refine i_lenL (SqL.of en) ?_
    rw [List.length_map]
    obtain ⟨g1, g2, g3, g4, g5⟩ := off_ne (L := (w.ps.length : Int)) n0 (by omega)
    refine i_rI ?_ (by omega)
    obtain ⟨x, hx1, hx2, hx3⟩ := pick V.str g1 g2
    refine i_ixL (SqL.of en) hx3 ?_
    walk_at "go"
    refine ⟨m, nl, td, w, x, rfl, hp.mod, hp.ok.rise, l48, fun oa H1 s1 hoa eo => ?_⟩
    have noa : oa ≠ nl := fun e => by rw [e] at hoa; rw [hoa] at en; cases en
    have hp1 : Pair K H1 p l d m nl td w := ⟨hp.web.same s1, hp.mod.same s1, hp.ok, hp.ln, hp.dt, hp.dm⟩
    have em1 := hp1.mod.self
    have en1 := hp1.mod.pts
    have ef1 := s1 _ _ hfa
    have q1 : DQ K H1 p l d m nl td w Q := fun H' d' w' hd' hp' hg' kp' => by
      refine q H' d' w' ?_ hp' hg' ((Kp.same s1).trans kp')
      rcases hd' with e | e
      · exact .inl e
      · exact .inr (s1.free e)
    walk_at "go"
    refine i_lenL (SqL.of ef1) ?_
    rw [List.length_map]
    have hL : (0 : Int) < (free.length : Int) := by omega
    refine i_rI ?_ hL
    obtain ⟨y, hy1, hy2, hy3⟩ := pick V.str (Int.emod_nonneg (n / 20) (Int.ne_of_gt hL)) (Int.emod_lt_of_pos (n / 20) hL)
    refine i_ixL (SqL.of ef1) hy3 ?_
    obtain ⟨hyn, hyp⟩ := hfree y hy2
    walk_at "go"
    refine i_dec (fun _ => ?_) (fun _ => ?_)
    · walk_at "go"
      refine i_kTyL (SqL.of en1) ?_
      walk_at "go"
      refine i_indexS (SqL.of en1) hx2 ?_
      have hlt : w.ps.idxOf x < w.ps.length := List.idxOf_lt_length_iff.mpr hx2
      refine i_setL en1 (j := w.ps.idxOf x) (by rw [List.length_map]; exact ixN_at hlt) ?_
      rw [← List.map_set]
      obtain ⟨b1, b2⟩ := hp1.mod.setPts (Same.refl H1) (ps := w.ps.set (w.ps.idxOf x) y)
      have hw2 := hp1.web.besideM hp1.mod hp.ln hp.dt hp.dm b2
      have eo2 := (upd_ne noa (o := .lst ((w.ps.set (w.ps.idxOf x) y).map V.str))).trans eo
      generalize upd H1 nl (.lst ((w.ps.set (w.ps.idxOf x) y).map V.str)) = H2 at b1 b2 hw2 eo2 ⊢
      walk_at "go"
      refine ⟨m, nl, td, _, x, y, oa, atP w.ts x, rfl, b1, hp.ok.rise, l48, eo2, noa, at_nd hp.ok.rise, fun n hn => (at_get hp.ok.rise n hn).imp fun _ h => h.1, fun H3 b3 b4 => ?_⟩
      rw [at_turn hp.ok.rise] at b3
      have hw3 := hw2.besideM b1 hp.ln hp.dt hp.dm b4
      obtain ⟨dx, ep⟩ := hw3.self
      walk_at "go"
      refine i_kMethC ep rfl ?_
      walk_at "go"
      refine ⟨p, l, d, w, x, y, rfl, hw3, hp.ok, hx2, hyp, hyn, fun H4 d' hd' a1 a2 => ?_⟩
      walk_at "go"
      exact fin_deed q1 ((Kp.web b2 (by simp)).trans (Kp.web b4 (by simp))) hw3 b3 hp.ln hp.dt hp.dm hd' a1 a2 (hp.ok.ren hx2 hyp hyn)
    · walk_at "go"
      refine ⟨fun σ' H' => σ' = [some (.ref p), some (.ref m), some (.ref fa), some (.int c), some (.int k), some (.int way), some (.ref nl), some (.int n), some (.str x), some (.ref oa), some (.str y), none, none, none, none, none, none, none, none, none] ∧ H1 = H', ?_, ?_⟩
      · walk_at "go"
        refine i_dec (fun _ => ?_) (fun _ => ?_)
        · walk_at "go"
          refine i_lenL (SqL.of en1) ?_
          rw [List.length_map]
          walk_at "go"
          refine i_dec (fun hlt => ?_) (fun _ => ?_)
          · have hlt' : w.ps.length < 16 := by omega
            walk_at "go"
            refine i_lenL (SqL.of eo) ?_
            rw [List.length_map]
            have lat : (atP w.ts x).length ≤ 48 := Nat.le_trans at_len l48
            apply i_nil
            refine i_kRng1 ?_ (by omega)
            intro D hD
            refine lc_it walk_range (fun i H' => Same H1 H' ∧ ∃ bs : List Int, H' D = some (.lst (bs.map V.int)) ∧ bs.length = i)
              ⟨Same.new hD, [], upd_same, rfl⟩ (fun _ _ _ _ => trivial) ?_ ?_
            · rintro i v H2 H3 hi ⟨s2, bs, eD, hb⟩ ⟨rfl, rfl⟩
              walk_at "go"
              refine ⟨rfl, ?_⟩
              walk_at "go"
              have hj0 : 0 ≤ ((0 : Int) + (i : Int)) % 20 := by omega
              have hj1 : ((0 : Int) + (i : Int)) % 20 < 20 := by omega
              generalize ((0 : Int) + (i : Int)) % 20 = j at hj0 hj1 ⊢
              have hq0 : (0 : Int) < 1 * 2 ^ j.toNat := by rw [Int.one_mul]; exact Int.pow_pos (by decide)
              have hq1 : (1 : Int) * 2 ^ j.toNat < 1073741824 := by
                rw [Int.one_mul]
                have h1 : (2 : Nat) ^ j.toNat ≤ 2 ^ 20 := Nat.pow_le_pow_right (by decide) (by omega)
                have h2 : ((2 : Int) ^ j.toNat) = ((2 ^ j.toNat : Nat) : Int) := by norm_cast
                rw [h2]
                have : (2 : Nat) ^ 20 < 1073741824 := by decide
                omega
              refine i_rI ?_ ⟨hq0, hq1⟩
              clear hq0 hq1
              generalize (1 : Int) * 2 ^ j.toNat = pw
              walk_at "go"
              refine ⟨_, eD, ?_, Same.mut s2 hD, bs ++ [_], by rw [upd_same, List.map_append]; rfl, by simp [hb]⟩
              rw [List.length_map, sizeLine_eq]; omega
            · rintro H2 ⟨s2, bs, eD, hb⟩
              have eo2 := s2 _ _ eo
              have hb2 : (atP w.ts x).length = min (List.map V.int (atP w.ts x)).length (List.map V.int bs).length := by
                rw [List.length_map, List.length_map, hb]; omega
              walk_at "go"
              apply i_stepL
              walk_at "go"
              refine i_kZip (SqL.of eo2) (SqL.of eD) ?_
              intro G hG
              refine lc_it (walk_zip hb2) (fun i H' => Same H2 H' ∧ ∃ cs : List Int, H' G = some (.lst (cs.map V.int)) ∧ cs.Sublist ((atP w.ts x).take i))
                ⟨Same.new hG, [], upd_same, by simp⟩ (fun i H' _ h => ⟨SqL.of (h.1 _ _ eo2), SqL.of (h.1 _ _ eD)⟩) ?_ ?_
              · rintro i v H3 H4 hi ⟨s3, cs, eG, hcs⟩ ⟨T0, v1, v2, rfl, hT, rfl, hv1, hv2⟩
                have hv1 : ((atP w.ts x).map V.int)[i]? = some v1 := hv1
                have hv2 : (bs.map V.int)[i]? = some v2 := hv2
                rw [List.getElem?_map, List.getElem?_eq_getElem hi] at hv1
                cases hv1
                have hi2 : i < bs.length := by omega
                rw [List.getElem?_map, List.getElem?_eq_getElem hi2] at hv2
                cases hv2
                have eT : (atP w.ts x).take (i + 1) = (atP w.ts x).take i ++ [(atP w.ts x)[i]] := by rw [List.take_add_one, List.getElem?_eq_getElem hi]; rfl
                have eG4 := (upd_ne (ne_of_none eG hT) (o := .tup [.int (atP w.ts x)[i], .int bs[i]])).trans eG
                have s4 : Same H2 (upd H3 T0 (.tup [.int (atP w.ts x)[i], .int bs[i]])) := s3.trans (Same.new hT)
                walk_at "go"
                refine i_gTup (SqT.of upd_same) rfl ?_
                walk_at "go"
                refine ⟨rfl, ?_⟩
                walk_at "go"
                refine i_dec (fun _ => ?_) (fun _ => ?_)
                · walk_at "go"
                  refine ⟨_, eG4, ?_, Same.mut s4 hG, cs ++ [(atP w.ts x)[i]], by rw [upd_same, List.map_append]; rfl, ?_⟩
                  · have h1 := hcs.length_le
                    rw [List.length_take] at h1
                    rw [List.length_map, sizeLine_eq]; omega
                  · rw [eT]
                    exact hcs.append (List.Sublist.refl _)
                · walk_at "go"
                  refine ⟨s4, cs, eG4, ?_⟩
                  rw [eT]
                  exact hcs.trans (List.sublist_append_left _ _)
              · rintro H3 ⟨s3, cs, eG, hcs⟩
                rw [List.take_length] at hcs
                walk_at "go"
                refine ⟨by walk_at "sz", fun p5 hp5 => ?_⟩
                walk_at "go"
                have eG5 := (upd_ne (ne_of_none eG hp5) (o := .lst [.int 1, .int (-1)])).trans eG
                have s5 : Same H1 (upd H3 p5 (.lst [.int 1, .int (-1)])) := (s2.trans s3).trans (Same.new hp5)
                obtain ⟨sg, hsg, esg⟩ : ∃ sg : Int, (sg = 1 ∨ sg = -1) ∧ atI [V.int 1, .int (-1)] (n % 2) = some (.int sg) := by
                  have : n % 2 = 0 ∨ n % 2 = 1 := by omega
                  rcases this with e | e <;> rw [e]
                  · exact ⟨1, .inl rfl, rfl⟩
                  · exact ⟨-1, .inr rfl, rfl⟩
                refine i_ixL (SqL.of upd_same) esg ?_
                walk_at "go"
                refine i_kStepL (SqL.of eG5) hsg fun ca hca => ?_
                obtain ⟨ns, ens, hns1, hns2, hns3⟩ : ∃ ns : List Int, (if sg = 1 then cs.map V.int else (cs.map V.int).reverse) = ns.map V.int ∧ ns.Nodup ∧ (∀ n ∈ ns, n ∈ atP w.ts x) ∧ ns.length ≤ 48 := by
                  have h1 : cs.Nodup := hcs.nodup (at_nd hp.ok.rise)
                  have h2 : ∀ n ∈ cs, n ∈ atP w.ts x := fun n hn => hcs.subset hn
                  have h3 := hcs.length_le
                  rcases hsg with rfl | rfl
                  · exact ⟨cs, rfl, h1, h2, by omega⟩
                  · exact ⟨cs.reverse, by rw [if_neg (by decide), List.map_reverse], List.pairwise_reverse.mpr (h1.imp fun h => h.symm), fun n hn => h2 n (List.mem_reverse.mp hn), by rw [List.length_reverse]; omega⟩
                rw [ens]
                have s6 : Same H1 (upd (upd H3 p5 (.lst [.int 1, .int (-1)])) ca (.lst (ns.map V.int))) := s5.trans (Same.new hca)
                have eca : (upd (upd H3 p5 (.lst [.int 1, .int (-1)])) ca (.lst (ns.map V.int))) ca = some (.lst (ns.map V.int)) := upd_same
                have fca := s5.free hca
                generalize upd (upd H3 p5 (.lst [.int 1, .int (-1)])) ca (.lst (ns.map V.int)) = H6 at s6 eca ⊢
                have nca : ca ≠ nl := fun e => by rw [e] at fca; rw [fca] at en1; cases en1
                have hm6 := hp1.mod.same s6
                have hw6 := hp1.web.same s6
                have en6 := hm6.pts
                walk_at "go"
                refine i_kTyL (SqL.of en6) ?_
                walk_at "go"
                refine i_append en6 ?_ (by rw [List.length_map, sizeLine_eq]; omega)
                have bb : ModAt (upd H6 nl (.lst (w.ps.map V.str ++ [.str y]))) m nl td { w with ps := w.ps ++ [y] } ∧ Keep H6 (upd H6 nl (.lst (w.ps.map V.str ++ [.str y]))) m nl td := by
                  have z := hm6.setPts (Same.refl H6) (ps := w.ps ++ [y])
                  rw [List.map_append] at z
                  exact z
                obtain ⟨b1, b2⟩ := bb
                have hw7 := hw6.besideM hm6 hp.ln hp.dt hp.dm b2
                have eca7 := (upd_ne nca (o := .lst (w.ps.map V.str ++ [.str y]))).trans eca
                have k7 : Kp H1 (upd H6 nl (.lst (w.ps.map V.str ++ [.str y]))) [p, l, d, m, nl, td] := (Kp.same s6).trans (Kp.web b2 (by simp))
                generalize upd H6 nl (.lst (w.ps.map V.str ++ [.str y])) = H7 at b1 b2 hw7 eca7 k7 ⊢
                walk_at "go"
                have hget : ∀ n ∈ ns, ∃ t, tget w.ts n = some t ∧ (t.t = x ∨ t.h = x) := fun n hn => at_get hp.ok.rise n (hns2 n hn)
                refine ⟨m, nl, td, _, x, y, ca, ns, rfl, b1, hp.ok.rise, l48, eca7, nca, hns1, fun n hn => (hget n hn).imp fun _ h => h.1, fun H8 b3 b4 => ?_⟩
                have hw8 := hw7.besideM b1 hp.ln hp.dt hp.dm b4
                have ncm : ca ≠ m := fun e => by rw [e] at fca; rw [fca] at em1; cases em1
                have nct : ca ≠ td := fun e => by
                  obtain ⟨_, et, _⟩ := hp1.mod.ties
                  rw [e] at fca; rw [fca] at et; cases et
                have ncl : ca ≠ l := fun e => by
                  have e2 := hp1.web.pts
                  rw [e] at fca; rw [fca] at e2; cases e2
                have eca8 := b4 _ _ ncm nca nct eca7
                have k8 : Kp H1 H8 [p, l, d, m, nl, td] := k7.trans (Kp.web b4 (by simp))
                walk_at "go"
                refine ⟨ca, _, rfl, .inl (SqL.of eca8), fun ha hha => ?_⟩
                have s9 : Same H8 (upd H8 ha (.lst (ns.map V.int))) := Same.new hha
                have eha : (upd H8 ha (.lst (ns.map V.int))) ha = some (.lst (ns.map V.int)) := upd_same
                have eca9 := s9 _ _ eca8
                have hw9 := hw8.same s9
                have b9 := b3.same s9
                have k9 := k8.trans (Kp.same s9)
                have nhl : ha ≠ l := fun e => by
                  have e2 := hw8.pts
                  rw [← e, hha] at e2; cases e2
                have nhn : ha ≠ nl := fun e => by
                  have e2 := b3.pts
                  rw [← e, hha] at e2; cases e2
                generalize upd H8 ha (.lst (ns.map V.int)) = H9 at s9 eha eca9 hw9 b9 k9 ⊢
                obtain ⟨dx, ep⟩ := hw9.self
                walk_at "go"
                refine i_kMethC ep rfl ?_
                walk_at "go"
                refine ⟨p, l, d, w, x, y, ha, ns, rfl, hw9, hp.ok, hx2, hyp, hyn, hlt', eha, nhl, hns1, hns3, hget, fun H10 a1 a2 => ?_⟩
                have b10 := b9.beside hw9 hp.ln hp.dt hp.dm a2
                have nhp : ha ≠ p := fun e => by rw [← e, eha] at ep; cases ep
                have nhd : ha ≠ d := fun e => by
                  obtain ⟨_, ed, _⟩ := hw9.ties
                  rw [← e, eha] at ed; cases ed
                have ncp : ca ≠ p := fun e => by rw [← e, eca9] at ep; cases ep
                have ncd : ca ≠ d := fun e => by
                  obtain ⟨_, ed, _⟩ := hw9.ties
                  rw [← e, eca9] at ed; cases ed
                have eha10 := a2 _ _ nhp nhl nhd eha
                have eca10 := a2 _ _ ncp ncl ncd eca9
                walk_at "go"
                refine i_dec (fun _ => ?_) (fun e => absurd rfl e)
                walk_at "go"
                refine i_eqSameI (SqL.of eha10) (SqL.of eca10) ?_
                walk_at "go"
                refine q1 _ d (w.part x y ns) (.inl rfl) ⟨a1, b10, hp.ok.part hyp hyn hlt', hp.ln, hp.dt, hp.dm⟩ (by show w.g ≤ w.g + 1; omega) ?_
                exact fun b o hb e => (k9.trans (Kp.web a2 (by simp))) b o hb e
          · walk_at "go"
            exact ⟨rfl, rfl⟩
        · walk_at "go"
          exact ⟨rfl, rfl⟩
      · rintro _ _ ⟨rfl, rfl⟩
        walk_at "go"
        refine ⟨fun σ' H' => σ' = [some (.ref p), some (.ref m), some (.ref fa), some (.int c), some (.int k), some (.int way), some (.ref nl), some (.int n), some (.str x), some (.ref oa), some (.str y), none, none, none, none, none, none, none, none, none] ∧ H1 = H', ?_, ?_⟩
        · walk_at "go"
          refine i_dec (fun _ => ?_) (fun _ => ?_)
          · walk_at "go"
            refine i_lenL (SqL.of en1) ?_
            rw [List.length_map]
            walk_at "go"
            refine i_dec (fun hlt => ?_) (fun _ => ?_)
            · walk_at "go"
              refine i_lenL (SqL.of en1) ?_
              rw [List.length_map]
              walk_at "go"
              refine i_lenL (SqL.of en1) ?_
              rw [List.length_map]
              refine i_rI ?_ (by omega)
              obtain ⟨o, ho1, ho2, ho3⟩ := pick V.str g3 g4
              refine i_ixL (SqL.of en1) ho3 ?_
              have hxo : x ≠ o := by
                rintro rfl
                have := nd_idx hp.ok.nd hx1 ho1
                omega
              walk_at "go"
              refine i_kListI (SqL.of eo) ?_
              intro D hD
              refine lc_it walk_list (fun i H' => Same H1 H' ∧ H' D = some (.lst ((btw w.ts ((atP w.ts x).take i) o).map V.int)))
                ⟨Same.new hD, by rw [upd_same]; rfl⟩ (fun i H' _ h => SqL.of (h.1 _ _ eo)) ?_ ?_
              · rintro i v H2 H3 hi ⟨s2, eD⟩ ⟨rfl, hv⟩
                rw [List.length_map] at hi
                rw [List.getElem?_map, List.getElem?_eq_getElem hi] at hv
                cases hv
                obtain ⟨t, hg, _⟩ := at_get hp.ok.rise _ (List.getElem_mem hi)
                have hm2 := hp1.mod.same s2
                have em2 := hm2.self
                obtain ⟨kv2, et2, hd2⟩ := hm2.ties
                obtain ⟨b, eb, tb⟩ := hd2.get hg
                have eT : btw w.ts ((atP w.ts x).take (i + 1)) o = btw w.ts ((atP w.ts x).take i) o ++ (if (decide (o = t.t) || decide (o = t.h)) = true then [(atP w.ts x)[i]] else []) := by
                  unfold btw
                  rw [List.take_add_one, List.getElem?_eq_getElem hi, List.filter_append]
                  congr 1
                  show [(atP w.ts x)[i]].filter _ = _
                  rw [List.filter_cons, hg]
                  show (if (decide (o = t.t) || decide (o = t.h)) = true then _ else _) = _
                  split <;> rfl
                walk_at "go"
                refine ⟨rfl, ?_⟩
                walk_at "go"
                refine i_kDGetI et2 eb ?_
                walk_at "go"
                refine i_slT (SqT.of tb) (show ¬(HT.sIx 4 0 none = 0 ∧ HT.sIx 4 4 (some 2) = 4) by decide) fun p3 hp3 => ?_
                rw [cut2]
                refine i_inT (SqT.of upd_same) ?_
                rw [ends_in]
                have s3 : Same H1 (upd H3 p3 (.tup ([t.t, t.h].map V.str))) := s2.trans (Same.new hp3)
                have eD3 : (upd H3 p3 (.tup ([t.t, t.h].map V.str))) D = some (.lst ((btw w.ts ((atP w.ts x).take i) o).map V.int)) := (upd_ne (ne_of_none eD hp3)).trans eD
                generalize upd H3 p3 (.tup ([t.t, t.h].map V.str)) = H4 at s3 eD3 ⊢
                show kB _ (.bl (decide (o = t.t) || decide (o = t.h))) H4
                walk_at "go"
                apply i_b
                · intro cc
                  rw [if_pos cc] at eT
                  walk_at "go"
                  refine ⟨_, eD3, ?_, Same.mut s3 hD, ?_⟩
                  · have l1 : (btw w.ts ((atP w.ts x).take i) o).length ≤ ((atP w.ts x).take i).length := List.length_filter_le _ _
                    have l3 := at_len (ts := w.ts) (x := x)
                    rw [List.length_take] at l1
                    rw [List.length_map, sizeLine_eq]; omega
                  · rw [upd_same, eT, List.map_append]; rfl
                · intro cc
                  rw [if_neg (by rw [cc]; decide), List.append_nil] at eT
                  walk_at "go"
                  rw [eT]
                  exact ⟨s3, eD3⟩
              · rintro H2 ⟨s2, eD⟩
                rw [List.length_map, List.take_length] at eD
                have hm2 := hp1.mod.same s2
                have hw2 := hp1.web.same s2
                have nDm : D ≠ m := fun e => by rw [e] at hD; rw [hD] at em1; cases em1
                have nDn : D ≠ nl := fun e => by rw [e] at hD; rw [hD] at en1; cases en1
                have nDt : D ≠ td := fun e => by
                  obtain ⟨_, et, _⟩ := hp1.mod.ties
                  rw [e] at hD; rw [hD] at et; cases et
                have hBn : (btw w.ts (atP w.ts x) o).Nodup := (at_nd hp.ok.rise).filter _
                have b0 : ModAt H2 m nl td { w with ts := w.ts.filter fun nt => decide (nt.1 ∉ (btw w.ts (atP w.ts x) o).take 0) } := by
                  have e : (w.ts.filter fun nt => decide (nt.1 ∉ (btw w.ts (atP w.ts x) o).take 0)) = w.ts := by simp
                  rw [e]; exact hm2
                have hBm : ∀ n ∈ btw w.ts (atP w.ts x) o, ∃ t, (n, t) ∈ w.ts := fun n hn => by
                  obtain ⟨t, h1, _⟩ := at_get hp.ok.rise n (List.mem_filter.mp hn).1
                  exact ⟨t, tget_mem h1⟩
                have hBe := join_eq hp.ok hxo
                have hrise : ∀ B : List Int, Rise (w.ts.filter fun nt => decide (nt.1 ∉ B)) := fun B => hp.ok.rise.filter _
                generalize btw w.ts (atP w.ts x) o = B at eD hBn b0 hBm hBe ⊢
                walk_at "go"
                refine i_kListI (SqL.of eD) ?_
                refine for_it walk_list (fun i σ H' => ModAt H' m nl td { w with ts := w.ts.filter fun nt => decide (nt.1 ∉ B.take i) } ∧ Keep H2 H' m nl td ∧ ∃ v, σ = [some (.ref p), some (.ref m), some (.ref fa), some (.int c), some (.int k), some (.int way), some (.ref nl), some (.int n), some (.str x), some (.ref oa), some (.str o), none, none, none, v, none, none, none, none, none])
                  ⟨b0, Keep.rfl, none, rfl⟩ (fun i σ H' _ h => SqL.of (h.2.1 _ _ nDm nDn nDt eD)) ?_ ?_
                · rintro i v σ H3 H4 hi ⟨b3, k3, v1, rfl⟩ ⟨rfl, hv⟩
                  rw [List.length_map] at hi
                  rw [List.getElem?_map, List.getElem?_eq_getElem hi] at hv
                  cases hv
                  have hni : ¬ B[i] ∈ B.take i := by
                    intro mm
                    obtain ⟨k, hk, ek⟩ := List.mem_take_iff_getElem.mp mm
                    have := (List.getElem_inj hBn (h₀ := by omega) (h₁ := hi)).mp ek
                    omega
                  obtain ⟨t, ht⟩ := hBm B[i] (List.getElem_mem hi)
                  have hg := tget_of (hrise (B.take i)) (List.mem_filter.mpr ⟨ht, by simpa using hni⟩)
                  have em3 := b3.self
                  obtain ⟨kvs, et3, hd3⟩ := b3.ties
                  obtain ⟨b, eb, tb⟩ := hd3.get hg
                  walk_at "go"
                  apply i_dpop1
                  walk_at "go"
                  refine ⟨td, rfl, .inl ⟨kvs, .inl et3⟩, ?_⟩
                  walk_at "go"
                  refine ⟨kvs, Sum.inl B[i], _, et3, rfl, eb, ?_⟩
                  obtain ⟨b4, b5⟩ := b3.setTies (Same.refl H4) (hd3.drop (n := B[i]))
                  have eT : B.take (i + 1) = B.take i ++ [B[i]] := by rw [List.take_add_one, List.getElem?_eq_getElem hi]; rfl
                  rw [show ({ w with ts := w.ts.filter fun nt => decide (nt.1 ∉ B.take i) } : Wb).ts = w.ts.filter fun nt => decide (nt.1 ∉ B.take i) from rfl, drop_more, ← eT] at b4
                  exact ⟨b4, k3.trans b5 (.inl rfl), _, rfl⟩
                · rintro σ H3 ⟨b3, k3, v1, rfl⟩
                  rw [List.length_map, List.take_length] at b3
                  have hw3 := hw2.besideM hm2 hp.ln hp.dt hp.dm k3
                  have hr3 := hrise B
                  have hl3 : (w.ts.filter fun nt => decide (nt.1 ∉ B)).length ≤ 48 := Nat.le_trans (List.length_filter_le _ _) l48
                  walk_at "go"
                  refine ⟨m, nl, td, _, o, rfl, b3, hr3, hl3, fun ab H4 s4 hab eab => ?_⟩
                  have en4 := (b3.same s4).pts
                  have nab : ab ≠ nl := fun e => by
                    have e3 := b3.pts
                    rw [← e, hab] at e3; cases e3
                  have hw4 := hw3.same s4
                  walk_at "go"
                  refine ⟨m, nl, td, _, o, x, ab, _, rfl, b3.same s4, hr3, hl3, eab, nab, at_nd hr3, fun n hn => (at_get hr3 n hn).imp fun _ h => h.1, fun H5 b5 b6 => ?_⟩
                  have b5' : ModAt H5 m nl td { w with ts := (w.join x o).ts } := by
                    rw [← hBe]
                    have := at_turn hr3 (x := o) (y := x)
                    rw [← this]
                    exact b5
                  have hw5 := hw4.besideM (b3.same s4) hp.ln hp.dt hp.dm b6
                  have en5 := b5'.pts
                  walk_at "go"
                  refine i_kTyL (SqL.of en5) ?_
                  walk_at "go"
                  refine i_remS en5 ho2 ?_
                  obtain ⟨b7, b8⟩ := b5'.setPts (Same.refl H5) (ps := w.ps.erase o)
                  have hw7 := hw5.besideM b5' hp.ln hp.dt hp.dm b8
                  have kp7 : Kp H1 (upd H5 nl (.lst ((w.ps.erase o).map V.str))) [p, l, d, m, nl, td] := ((((Kp.same s2).trans (Kp.web k3 (by simp))).trans (Kp.same s4)).trans (Kp.web b6 (by simp))).trans (Kp.web b8 (by simp))
                  generalize upd H5 nl (.lst ((w.ps.erase o).map V.str)) = H7 at b7 hw7 kp7 ⊢
                  obtain ⟨dx, ep⟩ := hw7.self
                  walk_at "go"
                  refine i_kMethC ep rfl ?_
                  walk_at "go"
                  refine ⟨p, l, d, w, x, o, rfl, hw7, hp.ok, hx2, ho2, hxo, fun H8 d' hd' a1 a2 => ?_⟩
                  walk_at "go"
                  exact fin_deed q1 kp7 hw7 b7 hp.ln hp.dt hp.dm hd' a1 a2 (hp.ok.join hx2 ho2 hxo)
            · walk_at "go"
              exact ⟨rfl, rfl⟩
          · walk_at "go"
            exact ⟨rfl, rfl⟩
        · rintro _ _ ⟨rfl, rfl⟩
          walk_at "go"
          have hlps : w.ps.length ≤ 16 := l16
          refine i_kListI (SqL.of en1) ?_
          intro D hD
          refine lc_it walk_list (fun i H' => Same H1 H' ∧ H' D = some (.lst ((idles w (w.ps.take i)).map V.str)))
            ⟨Same.new hD, by rw [upd_same]; rfl⟩ (fun i H' _ h => SqL.of (h.1 _ _ en1)) ?_ ?_
          · rintro i v H2 H3 hi ⟨s2, eD⟩ ⟨rfl, hv⟩
            rw [List.length_map] at hi
            rw [List.getElem?_map, List.getElem?_eq_getElem hi] at hv
            cases hv
            have hm2 := hp1.mod.same s2
            have eT : idles w (w.ps.take (i + 1)) = idles w (w.ps.take i) ++ (if (atP w.ts w.ps[i]).isEmpty = true then [w.ps[i]] else []) := by
              unfold idles
              rw [List.take_add_one, List.getElem?_eq_getElem hi, List.filter_append]
              congr 1
              show [w.ps[i]].filter _ = _
              rw [List.filter_cons]
              split <;> rfl
            walk_at "go"
            refine ⟨rfl, ?_⟩
            walk_at "go"
            refine ⟨m, nl, td, w, w.ps[i], rfl, hm2, hp.ok.rise, l48, fun ab H4 s4 hab eab => ?_⟩
            walk_at "go"
            refine ⟨by walk_at "sz", fun p5 hp5 => ?_⟩
            refine i_eqNilI (SqL.of ((upd_ne (ne_of_none eab hp5)).trans eab)) (SqL.of upd_same) ?_
            have s5 : Same H1 (upd H4 p5 (.lst [])) := (s2.trans s4).trans (Same.new hp5)
            have eD4 := s4 _ _ eD
            have eD5 := (upd_ne (ne_of_none eD4 hp5) (o := .lst [])).trans eD4
            generalize upd H4 p5 (.lst []) = H5 at s5 eD5 ⊢
            walk_at "go"
            apply i_b
            · intro cc
              rw [if_pos cc] at eT
              walk_at "go"
              refine ⟨_, eD5, ?_, Same.mut s5 hD, ?_⟩
              · have l1 : (idles w (w.ps.take i)).length ≤ (w.ps.take i).length := List.length_filter_le _ _
                rw [List.length_take] at l1
                rw [List.length_map, sizeLine_eq]; omega
              · rw [upd_same, eT, List.map_append]; rfl
            · intro cc
              rw [if_neg (by rw [cc]; decide), List.append_nil] at eT
              walk_at "go"
              rw [eT]
              exact ⟨s5, eD5⟩
          · rintro H2 ⟨s2, eD⟩
            rw [List.length_map, List.take_length] at eD
            have nDn : D ≠ nl := fun e => by rw [e] at hD; rw [hD] at en1; cases en1
            walk_at "go"
            refine ⟨by walk_at "sz", fun p6 hp6 => ?_⟩
            have s6 : Same H1 (upd H2 p6 (.lst [])) := s2.trans (Same.new hp6)
            have eD6 := (upd_ne (ne_of_none eD hp6) (o := .lst [])).trans eD
            have ok6 : ∀ z ∈ idles w w.ps, okS z = true := fun z hz => nm_ok (hp.ok.nm z (List.mem_filter.mp hz).1)
            refine i_eqNil (SqL.of eD6) (SqL.of upd_same) ok6 ?_
            generalize upd H2 p6 (.lst []) = H6 at s6 eD6 ⊢
            have hp6' : Pair K H6 p l d m nl td w := ⟨hp1.web.same s6, hp1.mod.same s6, hp.ok, hp.ln, hp.dt, hp.dm⟩
            have en6 := hp6'.mod.pts
            have stay : Q (.bl true) H6 := q1 H6 d w (.inl rfl) hp6' (by omega) (Kp.same s6)
            walk_at "go"
            apply i_b
            · intro _
              walk_at "go"
              exact stay
            · intro hne
              walk_at "go"
              refine i_lenL (SqL.of en6) ?_
              walk_at "go"
              refine i_dec (fun _ => ?_) (fun _ => ?_)
              · walk_at "go"
                exact stay
              · walk_at "go"
                refine i_kTyL (SqL.of en6) ?_
                walk_at "go"
                refine i_lenL (SqL.of eD6) ?_
                rw [List.length_map]
                have hI : (0 : Int) < ((idles w w.ps).length : Int) := by
                  cases e : idles w w.ps with
                  | nil => rw [e] at hne; cases hne
                  | cons _ _ => simp
                refine i_rI ?_ hI
                obtain ⟨z, hz1, hz2, hz3⟩ := pick V.str (Int.emod_nonneg n (Int.ne_of_gt hI)) (Int.emod_lt_of_pos n hI)
                refine i_ixL (SqL.of eD6) hz3 ?_
                obtain ⟨hz4, hz5⟩ := List.mem_filter.mp hz2
                walk_at "go"
                refine i_remS en6 hz4 ?_
                obtain ⟨b1, b2⟩ := hp6'.mod.setPts (Same.refl H6) (ps := w.ps.erase z)
                have hw7 := hp6'.web.besideM hp6'.mod hp.ln hp.dt hp.dm b2
                have eD7 := (upd_ne nDn (o := .lst ((w.ps.erase z).map V.str))).trans eD6
                have kp7 : Kp H1 (upd H6 nl (.lst ((w.ps.erase z).map V.str))) [p, l, d, m, nl, td] := (Kp.same s6).trans (Kp.web b2 (by simp))
                generalize upd H6 nl (.lst ((w.ps.erase z).map V.str)) = H7 at b1 b2 hw7 eD7 kp7 ⊢
                have en7 := b1.pts
                walk_at "go"
                refine i_kListI (SqL.of eD7) ?_
                intro G hG
                refine lc_it walk_list (fun i H' => Same H7 H' ∧ H' G = some (.lst ((((idles w w.ps).take i).filter fun u => !decide (u ∈ w.ps.erase z)).map V.str)))
                  ⟨Same.new hG, by rw [upd_same]; rfl⟩ (fun i H' _ h => SqL.of (h.1 _ _ eD7)) ?_ ?_
                · rintro i v H8 H9 hi ⟨s8, eG⟩ ⟨rfl, hv⟩
                  rw [List.length_map] at hi
                  rw [List.getElem?_map, List.getElem?_eq_getElem hi] at hv
                  cases hv
                  have eT : ((idles w w.ps).take (i + 1)).filter (fun u => !decide (u ∈ w.ps.erase z)) = ((idles w w.ps).take i).filter (fun u => !decide (u ∈ w.ps.erase z)) ++ (if (!decide ((idles w w.ps)[i] ∈ w.ps.erase z)) = true then [(idles w w.ps)[i]] else []) := by
                    rw [List.take_add_one, List.getElem?_eq_getElem hi, List.filter_append]
                    congr 1
                    show [(idles w w.ps)[i]].filter _ = _
                    rw [List.filter_cons]
                    split <;> rfl
                  walk_at "go"
                  refine ⟨rfl, ?_⟩
                  walk_at "go"
                  refine i_inS (SqL.of (s8 _ _ en7)) ?_
                  show kB _ (.bl (!decide ((idles w w.ps)[i] ∈ w.ps.erase z))) _
                  apply i_kB
                  apply i_b
                  · intro cc
                    rw [if_pos cc] at eT
                    walk_at "go"
                    refine ⟨_, eG, ?_, Same.mut s8 hG, ?_⟩
                    · have l1 : (((idles w w.ps).take i).filter fun u => !decide (u ∈ w.ps.erase z)).length ≤ ((idles w w.ps).take i).length := List.length_filter_le _ _
                      have l2 : (idles w w.ps).length ≤ w.ps.length := List.length_filter_le _ _
                      rw [List.length_take] at l1
                      rw [List.length_map, sizeLine_eq]; omega
                    · rw [upd_same, eT, List.map_append]; rfl
                  · intro cc
                    rw [if_neg (by rw [cc]; decide), List.append_nil] at eT
                    walk_at "go"
                    rw [eT]
                    exact ⟨s8, eG⟩
                · rintro H8 ⟨s8, eG⟩
                  rw [List.length_map, List.take_length] at eG
                  have hone : ((idles w w.ps).filter fun u => !decide (u ∈ w.ps.erase z))[0]? = some z := by
                    have hmem : z ∈ (idles w w.ps).filter fun u => !decide (u ∈ w.ps.erase z) := List.mem_filter.mpr ⟨hz2, by simp [hp.ok.nd.not_mem_erase]⟩
                    cases e : (idles w w.ps).filter fun u => !decide (u ∈ w.ps.erase z) with
                    | nil => rw [e] at hmem; cases hmem
                    | cons u r =>
                      have hu2 : u ∈ (idles w w.ps).filter fun u => !decide (u ∈ w.ps.erase z) := by rw [e]; exact List.mem_cons_self
                      obtain ⟨h1, h2⟩ := List.mem_filter.mp hu2
                      have h3 := (List.mem_filter.mp h1).1
                      by_cases hc : u = z
                      · rw [hc]; rfl
                      · have := (List.mem_erase_of_ne hc).mpr h3
                        simp [this] at h2
                  walk_at "go"
                  refine i_ixL (j := 0) (v := .str z) (SqL.of eG) (atI_nat (j := 0) (by rw [List.getElem?_map, hone]; rfl)) ?_
                  have hw8 := hw7.same s8
                  have b8 := b1.same s8
                  obtain ⟨dx, ep⟩ := hw8.self
                  walk_at "go"
                  refine i_kMethC ep rfl ?_
                  walk_at "go"
                  have hfree : ∀ n t, (n, t) ∈ w.ts → t.t ≠ z ∧ t.h ≠ z := fun n t ht => by
                    have hnone : n ∉ atP w.ts z := by
                      have : atP w.ts z = [] := List.isEmpty_iff.mp hz5
                      rw [this]; simp
                    have := fun e => hnone ((at_in hp.ok.rise ht).mpr e)
                    exact ⟨fun e => this (.inl e), fun e => this (.inr e)⟩
                  refine ⟨p, l, d, w, z, rfl, hw8, hz4, hp.ok.nm z hz4, hfree, fun H9 a1 a2 => ?_⟩
                  walk_at "go"
                  exact fin_deed q1 (kp7.trans (Kp.same s8)) hw8 b8 hp.ln hp.dt hp.dm (.inl rfl) a1 a2 (hp.ok.gone hfree)
end
end K04

set_option Elab.async false
set_option linter.all false
set_option maxRecDepth 100000
set_option maxHeartbeats 4000000
namespace K04
open PySem PySem.Spec PyProof.Rows L2 HX WB
local macro_rules | `(tactic| walk_at "side") => `(tactic| first
  | assumption
  | rfl
  | (show (0 : Int) < _; omega)
  | (unfold CDiv; omega)
  | (unfold CMul; omega)
  | (unfold CPow; omega)
  | (rw [sizeLine_eq]; omega)
  | omega)
local macro_rules | `(tactic| walk_at "e") => `(tactic| first
  | ((with_reducible apply i_var); exact rfl)
  | (with_reducible apply i_c)
  | (with_reducible apply i_op)
  | (with_reducible apply i_un)
  | (with_reducible apply i_rI0)
  | ((with_reducible apply i_rI); (case c => walk_at "side"))
  | (with_reducible apply i_rGe)
  | (with_reducible apply i_rGt)
  | (with_reducible apply i_rU)
  | (with_reducible apply i_rEqI)
  | (with_reducible apply i_rNeI)
  | (with_reducible apply i_rEqS)
  | (with_reducible apply i_rNeS)
  | (with_reducible apply i_rEqB)
  | (with_reducible apply i_rNeB)
  | (with_reducible apply i_rIsN)
  | (with_reducible apply i_rNotN)
  | (with_reducible apply i_rInS)
  | (with_reducible apply i_rNotInS)
  | ((with_reducible apply i_catS); (case c => walk_at "side"))
  | (with_reducible apply i_tcb)
  | (with_reducible apply i_nil)
  | (with_reducible apply i_cons)
  | ((with_reducible apply i_lenS); (case c => walk_at "side"))
  | ((with_reducible apply i_lenL); assumption)
  | (with_reducible apply i_abs)
  | (with_reducible apply i_max2)
  | (with_reducible apply i_min2)
  | ((with_reducible apply i_strI); (case c => walk_at "side"))
  | (with_reducible apply i_intB)
  | (with_reducible apply i_test)
  | (with_reducible apply i_tB)
  | (with_reducible apply i_kB)
  | (with_reducible apply i_and)
  | (with_reducible apply i_or)
  | (with_reducible apply i_not)
  | (with_reducible apply i_if)
  | (with_reducible apply i_andV)
  | (with_reducible apply i_orV)
  | (with_reducible apply i_notV)
  | (with_reducible apply i_kAndV)
  | (with_reducible apply i_kOrV)
  | (with_reducible apply i_kNotV)
  | (with_reducible apply i_chain)
  | (with_reducible apply i_kChain)
  | (with_reducible apply i_drop)
  | (with_reducible apply i_ret)
  | (with_reducible apply i_retN)
  | (with_reducible apply i_ifS)
  | (with_reducible apply i_asg)
  | (with_reducible apply i_gName)
  | (with_reducible apply i_for)
  | (with_reducible apply i_lc)
  | (with_reducible apply i_iList)
  | (with_reducible apply i_iTup)
  | (with_reducible apply i_iStr)
  | (with_reducible apply i_kStrI)
  | (with_reducible apply i_lst)
  | (with_reducible apply i_tup)
  | (with_reducible apply i_call)
  | (with_reducible apply i_m1)
  | (with_reducible apply i_kStr)
  | (with_reducible apply i_bm)
  | (with_reducible apply i_bm0)
  | (with_reducible apply i_part)
  | (with_reducible apply i_kInt)
  | (with_reducible apply i_noPart)
  | (with_reducible apply i_sl)
  | (with_reducible apply i_range1)
  | (with_reducible apply i_range2)
  | ((with_reducible apply i_kRng1); (case c => walk_at "side"))
  | ((with_reducible apply i_kRng2); (case c => walk_at "side"))
  | (with_reducible apply i_gCons)
  | (with_reducible apply i_gNil)
  | (with_reducible apply i_gSub)
  | (with_reducible apply i_iZip)
  | (with_reducible apply i_yes)
  | (with_reducible apply i_ift)
  | (with_reducible apply i_iff)
  | (with_reducible apply i_nb))
local macro_rules | `(tactic| walk_at "go") => `(tactic| repeat (first | (with_reducible apply i_seq) | (with_reducible apply i_next) | walk_at "e"))
local macro_rules | `(tactic| walk_at "ge") => `(tactic| repeat walk_at "e")
local macro_rules | `(tactic| walk_at "sz") => `(tactic| first | decide | (rw [sizeLine_eq]; simp; done) | (rw [sizeLine_eq]; omega))
local macro_rules | `(tactic| walk_at "side") => `(tactic| (with_reducible exact WB.most_pos))
local macro_rules | `(tactic| walk_at "e") => `(tactic| first
  | ((with_reducible apply i_isT (b := true)); exact rfl)
  | ((with_reducible apply i_isT (b := false)); exact rfl)
  | (with_reducible apply i_fld)
  | ((with_reducible apply i_kFld); (case h => assumption); (case c1 => assumption); (case c2 => assumption); (case e => first | exact lk_number | exact lk_tail | exact lk_head | exact lk_load | exact lk_oneway | exact lk_points | exact lk_ties | exact lk_given))
  | (with_reducible apply i_sfld)
  | ((with_reducible apply i_kSFld); (case h => first | assumption | exact upd_same); (case c1 => assumption); (case c2 => assumption); (case e => exact Nat.le_of_ble_eq_true rfl))
  | (with_reducible apply i_methC)
  | (with_reducible apply i_make)
  | (with_reducible apply i_fldaug)
  | (with_reducible apply i_vals)
  | (with_reducible apply i_items)
  | (with_reducible apply i_dget)
  | (with_reducible apply i_dput)
  | (with_reducible apply i_din)
  | (with_reducible apply i_dnotin)
  | (with_reducible apply i_ddel)
  | (with_reducible apply i_dc)
  | (with_reducible apply i_enum)
  | (with_reducible apply i_ckw))
local macro_rules | `(tactic| walk_at "e") => `(tactic| first
  | ((with_reducible apply i_kDGetS); (case h => assumption); (case e => first | exact md_names | exact md_ties | exact md_given)))
section
variable {P : Program} {w : World} {K : PySem.W.Frag} {mg : Str → Option Value} {base : Heap}
/-- names enough -/
structure Pool (ns : List Str) : Prop where
  nd : ns.Nodup
  nm : ∀ x ∈ ns, isNm x = true
  len : ns.length = 22
def free (ns ps : List Str) : List Str := ns.filter fun x => !decide (x ∈ ps)
theorem filter_split {α : Type} (p : α → Bool) : ∀ l : List α, (l.filter p).length + (l.filter fun a => !p a).length = l.length
  | [] => rfl
  | a :: r => by
    have ih := filter_split p r
    rw [List.filter_cons, List.filter_cons]
    cases p a <;> simp <;> omega
theorem nd_sub {α : Type} [DecidableEq α] {xs ys : List α} (h : xs.Nodup) (c : ∀ x ∈ xs, x ∈ ys) : xs.length ≤ ys.length := by
  induction xs generalizing ys with
  | nil => simp
  | cons x r ih =>
    obtain ⟨h1, h2⟩ := List.nodup_cons.mp h
    have hx := c x List.mem_cons_self
    have := ih (ys := ys.erase x) h2 fun z hz => (List.mem_erase_of_ne (fun e => h1 (by rw [← e]; exact hz))).mpr (c z (List.mem_cons_of_mem _ hz))
    rw [List.length_erase_of_mem hx] at this
    have hl : 0 < ys.length := List.length_pos_of_mem hx
    simp only [List.length_cons]
    omega
theorem free_pos {ns ps : List Str} (h : Pool ns) (hl : ps.length ≤ 16) : 0 < (free ns ps).length := by
  have h1 := filter_split (fun x => decide (x ∈ ps)) ns
  have h2 : (ns.filter fun x => decide (x ∈ ps)).length ≤ ps.length := nd_sub (h.nd.filter _) fun x hx => by simpa using (List.mem_filter.mp hx).2
  have h3 := h.len
  show 0 < (ns.filter fun x => !decide (x ∈ ps)).length
  omega
def sp_deed (K : PySem.W.Frag) : Sp := fun vs H Q _ => ∃ p l d m nl td w c k pa ns, vs = [.ref p, .ref m, .ref pa, .int c, .int k] ∧ Pair K H p l d m nl td w ∧ 0 ≤ k ∧ k ≤ 1000 ∧ H pa = some (.lst ((ns : List Str).map V.str)) ∧ Pool ns ∧ DQ K H p l d m nl td w Q
theorem ok_law_deed (T : Tx K mg) : FnOk P w K mg base CX0 7 (He.ga K "_law_deed") T.fd_law_deed ["_law_web", "_law_model", "_law_pool_here", "_law_cell", "_law_k"] (sp_deed K) := by
  refine T.F_law_deed.ok sc_law_deed (fun vs H Q E h => ?_) (fun cdv A outer s H vs Q E hr h => ?_)
  · obtain ⟨_, _, _, _, _, _, _, _, _, _, _, rfl, _⟩ := h
    rfl
  · obtain ⟨p, l, d, m, nl, td, w, c, k, pa, ns, rfl, hp, k0, k1, hpa, hns, q⟩ := h
    have hu := hu_of hr
    refine ⟨_, PSs.nox (pss_cons (ps_set (i := 5) sc_law_deed.nd rfl (Or.inr rfl) (pe_dget hu (pv 1) pe_str (fun _ _ => rfl)))
      (pss_cons (ps_set (i := 6) sc_law_deed.nd rfl (Or.inl rfl) (pe_op op_mod (pe_call (ok_law_draw T) (hr.mono (by decide)) (by rfl) T.g_law_draw T.F_law_draw.kp T.k_law_draw .nil pass0 (pa_cons (pv 3) (pa_cons (pv 4) (pa_cons pe_int pa_nil)))) pe_int))
      (C8.pss_cut (ps_if (PW.pt (pw_and (pt_cmpR op_eq (pe_callB x_lenS (by rfl) T.b_len (by decide +kernel) (pa_cons (pe_ix ix_list (pv 2) pe_int (fun _ _ => rfl)) pa_nil)) pe_int (nomark _)) (pw_and1 (pt_cmpR op_gt (pe_callB x_lenL (by rfl) T.b_len (by decide +kernel) (pa_cons (pv 5) pa_nil)) pe_int (nomark _))))) (pss_one (ps_set (i := 6) sc_law_deed.nd rfl (Or.inl rfl) pe_int)) pss_nil)
      (pss_cons (ps_setLc (i := 7) (own := [("_law_name", 8)]) (by rfl) sc_law_deed.nd rfl rfl (sw_true rfl rfl rfl (by decide +kernel)) (pi_list (pv 2)) (blkOk_by (own := [("_law_name", 8)]) (N := N_law_deed) (sc := defScope s_law_deed) (by decide +kernel)) (fun _ _ _ _ _ => (pg_name (i := 8) sc_law_deed.nd rfl (Or.inl rfl))) (fun _ _ _ _ _ => (pts_one (pt_cmpR (op_notIn_seqK K rfl) (pv 8) (pv 5) (by rfl)))) (fun _ _ _ _ _ => (pv 8)))
      (C8.pss_cut (ps_if (PW.pt (pw_and (PW.pt (pw_or (pt_cmpR op_lt (pv 6) pe_int (nomark _)) (pw_or1 (pt_cmpR op_lt (pe_callB x_lenL (by rfl) T.b_len (by decide +kernel) (pa_cons (pv 5) pa_nil)) pe_int (nomark _))))) (pw_and1 (pt_cmpR op_lt (pe_callB x_lenL (by rfl) T.b_len (by decide +kernel) (pa_cons (pv 5) pa_nil)) pe_int (nomark _))))) (pss_cons (ps_set (i := 8) sc_law_deed.nd rfl (Or.inl rfl) (pe_ix ix_list (pv 7) (pe_op op_mod (pe_call (ok_law_draw T) (hr.mono (by decide)) (by rfl) T.g_law_draw T.F_law_draw.kp T.k_law_draw .nil pass0 (pa_cons (pv 3) (pa_cons (pv 4) (pa_cons pe_int pa_nil)))) (pe_callB x_lenL (by rfl) T.b_len (by decide +kernel) (pa_cons (pv 7) pa_nil))) (fun _ _ => rfl)))
      (pss_cons (ps_expr (pe_bm PySem.F.plainAttrs_list PySem.F.slot_list_append PySem.F.type_list_append mt_append (pv 5) (pa_cons (pv 8) pa_nil)))
      (pss_one (ps_ret (pe_cmpR op_isN1 (pe_meth (pv 0) T.cl_Web T.m_Web_put_point (ok_Web_put_point T) (hr.mono (by decide)) T.k_Web_put_point .nil pass0 (pa_cons (pv 8) pa_nil)) pe_non (nomark _)))))) pss_nil)
      (C8.pss_cut (ps_if (PW.pt (pw_and (pt_cmpR op_lt (pv 6) pe_int (nomark _)) (pw_and1 (pt_cmpR op_lt (pe_callB call_lenD (by rfl) T.b_len (by decide +kernel) (pa_cons (pe_dget hu (pv 1) pe_str (fun _ _ => rfl)) pa_nil)) pe_int (nomark _))))) (pss_one (ps_ret (pe_call (ok_law_put_tie T) (hr.mono (by decide)) (by rfl) T.g_law_put_tie T.F_law_put_tie.kp T.k_law_put_tie .nil pass0 (pa_cons (pv 0) (pa_cons (pv 1) (pa_cons (pv 3) (pa_cons (pv 4) pa_nil))))))) pss_nil)
      (C8.pss_cut (ps_if (PW.pt (pw_and (pt_cmpR op_gt (pe_op op_mod (pv 6) pe_int) pe_int (nomark _)) (pw_and1 (pt_cmpR (op_ne_dict0 hr.units0) (pe_dget hu (pv 1) pe_str (fun _ _ => rfl)) pe_dnewK (nomark _))))) (pss_one (ps_ret (pe_call (ok_law_tie_changed T) (hr.mono (by decide)) (by rfl) T.g_law_tie_changed T.F_law_tie_changed.kp T.k_law_tie_changed .nil pass0 (pa_cons (pv 0) (pa_cons (pv 1) (pa_cons (pv 3) (pa_cons (pv 4) (pa_cons (pe_cmpR op_eq (pe_op op_mod (pv 6) pe_int) pe_int (nomark _)) pa_nil)))))))) pss_nil)
      (pss_one (ps_ret (pe_call (ok_law_point_changed T) (hr.mono (by decide)) (by rfl) T.g_law_point_changed T.F_law_point_changed.kp T.k_law_point_changed .nil pass0 (pa_cons (pv 0) (pa_cons (pv 1) (pa_cons (pv 7) (pa_cons (pv 3) (pa_cons (pv 4) (pa_cons (pe_op op_mod (pe_call (ok_law_draw T) (hr.mono (by decide)) (by rfl) T.g_law_draw T.F_law_draw.kp T.k_law_draw .nil pass0 (pa_cons (pv 3) (pa_cons (pv 4) (pa_cons pe_int pa_nil)))) pe_int) pa_nil)))))))))))))))), ?_⟩
    have em := hp.mod.self
    have en := hp.mod.pts
    walk_at "go"
    refine ⟨c, k, 0, rfl, k0, k1, by decide, by decide, fun n n0 n1 => ?_⟩
    have l48 := hp.ok.tl
    have l16 := hp.ok.le
    obtain ⟨x0, hx0⟩ : ∃ x0, ns[0]? = some x0 := ⟨_, List.getElem?_eq_getElem (by rw [hns.len]; decide)⟩
    have lx0 := nm_len (hns.nm x0 (List.mem_of_getElem? hx0))
    walk_at "go"
    refine ⟨fun σ' H' => ∃ wy : Int, 0 ≤ wy ∧ wy < 16 ∧ σ' = [some (.ref p), some (.ref m), some (.ref pa), some (.int c), some (.int k), some (.ref nl), some (.int wy), none, none] ∧ H = H', ?_, ?_⟩
    · walk_at "go"
      refine i_ixL (SqL.of hpa) (j := 0) (v := .str x0) (atI_nat (j := 0) (by rw [List.getElem?_map, hx0]; rfl)) ?_
      have lx1 : x0.length ≤ sizeLine := by rw [sizeLine_eq]; omega
      walk_at "go"
      refine i_dec (fun _ => ?_) (fun _ => ?_)
      · walk_at "go"
        refine i_lenL (SqL.of en) ?_
        walk_at "go"
        refine i_dec (fun _ => ?_) (fun _ => ?_)
        · walk_at "go"
          exact ⟨5, by decide, by decide, rfl, rfl⟩
        · walk_at "go"
          exact ⟨n % 16, by omega, by omega, rfl, rfl⟩
      · walk_at "go"
        exact ⟨n % 16, by omega, by omega, rfl, rfl⟩
    · rintro _ _ ⟨wy, w0, w1, rfl, rfl⟩
      walk_at "go"
      refine i_kListI (SqL.of hpa) ?_
      intro D hD
      refine lc_it walk_list (fun i H' => Same H H' ∧ H' D = some (.lst ((free (ns.take i) w.ps).map V.str)))
        ⟨Same.new hD, by rw [upd_same]; rfl⟩ (fun i H' _ h => SqL.of (h.1 _ _ hpa)) ?_ ?_
      · rintro i v H2 H3 hi ⟨s2, eD⟩ ⟨rfl, hv⟩
        rw [List.length_map] at hi
        rw [List.getElem?_map, List.getElem?_eq_getElem hi] at hv
        cases hv
        have eT : free (ns.take (i + 1)) w.ps = free (ns.take i) w.ps ++ (if (!decide (ns[i] ∈ w.ps)) = true then [ns[i]] else []) := by
          unfold free
          rw [List.take_add_one, List.getElem?_eq_getElem hi, List.filter_append]
          congr 1
          show [ns[i]].filter _ = _
          rw [List.filter_cons]
          split <;> rfl
        walk_at "go"
        refine ⟨rfl, ?_⟩
        walk_at "go"
        refine i_inS (SqL.of (s2 _ _ en)) ?_
        show kB _ (.bl (!decide (ns[i] ∈ w.ps))) _
        apply i_kB
        apply i_b
        · intro cc
          rw [if_pos cc] at eT
          walk_at "go"
          refine ⟨_, eD, ?_, Same.mut s2 hD, ?_⟩
          · have l1 : (free (ns.take i) w.ps).length ≤ (ns.take i).length := List.length_filter_le _ _
            have l2 := hns.len
            rw [List.length_take] at l1
            rw [List.length_map, sizeLine_eq]; omega
          · rw [upd_same, eT, List.map_append]; rfl
        · intro cc
          rw [if_neg (by rw [cc]; decide), List.append_nil] at eT
          walk_at "go"
          rw [eT]
          exact ⟨s2, eD⟩
      · rintro H1 ⟨s1, eD⟩
        rw [List.length_map, List.take_length] at eD
        have hf0 := free_pos hns l16
        have hfr : ∀ y ∈ free ns w.ps, isNm y = true ∧ y ∉ w.ps := fun y hy => by
          obtain ⟨h1, h2⟩ := List.mem_filter.mp hy
          exact ⟨hns.nm y h1, by simpa using h2⟩
        generalize free ns w.ps = fr at eD hf0 hfr
        have hp1 : Pair K H1 p l d m nl td w := ⟨hp.web.same s1, hp.mod.same s1, hp.ok, hp.ln, hp.dt, hp.dm⟩
        have q1 : DQ K H1 p l d m nl td w Q := fun H' d' w' hd' hp' hg' kp' => by
          refine q H' d' w' ?_ hp' hg' ((Kp.same s1).trans kp')
          rcases hd' with e | e
          · exact .inl e
          · exact .inr (s1.free e)
        have em1 := hp1.mod.self
        have en1 := hp1.mod.pts
        obtain ⟨kvs, et1, hd1⟩ := hp1.mod.ties
        have nDn : D ≠ nl := fun e => by rw [e] at hD; rw [hD] at en; cases en
        walk_at "go"
        refine ⟨fun σ' H' => 2 ≤ w.ps.length ∧ σ' = [some (.ref p), some (.ref m), some (.ref pa), some (.int c), some (.int k), some (.ref nl), some (.int wy), some (.ref D), none] ∧ H1 = H', ?_, ?_⟩
        · have body : w.ps.length < 16 → ∀ n2 : Int, 0 ≤ n2 → ∃ y, y ∈ fr ∧ atI (fr.map V.str) (n2 % (fr.length : Int)) = some (.str y) ∧ isNm y = true ∧ y ∉ w.ps := fun _ n2 _ => by
            have hL : (0 : Int) < (fr.length : Int) := by omega
            obtain ⟨y, hy1, hy2, hy3⟩ := pick V.str (Int.emod_nonneg n2 (Int.ne_of_gt hL)) (Int.emod_lt_of_pos n2 hL)
            exact ⟨y, hy2, hy3, hfr y hy2⟩
          have hL : (0 : Int) < (fr.length : Int) := by omega
          walk_at "go"
          apply i_dec
          · intro _
            walk_at "go"
            refine i_lenL (SqL.of en1) ?_
            rw [List.length_map]
            walk_at "go"
            refine i_dec (fun hlt => ?_) (fun hge => ?_)
            · walk_at "go"
              refine ⟨c, k, 1, rfl, k0, k1, by decide, by decide, fun n2 z0 z1 => ?_⟩
              walk_at "go"
              refine i_lenL (SqL.of eD) ?_
              rw [List.length_map]
              refine i_rI ?_ hL
              obtain ⟨y, hy2, hy3, hyn, hyp⟩ := body (by omega) n2 z0
              refine i_ixL (SqL.of eD) hy3 ?_
              walk_at "go"
              refine i_kTyL (SqL.of en1) ?_
              walk_at "go"
              refine i_append en1 ?_ (by rw [List.length_map, sizeLine_eq]; omega)
              have bb : ModAt (upd H1 nl (.lst (w.ps.map V.str ++ [.str y]))) m nl td { w with ps := w.ps ++ [y] } ∧ Keep H1 (upd H1 nl (.lst (w.ps.map V.str ++ [.str y]))) m nl td := by
                have z := hp1.mod.setPts (Same.refl H1) (ps := w.ps ++ [y])
                rw [List.map_append] at z
                exact z
              obtain ⟨b1, b2⟩ := bb
              have hw2 := hp1.web.besideM hp1.mod hp.ln hp.dt hp.dm b2
              generalize upd H1 nl (.lst (w.ps.map V.str ++ [.str y])) = H2 at b1 b2 hw2 ⊢
              obtain ⟨dx, ep⟩ := hw2.self
              walk_at "go"
              refine i_kMethC ep rfl ?_
              walk_at "go"
              refine ⟨p, l, d, w, y, rfl, hw2, hyp, hyn, by omega, fun H3 a1 a2 => ?_⟩
              walk_at "go"
              exact fin_deed q1 (Kp.web b2 (by simp)) hw2 b1 hp.ln hp.dt hp.dm (.inl rfl) a1 a2 (hp.ok.put hyp hyn (by omega))
            · walk_at "go"
              exact ⟨by omega, rfl, rfl⟩
          · intro _
            walk_at "go"
            refine i_lenL (SqL.of en1) ?_
            rw [List.length_map]
            walk_at "go"
            refine i_dec (fun h2 => ?_) (fun h2 => ?_)
            · walk_at "go"
              refine i_lenL (SqL.of en1) ?_
              rw [List.length_map]
              walk_at "go"
              refine i_dec (fun hlt => ?_) (fun hge => ?_)
              · walk_at "go"
                refine ⟨c, k, 1, rfl, k0, k1, by decide, by decide, fun n2 z0 z1 => ?_⟩
                walk_at "go"
                refine i_lenL (SqL.of eD) ?_
                rw [List.length_map]
                refine i_rI ?_ hL
                obtain ⟨y, hy2, hy3, hyn, hyp⟩ := body (by omega) n2 z0
                refine i_ixL (SqL.of eD) hy3 ?_
                walk_at "go"
                refine i_kTyL (SqL.of en1) ?_
                walk_at "go"
                refine i_append en1 ?_ (by rw [List.length_map, sizeLine_eq]; omega)
                have bb : ModAt (upd H1 nl (.lst (w.ps.map V.str ++ [.str y]))) m nl td { w with ps := w.ps ++ [y] } ∧ Keep H1 (upd H1 nl (.lst (w.ps.map V.str ++ [.str y]))) m nl td := by
                  have z := hp1.mod.setPts (Same.refl H1) (ps := w.ps ++ [y])
                  rw [List.map_append] at z
                  exact z
                obtain ⟨b1, b2⟩ := bb
                have hw2 := hp1.web.besideM hp1.mod hp.ln hp.dt hp.dm b2
                generalize upd H1 nl (.lst (w.ps.map V.str ++ [.str y])) = H2 at b1 b2 hw2 ⊢
                obtain ⟨dx, ep⟩ := hw2.self
                walk_at "go"
                refine i_kMethC ep rfl ?_
                walk_at "go"
                refine ⟨p, l, d, w, y, rfl, hw2, hyp, hyn, by omega, fun H3 a1 a2 => ?_⟩
                walk_at "go"
                exact fin_deed q1 (Kp.web b2 (by simp)) hw2 b1 hp.ln hp.dt hp.dm (.inl rfl) a1 a2 (hp.ok.put hyp hyn (by omega))
              · walk_at "go"
                exact ⟨by omega, rfl, rfl⟩
            · walk_at "go"
              exact ⟨by omega, rfl, rfl⟩
        · rintro _ _ ⟨l2, rfl, rfl⟩
          walk_at "go"
          refine ⟨fun σ' H' => σ' = [some (.ref p), some (.ref m), some (.ref pa), some (.int c), some (.int k), some (.ref nl), some (.int wy), some (.ref D), none] ∧ H1 = H', ?_, ?_⟩
          · walk_at "go"
            refine i_dec (fun _ => ?_) (fun _ => ?_)
            · walk_at "go"
              refine ⟨td, kvs, rfl, et1, ?_⟩
              rw [hd1.len]
              walk_at "go"
              refine i_dec (fun hlt => ?_) (fun _ => ?_)
              · walk_at "go"
                exact ⟨p, l, d, m, nl, td, w, c, k, rfl, hp1, k0, k1, l2, by omega, fun H' t hp' kp' => q1 H' d _ (.inl rfl) hp' (Int.le_refl _) kp'⟩
              · walk_at "go"
                exact ⟨rfl, rfl⟩
            · walk_at "go"
              exact ⟨rfl, rfl⟩
          · rintro _ _ ⟨rfl, rfl⟩
            walk_at "go"
            refine ⟨fun σ' H' => σ' = [some (.ref p), some (.ref m), some (.ref pa), some (.int c), some (.int k), some (.ref nl), some (.int wy), some (.ref D), none] ∧ Same H1 H', ?_, ?_⟩
            · walk_at "go"
              refine i_dec (fun _ => ?_) (fun _ => ?_)
              · walk_at "go"
                intro pe hpe
                have s2 : Same H1 (upd H1 pe (.dK [])) := Same.new hpe
                refine ⟨td, pe, kvs, rfl, rfl, s2 _ _ et1, upd_same, ?_⟩
                generalize upd H1 pe (.dK []) = H2 at s2 ⊢
                have hp2 : Pair K H2 p l d m nl td w := ⟨hp1.web.same s2, hp1.mod.same s2, hp.ok, hp.ln, hp.dt, hp.dm⟩
                have hkl := hd1.len
                apply i_kB
                apply i_b
                · intro cc
                  have hpos : 0 < w.ts.length := by
                    cases kvs with
                    | nil => cases cc
                    | cons _ _ => rw [← hkl]; simp
                  walk_at "go"
                  refine ⟨p, l, d, m, nl, td, w, c, k, _, rfl, hp2, k0, k1, hpos, fun H' d' w' hd' hp' hg' kp' => ?_⟩
                  refine q1 H' d' w' ?_ hp' hg' ((Kp.same s2).trans kp')
                  rcases hd' with e | e
                  · exact .inl e
                  · exact .inr (s2.free e)
                · intro _
                  walk_at "go"
                  exact ⟨rfl, s2⟩
              · walk_at "go"
                exact ⟨rfl, Same.refl _⟩
            · rintro _ H2 ⟨rfl, s2⟩
              have hp2 : Pair K H2 p l d m nl td w := ⟨hp1.web.same s2, hp1.mod.same s2, hp.ok, hp.ln, hp.dt, hp.dm⟩
              walk_at "go"
              refine ⟨c, k, 7, rfl, k0, k1, by decide, by decide, fun n7 _ _ => ?_⟩
              walk_at "go"
              refine ⟨p, l, d, m, nl, td, w, c, k, n7 % 4, D, fr, rfl, hp2, k0, k1, l2, s2 _ _ eD, hf0, hfr, fun H' d' w' hd' hp' hg' kp' => ?_⟩
              refine q1 H' d' w' ?_ hp' hg' ((Kp.same s2).trans kp')
              rcases hd' with e | e
              · exact .inl e
              · exact .inr (s2.free e)
end
end K04

set_option Elab.async false
set_option linter.all false
set_option maxRecDepth 100000
set_option maxHeartbeats 4000000
namespace K04
open PySem PySem.Spec PyProof.Rows L2 HX WB
open TL (tl)
local macro_rules | `(tactic| walk_at "side") => `(tactic| first
  | assumption
  | rfl
  | (show (0 : Int) < _; omega)
  | (unfold CDiv; omega)
  | (unfold CMul; omega)
  | (unfold CPow; omega)
  | (rw [sizeLine_eq]; omega)
  | omega)
local macro_rules | `(tactic| walk_at "e") => `(tactic| first
  | ((with_reducible apply i_var); exact rfl)
  | (with_reducible apply i_c)
  | (with_reducible apply i_op)
  | (with_reducible apply i_un)
  | (with_reducible apply i_rI0)
  | ((with_reducible apply i_rI); (case c => walk_at "side"))
  | (with_reducible apply i_rGe)
  | (with_reducible apply i_rGt)
  | (with_reducible apply i_rU)
  | (with_reducible apply i_rEqI)
  | (with_reducible apply i_rNeI)
  | (with_reducible apply i_rEqS)
  | (with_reducible apply i_rNeS)
  | (with_reducible apply i_rEqB)
  | (with_reducible apply i_rNeB)
  | (with_reducible apply i_rIsN)
  | (with_reducible apply i_rNotN)
  | (with_reducible apply i_rInS)
  | (with_reducible apply i_rNotInS)
  | ((with_reducible apply i_catS); (case c => walk_at "side"))
  | (with_reducible apply i_tcb)
  | (with_reducible apply i_nil)
  | (with_reducible apply i_cons)
  | ((with_reducible apply i_lenS); (case c => walk_at "side"))
  | ((with_reducible apply i_lenL); assumption)
  | (with_reducible apply i_abs)
  | (with_reducible apply i_max2)
  | (with_reducible apply i_min2)
  | ((with_reducible apply i_strI); (case c => walk_at "side"))
  | (with_reducible apply i_intB)
  | (with_reducible apply i_test)
  | (with_reducible apply i_tB)
  | (with_reducible apply i_kB)
  | (with_reducible apply i_and)
  | (with_reducible apply i_or)
  | (with_reducible apply i_not)
  | (with_reducible apply i_if)
  | (with_reducible apply i_andV)
  | (with_reducible apply i_orV)
  | (with_reducible apply i_notV)
  | (with_reducible apply i_kAndV)
  | (with_reducible apply i_kOrV)
  | (with_reducible apply i_kNotV)
  | (with_reducible apply i_chain)
  | (with_reducible apply i_kChain)
  | (with_reducible apply i_drop)
  | (with_reducible apply i_ret)
  | (with_reducible apply i_retN)
  | (with_reducible apply i_ifS)
  | (with_reducible apply i_asg)
  | (with_reducible apply i_gName)
  | (with_reducible apply i_for)
  | (with_reducible apply i_lc)
  | (with_reducible apply i_iList)
  | (with_reducible apply i_iTup)
  | (with_reducible apply i_iStr)
  | (with_reducible apply i_kStrI)
  | (with_reducible apply i_lst)
  | (with_reducible apply i_tup)
  | (with_reducible apply i_call)
  | (with_reducible apply i_m1)
  | (with_reducible apply i_kStr)
  | (with_reducible apply i_bm)
  | (with_reducible apply i_bm0)
  | (with_reducible apply i_part)
  | (with_reducible apply i_kInt)
  | (with_reducible apply i_noPart)
  | (with_reducible apply i_sl)
  | (with_reducible apply i_range1)
  | (with_reducible apply i_range2)
  | ((with_reducible apply i_kRng1); (case c => walk_at "side"))
  | ((with_reducible apply i_kRng2); (case c => walk_at "side"))
  | (with_reducible apply i_gCons)
  | (with_reducible apply i_gNil)
  | (with_reducible apply i_gSub)
  | (with_reducible apply i_iZip)
  | (with_reducible apply i_yes)
  | (with_reducible apply i_ift)
  | (with_reducible apply i_iff)
  | (with_reducible apply i_nb))
local macro_rules | `(tactic| walk_at "go") => `(tactic| repeat (first | (with_reducible apply i_seq) | (with_reducible apply i_next) | walk_at "e"))
local macro_rules | `(tactic| walk_at "ge") => `(tactic| repeat walk_at "e")
local macro_rules | `(tactic| walk_at "sz") => `(tactic| first | decide | (rw [sizeLine_eq]; simp; done) | (rw [sizeLine_eq]; omega))
local macro_rules | `(tactic| walk_at "side") => `(tactic| (with_reducible exact WB.most_pos))
local macro_rules | `(tactic| walk_at "e") => `(tactic| first
  | ((with_reducible apply i_isT (b := true)); exact rfl)
  | ((with_reducible apply i_isT (b := false)); exact rfl)
  | (with_reducible apply i_fld)
  | ((with_reducible apply i_kFld); (case h => assumption); (case c1 => assumption); (case c2 => assumption); (case e => first | exact lk_number | exact lk_tail | exact lk_head | exact lk_load | exact lk_oneway | exact lk_points | exact lk_ties | exact lk_given))
  | (with_reducible apply i_sfld)
  | ((with_reducible apply i_kSFld); (case h => first | assumption | exact upd_same); (case c1 => assumption); (case c2 => assumption); (case e => exact Nat.le_of_ble_eq_true rfl))
  | (with_reducible apply i_methC)
  | (with_reducible apply i_make)
  | (with_reducible apply i_fldaug)
  | (with_reducible apply i_vals)
  | (with_reducible apply i_items)
  | (with_reducible apply i_dget)
  | (with_reducible apply i_dput)
  | (with_reducible apply i_din)
  | (with_reducible apply i_dnotin)
  | (with_reducible apply i_ddel)
  | (with_reducible apply i_dc)
  | (with_reducible apply i_enum)
  | (with_reducible apply i_ckw))
local macro_rules | `(tactic| walk_at "e") => `(tactic| first
  | ((with_reducible apply i_kDGetS); (case h => assumption); (case e => first | exact md_names | exact md_ties | exact md_given)))
local macro_rules | `(tactic| walk_at "e") => `(tactic| first | (with_reducible apply i_m1) | (with_reducible apply i_kStr))
abbrev sg (c : Nat) : Str := ⟨#[c]⟩
def Low (z : Str) : Prop := ∀ c ∈ tl z, 97 ≤ c ∧ c ≤ 122
theorem nm_of {z : Str} (h : Low z) (l1 : 1 ≤ z.length) (l2 : z.length ≤ 12) : isNm z = true := by
  unfold isNm
  simp only [Bool.and_eq_true, decide_eq_true_eq, List.all_eq_true]
  exact ⟨⟨l1, l2⟩, fun c hc => h c hc⟩
theorem low_app {x y : Str} (h : Low x) (g : Low y) : Low (x ++ y) := fun c hc => by
  rw [TL.tl_append] at hc
  exact (List.mem_append.mp hc).elim (h c) (g c)
theorem low_sg {c : Nat} (h : 97 ≤ c ∧ c ≤ 122) : Low (sg c) := fun d hd => by
  have : d = c := by simpa [tl] using hd
  rw [this]; exact h
theorem tl_cut (z : Str) (lo hi : Option Int) : tl (cutS z lo hi) = (((tl z).drop (HT.sIx z.length 0 lo)).take (HT.sIx z.length z.length hi - HT.sIx z.length 0 lo)) := rfl
theorem low_cut {z : Str} (h : Low z) (lo hi : Option Int) : Low (cutS z lo hi) := fun c hc => by
  rw [tl_cut] at hc
  exact h c (List.mem_of_mem_drop (List.mem_of_mem_take hc))
theorem len_tl' (z : Str) : z.length = (tl z).length := rfl
theorem tl_join0 (cs : List Nat) : tl (Txt.join "" (cs.map sg)) = cs := by
  rw [TL.join_eq, TL.tl_join]
  have e : tl ("" : Str) = [] := by decide +kernel
  rw [e, TX.joinL_nil, List.map_map]
  induction cs with
  | nil => rfl
  | cons c r ih => simp only [List.map_cons, List.flatten_cons, ih]; rfl
theorem sIx_pos {n d : Nat} {k : Int} (h : 0 ≤ k) : HT.sIx n d (some k) = min k.toNat n := by
  show (if k < 0 then (k + (n : Int)).toNat else min k.toNat n) = _
  rw [if_neg (by omega)]
theorem letter_at {j : Int} (h0 : 0 ≤ j) (h1 : j < 26) : atI ("abcdefghijklmnopqrstuvwxyz" : Str).cps.toList j = some (97 + j.toNat) := by
  rw [letters_list]
  obtain ⟨k, rfl⟩ := Int.eq_ofNat_of_zero_le h0
  refine atI_nat ?_
  rw [List.getElem?_range' (by omega)]
  simp
theorem letters_len : ("abcdefghijklmnopqrstuvwxyz" : Str).length ≤ sizeLine := by
  rw [sizeLine_eq]; decide +kernel
/-- the sign put in -/
def sc (n : Int) (j : Nat) : Nat := 97 + ((n / 2000 + 5 * (0 + (j : Int))) % 26).toNat
def nmj (n : Int) (A C : Str) (j : Nat) : Str := A ++ sg (sc n j) ++ C
theorem nmj_inj {n : Int} {A C : Str} {i j : Nat} (hi : i < 22) (hj : j < 22) (e : nmj n A C i = nmj n A C j) : i = j := by
  have e1 := congrArg tl e
  unfold nmj at e1
  rw [TL.tl_append, TL.tl_append, TL.tl_append, TL.tl_append] at e1
  have e2 := List.append_cancel_left (List.append_cancel_right e1)
  have e3 : sc n i = sc n j := by
    have : [sc n i] = [sc n j] := e2
    exact (List.cons.inj this).1
  unfold sc at e3
  omega
theorem names_nd {n : Int} {A C : Str} : ((List.range 22).map (nmj n A C)).Nodup := by
  refine List.pairwise_map.mpr ?_
  refine (List.pairwise_lt_range (n := 22)).imp_of_mem fun {a b} ha hb hab e => ?_
  have := nmj_inj (List.mem_range.mp ha) (List.mem_range.mp hb) e
  omega
theorem cut_pre {α : Type} (f : α → V) (xs : List α) {k : Int} (h : 0 ≤ k) : cutV (xs.map f) none (some k) = (xs.take k.toNat).map f := by
  unfold cutV
  rw [sIx_pos h, List.map_take]
  show ((xs.map f).drop 0).take (min k.toNat (xs.map f).length - 0) = _
  rw [List.drop_zero, Nat.sub_zero]
  exact (List.take_eq_take_min ..).symm
theorem len_cut_le (z : Str) (lo hi : Option Int) : (cutS z lo hi).length ≤ z.length := by
  rw [len_tl', tl_cut, List.length_take, List.length_drop]
  have : (tl z).length = z.length := rfl
  omega
section
variable {P : Program} {w : World} {K : PySem.W.Frag} {mg : Str → Option Value} {base : Heap}
def sp_pool : Sp := fun vs H Q _ => ∃ c : Int, vs = [.int c] ∧ ∀ a ns H', Same H H' → H a = none → H' a = some (.lst ((ns : List Str).map V.str)) → Pool ns → Q (.ref a) H'
theorem ok_law_pool (T : Tx K mg) : FnOk P w K mg base CX0 2 (He.ga K "_law_pool") T.fd_law_pool ["_law_cell"] sp_pool := by
  refine T.F_law_pool.ok sc_law_pool (fun vs H Q E h => ?_) (fun cdv A outer s H vs Q E hr h => ?_)
  · obtain ⟨_, rfl, _⟩ := h
    rfl
  · obtain ⟨c, rfl, q⟩ := h
    have hu := hu_of hr
    refine ⟨_, PSs.nox (pss_cons (ps_set (i := 1) sc_law_pool.nd rfl (Or.inr rfl) pe_str)
      (pss_cons (ps_set (i := 2) sc_law_pool.nd rfl (Or.inr rfl) (pe_call (ok_law_draw T) (hr.mono (by decide)) (by rfl) T.g_law_draw T.F_law_draw.kp T.k_law_draw .nil pass0 (pa_cons (pv 0) (pa_cons pe_int (pa_cons pe_int pa_nil)))))
      (pss_cons (ps_set (i := 3) sc_law_pool.nd rfl (Or.inr rfl) (x_join pe_str (pe_lc (own := [("_law_j", 8)]) (by rfl) sc_law_pool.nd (pi_range1 rfl T.b_range (pa_cons pe_int pa_nil)) (blkOk_by (own := [("_law_j", 8)]) (N := N_law_pool) (sc := defScope s_law_pool) (by decide +kernel)) (fun _ _ _ _ _ => (pg_name (i := 8) sc_law_pool.nd rfl (Or.inl rfl))) (fun _ _ _ _ _ => pts_nil) (fun _ _ _ _ _ => (pe_ix ix_str (pv 1) (pe_op op_mod (pe_op op_add (pe_op op_fdiv (pv 2) pe_int) (pe_op op_mul (pe_op op_add pe_int (pe_op op_mod (pv 2) pe_int)) (pv 8))) pe_int) (fun _ _ => rfl))))))
      (pss_cons (ps_set (i := 4) sc_law_pool.nd rfl (Or.inr rfl) (pe_slice sl_str (pv 3) po_none (po_some (pe_op op_mod (pv 2) pe_int))))
      (pss_cons (ps_set (i := 5) sc_law_pool.nd rfl (Or.inr rfl) (pe_op op_mod (pe_op op_fdiv (pv 2) pe_int) (pe_op op_add (pe_callB x_lenS (by rfl) T.b_len (by decide +kernel) (pa_cons (pv 4) pa_nil)) pe_int)))
      (pss_cons (ps_setLc (i := 6) (own := [("_law_j", 8)]) (by rfl) sc_law_pool.nd rfl rfl (sw_true rfl rfl rfl (by decide +kernel)) (pi_range1 rfl T.b_range (pa_cons pe_int pa_nil)) (blkOk_by (own := [("_law_j", 8)]) (N := N_law_pool) (sc := defScope s_law_pool) (by decide +kernel)) (fun _ _ _ _ _ => (pg_name (i := 8) sc_law_pool.nd rfl (Or.inl rfl))) (fun _ _ _ _ _ => pts_nil) (fun _ _ _ _ _ => (pe_ix ix_str (pv 1) (pe_op op_mod (pe_op op_add (pe_op op_fdiv (pv 2) pe_int) (pe_op op_mul pe_int (pv 8))) pe_int) (fun _ _ => rfl))))
      (pss_cons (ps_set (i := 7) sc_law_pool.nd rfl (Or.inr rfl) (pe_lc (own := [("_law_sign", 9)]) (by rfl) sc_law_pool.nd (pi_list (pv 6)) (blkOk_by (own := [("_law_sign", 9)]) (N := N_law_pool) (sc := defScope s_law_pool) (by decide +kernel)) (fun _ _ _ _ _ => (pg_name (i := 9) sc_law_pool.nd rfl (Or.inl rfl))) (fun _ _ _ _ _ => pts_nil) (fun _ _ _ _ _ => (pe_op x_catS (pe_op x_catS (pe_slice sl_str (pv 4) po_none (po_some (pv 5))) (pv 9)) (pe_slice sl_str (pv 4) (po_some (pv 5)) po_none)))))
      (C8.pss_cut (ps_if (pt_cmpR op_eq (pe_op op_mod (pe_op op_fdiv (pv 2) pe_int) pe_int) pe_int (nomark _)) (pss_one (ps_set (i := 7) sc_law_pool.nd rfl (Or.inr rfl) (pe_op op_cat (pe_lc (own := [("_law_j", 8)]) (by rfl) sc_law_pool.nd (pi_range1 rfl T.b_range (pa_cons pe_int pa_nil)) (blkOk_by (own := [("_law_j", 8)]) (N := N_law_pool) (sc := defScope s_law_pool) (by decide +kernel)) (fun _ _ _ _ _ => (pg_name (i := 8) sc_law_pool.nd rfl (Or.inl rfl))) (fun _ _ _ _ _ => pts_nil) (fun _ _ _ _ _ => (pe_slice sl_str (pv 3) po_none (po_some (pe_op op_add (pv 8) pe_int))))) (pv 7)))) pss_nil)
      (pss_one (ps_ret (pe_slice sl_list (pe_lc (own := [("_law_j", 8), ("_law_name", 10)]) (by rfl) sc_law_pool.nd (pi_enum (by rfl) T.b_enumerate (pa_cons (pv 7) pa_nil)) (blkOk_by (own := [("_law_j", 8), ("_law_name", 10)]) (N := N_law_pool) (sc := defScope s_law_pool) (by decide +kernel)) (fun _ _ _ _ _ => (pg_tupK (n := 2) K rfl rfl (pgs_cons (pg_name (i := 8) sc_law_pool.nd rfl (Or.inl rfl)) (pgs_cons (pg_name (i := 10) sc_law_pool.nd rfl (Or.inl rfl)) pgs_nil)))) (fun _ _ _ _ _ => (pts_one (pt_cmpR (op_notIn_seqK K rfl) (pv 10) (pe_slice (sl_listK K rfl) (pv 7) po_none (po_some (pv 8))) (by rfl)))) (fun _ _ _ _ _ => (pv 10))) po_none (po_some pe_int)))))))))))), ?_⟩
    walk_at "go"
    refine ⟨c, 70, 1, rfl, by decide, by decide, by decide, by decide, fun n n0 n1 => ?_⟩
    walk_at "go"
    intro D hD
    refine lc_it walk_range (fun i H' => Same H H' ∧ ∃ cs : List Nat, H' D = some (.lst ((cs.map sg).map V.str)) ∧ cs.length = i ∧ ∀ c ∈ cs, 97 ≤ c ∧ c ≤ 122)
      ⟨Same.new hD, [], upd_same, rfl, by simp⟩ (fun _ _ _ _ => trivial) ?_ ?_
    · rintro i v H2 H3 hi ⟨s2, cs, eD, hl, hc⟩ ⟨rfl, rfl⟩
      have hi12 : i < 12 := hi
      walk_at "go"
      refine ⟨rfl, ?_⟩
      walk_at "go"
      generalize (n / 7 + (3 + n % 5) * (0 + (i : Int))) = z
      have hz0 : 0 ≤ z % 26 := by omega
      have hz1 : z % 26 < 26 := by omega
      refine i_ixS ?_ letters_len (letter_at hz0 hz1)
      refine ⟨_, eD, ?_, Same.mut s2 hD, cs ++ [97 + (z % 26).toNat], ?_, by simp [hl], ?_⟩
      · rw [List.length_map, List.length_map, sizeLine_eq]; omega
      · rw [upd_same, List.map_append, List.map_append]; rfl
      · intro d hd
        rcases List.mem_append.mp hd with h | h
        · exact hc d h
        · rw [List.mem_singleton.mp h]; omega
    · rintro H1 ⟨s1, cs, eD, hl, hc⟩
      have hl12 : cs.length = 12 := hl
      refine i_join (SqL.of eD) ?_ ?_
      · rw [List.length_map, hl12]
        have : ((cs.map sg).map fun x => x.length).sum = cs.length := by
          rw [List.map_map]
          have e : ((fun x : Str => x.length) ∘ sg) = fun _ => 1 := rfl
          rw [e, List.map_const', List.sum_replicate_nat]; omega
        rw [this, hl12]
        decide +kernel
      have hBt := tl_join0 cs
      have hBl : (Txt.join "" (cs.map sg)).length = 12 := by rw [len_tl', hBt]; exact hl12
      have hB : Low (Txt.join "" (cs.map sg)) := fun d hd => hc d (by rwa [hBt] at hd)
      generalize Txt.join "" (cs.map sg) = B at hBl hB
      walk_at "go"
      refine i_slS (by rw [hBl, sizeLine_eq]; decide) ?_
      have hFl : (cutS B none (some (n % 8))).length ≤ 7 := by
        rw [len_tl', tl_cut, sIx_pos (by omega), List.length_take]
        show min (min (n % 8).toNat B.length - 0) _ ≤ 7
        omega
      have hF := low_cut hB none (some (n % 8))
      generalize cutS B none (some (n % 8)) = F at hFl hF
      walk_at "go"
      have ha0 : 0 ≤ n / 200 % ((F.length : Int) + 1) := Int.emod_nonneg _ (by omega)
      generalize n / 200 % ((F.length : Int) + 1) = at0 at ha0 ⊢
      intro D2 hD2
      refine lc_it walk_range (fun i H' => Same H1 H' ∧ H' D2 = some (.lst (((List.range i).map fun j => sg (sc n j)).map V.str)))
        ⟨Same.new hD2, by rw [upd_same]; rfl⟩ (fun _ _ _ _ => trivial) ?_ ?_
      · rintro i v H2 H3 hi ⟨s2, eD2⟩ ⟨rfl, rfl⟩
        have hi22 : i < 22 := hi
        walk_at "go"
        refine ⟨rfl, ?_⟩
        walk_at "go"
        refine i_ixS ?_ letters_len (letter_at (by omega) (by omega))
        refine ⟨_, eD2, ?_, Same.mut s2 hD2, ?_⟩
        · rw [List.length_map, List.length_map, List.length_range, sizeLine_eq]; omega
        · rw [upd_same, List.range_succ, List.map_append, List.map_append]; rfl
      · rintro H2 ⟨s2, eD2⟩
        walk_at "go"
        refine i_kListI (SqL.of eD2) ?_
        intro D3 hD3
        have hAl := len_cut_le F none (some at0)
        have hCl := len_cut_le F (some at0) none
        have hA := low_cut hF none (some at0)
        have hC := low_cut hF (some at0) none
        have hFs : F.length ≤ sizeLine := by rw [sizeLine_eq]; omega
        have hACl : (cutS F none (some at0)).length + (cutS F (some at0) none).length ≤ 14 := by omega
        refine lc_it walk_list (fun i H' => Same H2 H' ∧ H' D3 = some (.lst (((List.range i).map (nmj n (cutS F none (some at0)) (cutS F (some at0) none))).map V.str)))
          ⟨Same.new hD3, by rw [upd_same]; rfl⟩ (fun i H' _ h => SqL.of (h.1 _ _ eD2)) ?_ ?_
        · rintro i v H4 H5 hi ⟨s4, eD3⟩ ⟨rfl, hv⟩
          rw [List.length_map, List.length_map, List.length_range] at hi
          have hi22 : i < 22 := hi
          have hv2 : v = .str (sg (sc n i)) := by
            rw [List.getElem?_map, List.getElem?_map, show (22 : Int).toNat = 22 from rfl, List.getElem?_range hi22] at hv
            cases hv; rfl
          subst hv2
          walk_at "go"
          refine ⟨rfl, ?_⟩
          walk_at "go"
          refine i_slS hFs ?_
          walk_at "go"
          refine i_catS ?_ (by rw [sizeLine_eq]; show (cutS F none (some at0)).length + 1 ≤ _; omega)
          walk_at "go"
          refine i_slS hFs ?_
          refine i_catS ?_ (by rw [sizeLine_eq, TX.len_app]; show (cutS F none (some at0)).length + 1 + (cutS F (some at0) none).length ≤ _; omega)
          refine ⟨_, eD3, ?_, Same.mut s4 hD3, ?_⟩
          · rw [List.length_map, List.length_map, List.length_range, sizeLine_eq]; omega
          · rw [upd_same, List.range_succ, List.map_append, List.map_append]; rfl
        · rintro H3 ⟨s3, eD3⟩
          rw [List.length_map, List.length_map, List.length_range] at eD3
          have eD3 : H3 D3 = some (.lst (((List.range 22).map (nmj n (cutS F none (some at0)) (cutS F (some at0) none))).map V.str)) := eD3
          have hnm : ∀ x ∈ (List.range 22).map (nmj n (cutS F none (some at0)) (cutS F (some at0) none)), isNm x = true := fun x hx => by
            obtain ⟨j, hj, rfl⟩ := List.mem_map.mp hx
            have hj22 := List.mem_range.mp hj
            have hl : (nmj n (cutS F none (some at0)) (cutS F (some at0) none) j).length = (cutS F none (some at0)).length + 1 + (cutS F (some at0) none).length := by
              unfold nmj
              rw [TX.len_app, TX.len_app]; rfl
            have hsum : (cutS F none (some at0)).length + (cutS F (some at0) none).length ≤ F.length := by
              rw [len_tl', len_tl' (cutS F (some at0) none), tl_cut, tl_cut, sIx_pos ha0, sIx_pos ha0]
              show (((tl F).drop 0).take (min at0.toNat F.length - 0)).length + (((tl F).drop (min at0.toNat F.length)).take (F.length - min at0.toNat F.length)).length ≤ F.length
              rw [List.length_take, List.length_take, List.length_drop, List.length_drop]
              have : (tl F).length = F.length := rfl
              omega
            refine nm_of (low_app (low_app hA (low_sg ?_)) hC) (by omega) (by omega)
            unfold sc; omega
          have hnd := names_nd (n := n) (A := cutS F none (some at0)) (C := cutS F (some at0) none)
          have hln : ((List.range 22).map (nmj n (cutS F none (some at0)) (cutS F (some at0) none))).length = 22 := by simp
          have e22 : (List.map (fun j => sg (sc n j)) (List.range (Int.toNat 22))).length = 22 := by simp
          generalize (List.range 22).map (nmj n (cutS F none (some at0)) (cutS F (some at0) none)) = ns at eD3 hnm hnd hln
          have s03 := (s1.trans s2).trans s3
          walk_at "go"
          refine ⟨fun σ' H' => ∃ fa fl, σ' = [some (.int c), some (.str "abcdefghijklmnopqrstuvwxyz"), some (.int n), some (.str B), some (.str F), some (.int at0), some (.ref D2), some (.ref fa), none, none, none] ∧ Same H H' ∧ H' fa = some (.lst ((fl : List Str).map V.str)) ∧ (∀ x ∈ fl, isNm x = true) ∧ (∀ x ∈ ns, x ∈ fl) ∧ fl.length ≤ 34, ?_, ?_⟩
          · walk_at "go"
            refine i_dec (fun _ => ?_) (fun _ => ?_)
            · walk_at "go"
              intro D4 hD4
              refine lc_it walk_range (fun i H' => Same H3 H' ∧ ∃ bs : List Str, H' D4 = some (.lst (bs.map V.str)) ∧ bs.length = i ∧ ∀ x ∈ bs, isNm x = true)
                ⟨Same.new hD4, [], upd_same, rfl, by simp⟩ (fun _ _ _ _ => trivial) ?_ ?_
              · rintro i v H4 H5 hi ⟨s4, bs, eD4, hbl, hbn⟩ ⟨rfl, rfl⟩
                have hi12 : i < 12 := hi
                walk_at "go"
                refine ⟨rfl, ?_⟩
                walk_at "go"
                refine i_slS (by rw [hBl, sizeLine_eq]; decide) ?_
                refine ⟨_, eD4, ?_, Same.mut s4 hD4, bs ++ [cutS B none (some (0 + (i : Int) + 1))], by rw [upd_same, List.map_append]; rfl, by simp [hbl], ?_⟩
                · rw [List.length_map, sizeLine_eq]; omega
                · intro x hx
                  rcases List.mem_append.mp hx with h | h
                  · exact hbn x h
                  · rw [List.mem_singleton.mp h]
                    have hl : (cutS B none (some (0 + (i : Int) + 1))).length = min (0 + (i : Int) + 1).toNat 12 := by
                      rw [len_tl', tl_cut, sIx_pos (by omega)]
                      show (((tl B).drop 0).take (min (0 + (i : Int) + 1).toNat B.length - 0)).length = _
                      rw [List.length_take, List.drop_zero, hBl]
                      have : (tl B).length = 12 := hBl
                      omega
                    exact nm_of (low_cut hB _ _) (by omega) (by omega)
              · rintro H4 ⟨s4, bs, eD4, hbl, hbn⟩
                have hbl12 : bs.length = 12 := hbl
                walk_at "go"
                refine i_cat eD4 (s4 _ _ eD3) (by rw [List.length_map, List.length_map, sizeLine_eq]; omega) fun p5 hp5 => ?_
                walk_at "go"
                refine ⟨p5, bs ++ ns, rfl, (s03.trans s4).trans (Same.new hp5), by rw [upd_same, List.map_append], ?_, fun x hx => List.mem_append.mpr (.inr hx), by rw [List.length_append]; omega⟩
                intro x hx
                exact (List.mem_append.mp hx).elim (hbn x) (hnm x)
            · walk_at "go"
              exact ⟨D3, ns, rfl, s03, eD3, hnm, fun x hx => hx, by omega⟩
          · rintro _ H4 ⟨fa, fl, rfl, s04, efa, hfn, hfs, hfl⟩
            walk_at "go"
            refine i_kEnum (SqL.of efa) ?_
            intro G hG
            refine lc_it walk_enum (fun i H' => Same H4 H' ∧ ∃ dd : List Str, H' G = some (.lst (dd.map V.str)) ∧ dd.Nodup ∧ (∀ x, x ∈ dd ↔ x ∈ fl.take i) ∧ dd.length ≤ i)
              ⟨Same.new hG, [], upd_same, by simp, by simp, by simp⟩ (fun i H' _ h => SqL.of (h.1 _ _ efa)) ?_ ?_
            · rintro i v H5 H6 hi ⟨s5, dd, eG, hdn, hdm, hdl⟩ ⟨T0, v1, v2, rfl, hT, rfl, hv1, hv2⟩
              rw [List.length_map] at hi
              have hv1 : some (V.int ((i : Nat) : Int)) = some v1 := hv1
              have hv2 : (fl.map V.str)[i]? = some v2 := hv2
              rw [List.getElem?_map, List.getElem?_eq_getElem hi] at hv2
              cases hv1; cases hv2
              have s6 : Same H5 (upd H5 T0 (.tup [.int (i : Nat), .str fl[i]])) := Same.new hT
              walk_at "go"
              refine i_gTup (SqT.of upd_same) rfl ?_
              generalize upd H5 T0 (.tup [.int (i : Nat), .str fl[i]]) = H6 at s6 ⊢
              have s46 := s5.trans s6
              walk_at "go"
              refine ⟨rfl, ?_⟩
              walk_at "go"
              refine i_slL (SqL.of (s46 _ _ efa)) fun p7 hp7 => ?_
              rw [cut_pre V.str fl (by omega)]
              refine i_inS (SqL.of upd_same) ?_
              have s7 : Same H6 (upd H6 p7 (.lst ((fl.take ((i : Nat) : Int).toNat).map V.str))) := Same.new hp7
              generalize upd H6 p7 (.lst ((fl.take ((i : Nat) : Int).toNat).map V.str)) = H7 at s7 ⊢
              have eG7 := s7 _ _ (s6 _ _ eG)
              have s47 := s46.trans s7
              have eT : fl.take (i + 1) = fl.take i ++ [fl[i]] := by rw [List.take_add_one, List.getElem?_eq_getElem hi]; rfl
              show kB _ (.bl (!decide (fl[i] ∈ fl.take ((i : Nat) : Int).toNat))) _
              rw [Int.toNat_natCast]
              apply i_kB
              refine i_ndec (fun hni => ?_) (fun hin => ?_)
              · walk_at "go"
                refine ⟨_, eG7, by rw [List.length_map, sizeLine_eq]; omega, Same.mut s47 hG, dd ++ [fl[i]], by rw [upd_same, List.map_append]; rfl, ?_, ?_, by simp; omega⟩
                · refine List.nodup_append.mpr ⟨hdn, by simp, fun a ha b hb e => ?_⟩
                  rw [List.mem_singleton.mp hb] at e
                  exact hni ((hdm _).mp (e ▸ ha))
                · intro x
                  rw [eT, List.mem_append, List.mem_append, hdm]
              · walk_at "go"
                refine ⟨s47, dd, eG7, hdn, fun x => ?_, by omega⟩
                rw [eT, List.mem_append, hdm]
                exact ⟨.inl, fun h => h.elim id fun h => by rw [List.mem_singleton.mp h]; exact hin⟩
            · rintro H5 ⟨s5, dd, eG, hdn, hdm, hdl⟩
              rw [List.length_map, List.take_length] at hdm
              walk_at "go"
              refine i_slL (SqL.of eG) fun p7 hp7 => ?_
              rw [cut_pre V.str dd (by decide)]
              have h22 : 22 ≤ dd.length := by
                have := nd_sub hnd (ys := dd) fun x hx => (hdm x).mpr (hfs x hx)
                omega
              have s05 := s04.trans s5
              refine q p7 (dd.take 22) _ (s05.trans (Same.new hp7)) (s05.free hp7) (by rw [upd_same]; rfl) ⟨hdn.sublist (List.take_sublist _ _), fun x hx => hfn x ((hdm x).mp (List.mem_of_mem_take hx)), by rw [List.length_take]; omega⟩
end
end K04

set_option Elab.async false
set_option linter.all false
set_option maxRecDepth 100000
set_option maxHeartbeats 2000000
/-! KR: any lines read to a web, as plain data. -/
namespace WB
open PySem PySem.Spec PyProof.Rows L2 HX TX TL
theorem digitsVal_snoc (r : List Nat) (c : Nat) : NumText.digitsVal (r ++ [c]) = NumText.digitsVal r * 10 + (c - 48) := by
  unfold NumText.digitsVal
  rw [List.foldl_append]
  rfl
theorem numL_back (n : Nat) : ∀ cs : List Nat, cs.length = n → cs ≠ [] → NumText.AllDigits cs → (cs.headD 0 = 48 → cs = [48]) → numL (NumText.digitsVal cs) = cs := by
  induction n with
  | zero => intro cs h hne; exact absurd (List.length_eq_zero_iff.mp h) hne
  | succ n ih =>
    intro cs h hne hd hz
    obtain ⟨r, c, rfl⟩ : ∃ r c, cs = r ++ [c] := ⟨cs.dropLast, cs.getLast hne, (List.dropLast_concat_getLast hne).symm⟩
    have hc := hd c (by simp)
    rw [digitsVal_snoc]
    cases r with
    | nil =>
      show numL (0 * 10 + (c - 48)) = [c]
      rw [numL_lt (by omega)]
      congr 1
      omega
    | cons a t =>
      have hl : (a :: t).length = n := by simpa using h
      have ha : a ≠ 48 := fun e => by
        have := hz (by simpa using e)
        simp at this
      have hr := ih (a :: t) hl (by simp) (fun x hx => hd x (List.mem_append.mpr (.inl hx))) (fun e => absurd (by simpa using e) ha)
      have pos : NumText.digitsVal (a :: t) ≠ 0 := fun e => by
        rw [e, numL_lt (by omega)] at hr
        have := (List.cons.inj hr).1
        omega
      rw [numL_step (by omega)]
      have e1 : (NumText.digitsVal (a :: t) * 10 + (c - 48)) / 10 = NumText.digitsVal (a :: t) := by omega
      have e2 : (NumText.digitsVal (a :: t) * 10 + (c - 48)) % 10 = c - 48 := by omega
      rw [e1, e2, hr]
      congr 2
      omega
/-- what a word of figures writes, written again -/
theorem num_forth {z : Str} {g : Int} (h : numV z = .int g) : nS g = z ∧ 0 ≤ g := by
  unfold numV at h
  split at h
  · rename_i ok
    have hg := V.int.inj h
    subst hg
    refine ⟨?_, by omega⟩
    unfold numOk at ok
    simp only [Bool.and_eq_true, decide_eq_true_eq] at ok
    obtain ⟨⟨⟨h1, h2⟩, h3⟩, h4⟩ := ok
    have hl := len_list z
    refine ext_tl ?_
    rw [tl_nS]
    refine numL_back _ _ rfl (fun e => ?_) (only_digs h3) (fun e => ?_)
    · rw [e] at hl
      simp at hl
      omega
    · have e1 : fst1 z = "0" := ext_tl (by
        rw [zero_tl]
        show [z.cps.toList.headD 0] = _
        rw [e])
      rw [decide_eq_true e1] at h4
      have e2 : z = "0" := by simpa using h4
      show tl z = [48]
      rw [e2, zero_tl]
  · cases h
theorem numV_cases (z : Str) : numV z = .non ∨ ∃ g, numV z = .int g := by
  unfold numV
  split
  · exact .inr ⟨_, rfl⟩
  · exact .inl rfl
def gvL : V → Option Ln
  | .int g => some (.gv g)
  | _ => none
def tieL (t h : Str) (o : Bool) : V → V → Option Ln
  | .int n, .int c => some (.tie n ⟨t, h, c, o⟩)
  | _, _ => none
def parse2 (a x : Str) : Option Ln := if a = "point" then some (.pt x) else if a = "given" then gvL (numV x) else none
def parse5 (k n t h c : Str) : Option Ln := if k = "tie" ∨ k = "way" then tieL t h (decide (k = "way")) (numV n) (numV c) else none
/-- what words write -/
def parse : List Str → Option Ln
  | [a, x] => parse2 a x
  | [k, n, t, h, c] => parse5 k n t h c
  | _ => none
theorem parse_pt (x : Str) : parse ["point", x] = some (.pt x) := by
  show parse2 "point" x = _
  unfold parse2
  rw [if_pos rfl]
theorem parse_gv {x : Str} {g : Int} (h : numV x = .int g) : parse ["given", x] = some (.gv g) := by
  show parse2 "given" x = _
  unfold parse2
  rw [if_neg (by decide +kernel), if_pos rfl, h]
  rfl
theorem parse_gv0 {x : Str} (h : numV x = .non) : parse ["given", x] = none := by
  show parse2 "given" x = _
  unfold parse2
  rw [if_neg (by decide +kernel), if_pos rfl, h]
  rfl
theorem parse_tie {k n t h c : Str} {i j : Int} (hk : k = "tie" ∨ k = "way") (h1 : numV n = .int i) (h2 : numV c = .int j) : parse [k, n, t, h, c] = some (.tie i ⟨t, h, j, decide (k = "way")⟩) := by
  show parse5 k n t h c = _
  unfold parse5
  rw [if_pos hk, h1, h2]
  rfl
theorem parse_tie0 {k n t h c : Str} (q : numV n = .non ∨ numV c = .non) : parse [k, n, t, h, c] = none := by
  show parse5 k n t h c = _
  unfold parse5
  split
  · rcases q with q | q
    · rw [q]; rfl
    · rw [q]
      rcases numV_cases n with q | ⟨_, q⟩ <;> rw [q] <;> rfl
  · rfl
/-- words of another head or count write nothing -/
theorem parse_pt0 {z : Str} {ws : List Str} (hz : z = "point" ∨ z = "given") (h : ws.length ≠ 1) : parse (z :: ws) = none := by
  match ws, h with
  | [], _ => rfl
  | [_], h => exact absurd rfl h
  | [_, _], _ => rfl
  | [_, _, _], _ => rfl
  | [_, _, _, _], _ => exact if_neg (by rcases hz with rfl | rfl <;> decide +kernel)
  | _ :: _ :: _ :: _ :: _ :: _, _ => rfl
theorem parse_tieN {z : Str} {ws : List Str} (hz : z = "tie" ∨ z = "way") (h : ws.length ≠ 4) : parse (z :: ws) = none := by
  match ws, h with
  | [], _ => rfl
  | [x], _ =>
    show parse2 z x = _
    unfold parse2
    rw [if_neg (by rcases hz with rfl | rfl <;> decide +kernel), if_neg (by rcases hz with rfl | rfl <;> decide +kernel)]
  | [_, _], _ => rfl
  | [_, _, _], _ => rfl
  | [_, _, _, _], h => exact absurd rfl h
  | _ :: _ :: _ :: _ :: _ :: _, _ => rfl
theorem parse_other {z : Str} {ws : List Str} (h1 : z ≠ "point") (h2 : z ≠ "given") (h3 : ¬(z = "tie" ∨ z = "way")) : parse (z :: ws) = none := by
  match ws with
  | [] => rfl
  | [x] =>
    show parse2 z x = _
    unfold parse2
    rw [if_neg h1, if_neg h2]
  | [_, _] => rfl
  | [_, _, _] => rfl
  | [_, _, _, _] => exact if_neg h3
  | _ :: _ :: _ :: _ :: _ :: _ => rfl
theorem parse_words {ws : List Str} {l : Ln} (h : parse ws = some l) : l.words = ws := by
  match ws, h with
  | [a, x], h =>
    have h : parse2 a x = some l := h
    unfold parse2 at h
    split at h
    · rename_i e
      cases h
      rw [e]; rfl
    · split at h
      · rename_i e
        rcases numV_cases x with q | ⟨g, q⟩ <;> rw [q] at h
        · cases h
        · cases h
          rw [e]
          show [("given" : Str), nS g] = _
          rw [(num_forth q).1]
      · cases h
  | [k, n, t, h', c], h =>
    have h : parse5 k n t h' c = some l := h
    unfold parse5 at h
    split at h
    · rename_i e
      rcases numV_cases n with q | ⟨g, q⟩ <;> rw [q] at h
      · cases h
      · rcases numV_cases c with q2 | ⟨g2, q2⟩ <;> rw [q2] at h
        · cases h
        · cases h
          show [kindS (decide (k = "way")), nS g, t, h', nS g2] = _
          rw [(num_forth q).1, (num_forth q2).1]
          rcases e with rfl | rfl
          · rw [show decide (("tie" : Str) = "way") = false by decide +kernel]; rfl
          · rw [show decide (("way" : Str) = "way") = true by decide +kernel]; rfl
    · cases h
  | [], h => cases h
  | [_], h => cases h
  | [_, _, _], h => cases h
  | [_, _, _, _], h => cases h
  | _ :: _ :: _ :: _ :: _ :: _ :: _, h => cases h
open Classical in
/-- the line that words write, where it can stand -/
noncomputable def stand (w : Wb) (ws : List Str) : Option Ln := match parse ws with
  | some l => if l.ok w then some l else none
  | none => none
theorem stand_some {w : Wb} {ws : List Str} {l : Ln} (h : stand w ws = some l) : l.words = ws ∧ l.ok w ∧ parse ws = some l := by
  unfold stand at h
  split at h
  · rename_i l' e
    split at h
    · rename_i o
      cases h
      exact ⟨parse_words e, o, e⟩
    · cases h
  · cases h
theorem stand_of {w : Wb} {ws : List Str} {l : Ln} (h : parse ws = some l) (o : l.ok w) : stand w ws = some l := by
  unfold stand
  rw [h]
  exact if_pos o
theorem stand_no {w : Wb} {ws : List Str} {l : Ln} (h : parse ws = some l) (o : ¬ l.ok w) : stand w ws = none := by
  unfold stand
  rw [h]
  exact if_neg o
theorem stand_none {w : Wb} {ws : List Str} (h : parse ws = none) : stand w ws = none := by
  unfold stand
  rw [h]
theorem not_ok {w : Wb} {ws : List Str} {l : Ln} (h : stand w ws = none) (p : parse ws = some l) : ¬ l.ok w := fun o => by
  rw [stand_of p o] at h
  cases h
/-- the words of a line -/
def wordsV : V → Option (List Str)
  | .str z => if ("" : Str) ∈ Txt.split z " " then none else some (Txt.split z " ")
  | _ => none
theorem wordsV_no {v : V} (h : ∀ z, v ≠ .str z) : wordsV v = none := by
  cases v <;> first | rfl | exact absurd rfl (h _)
theorem split_len {x y z : Str} (hz : z ∈ Txt.split x y) : z.length ≤ x.length := by
  have e : x.length = (joinL (tl y) ((Txt.split x y).map tl)).length := by
    rw [← tl_join, ← len_tl, StrLaws.join_split]
  rw [e]
  have : ∀ {ps : List (List Nat)} {p : List Nat}, p ∈ ps → p.length ≤ (joinL (tl y) ps).length := by
    intro ps
    induction ps with
    | nil => intro p h; simp at h
    | cons a r ih =>
      intro p h
      cases r with
      | nil =>
        rw [List.mem_singleton.mp h]
        exact Nat.le_refl _
      | cons b r =>
        show _ ≤ (a ++ (tl y ++ joinL (tl y) (b :: r))).length
        rw [List.length_append, List.length_append]
        rcases List.mem_cons.mp h with rfl | h
        · omega
        · have := ih h
          omega
  rw [len_tl]
  exact this (List.mem_map.mpr ⟨z, hz, rfl⟩)
theorem split_ne (x : Str) : Txt.split x " " ≠ [] := fun e => by
  have h := StrLaws.join_split x " "
  rw [e] at h
  have h2 : x = "" := h.symm.trans (by decide +kernel)
  subst h2
  exact absurd e (by decide +kernel)
/-- one line more -/
noncomputable def stepV (w : Wb) (v : V) : Option (Wb × Bool) := match wordsV v with
  | none => none
  | some ws => (stand w ws).map fun l => (l.does w, l.isGv)
/-- lines read: the place of the first one that can't stand, or the web -/
noncomputable def readV : Wb → Bool → Nat → List V → Nat ⊕ Wb
  | w, o, i, [] => if o = true then .inr w else .inl i
  | w, o, i, v :: r => if o = true then .inl i else match stepV w v with
    | none => .inl i
    | some (w', o') => readV w' o' (i + 1) r
theorem read_end {w : Wb} {i : Nat} : readV w true i [] = .inr w := rfl
theorem read_short {w : Wb} {i : Nat} : readV w false i [] = .inl i := rfl
theorem read_over {w : Wb} {i : Nat} {v : V} {r : List V} : readV w true i (v :: r) = .inl i := rfl
theorem read_bad {w : Wb} {i : Nat} {v : V} {r : List V} (h : stepV w v = none) : readV w false i (v :: r) = .inl i := by
  show (match stepV w v with | none => _ | some (w', o') => _) = _
  rw [h]
theorem read_next {w w' : Wb} {i : Nat} {v : V} {r : List V} {o : Bool} (h : stepV w v = some (w', o)) : readV w false i (v :: r) = readV w' o (i + 1) r := by
  show (match stepV w v with | none => _ | some (w', o') => _) = _
  rw [h]
theorem step_ok {w w' : Wb} {v : V} {o : Bool} (h : Wok w) (e : stepV w v = some (w', o)) : Wok w' := by
  unfold stepV at e
  split at e
  · cases e
  · rename_i ws _
    cases q : stand w ws with
    | none => rw [q] at e; cases e
    | some l =>
      rw [q] at e
      cases e
      exact Ln.does_ok h (stand_some q).2.1
/-- where no tie is, none was given -/
def G0 (w : Wb) : Prop := w.ts = [] → w.g = 0
theorem G0.zero {w : Wb} (h : G0 w) (ok : Wok w) : w.ts = [] ↔ w.g = 0 := ⟨h, fun e => by
  cases q : w.ts with
  | nil => rfl
  | cons x r =>
    have o := ok.ok x.1 x.2 (by rw [q]; exact List.mem_cons_self)
    have h1 := o.lo
    have h2 := o.hi
    omega⟩
theorem Ln.g0 {w : Wb} (h : G0 w) {l : Ln} (hl : l.isGv = false) : G0 (l.does w) := by
  cases l with
  | pt x => exact h
  | tie n u =>
    intro e
    have e : w.ts ++ [(n, u)] = [] := e
    simp at e
  | gv g => cases hl
end WB

set_option Elab.async false
set_option linter.all false
set_option maxRecDepth 100000
set_option maxHeartbeats 4000000
namespace K04
open PySem PySem.Spec PyProof.Rows L2 HX WB
local macro_rules | `(tactic| walk_at "side") => `(tactic| first
  | assumption
  | rfl
  | (show (0 : Int) < _; omega)
  | (unfold CDiv; omega)
  | (unfold CMul; omega)
  | (unfold CPow; omega)
  | (rw [sizeLine_eq]; omega)
  | omega)
local macro_rules | `(tactic| walk_at "e") => `(tactic| first
  | ((with_reducible apply i_var); exact rfl)
  | (with_reducible apply i_c)
  | (with_reducible apply i_op)
  | (with_reducible apply i_un)
  | (with_reducible apply i_rI0)
  | ((with_reducible apply i_rI); (case c => walk_at "side"))
  | (with_reducible apply i_rGe)
  | (with_reducible apply i_rGt)
  | (with_reducible apply i_rU)
  | (with_reducible apply i_rEqI)
  | (with_reducible apply i_rNeI)
  | (with_reducible apply i_rEqS)
  | (with_reducible apply i_rNeS)
  | (with_reducible apply i_rEqB)
  | (with_reducible apply i_rNeB)
  | (with_reducible apply i_rIsN)
  | (with_reducible apply i_rNotN)
  | (with_reducible apply i_rInS)
  | (with_reducible apply i_rNotInS)
  | ((with_reducible apply i_catS); (case c => walk_at "side"))
  | (with_reducible apply i_tcb)
  | (with_reducible apply i_nil)
  | (with_reducible apply i_cons)
  | ((with_reducible apply i_lenS); (case c => walk_at "side"))
  | ((with_reducible apply i_lenL); assumption)
  | (with_reducible apply i_abs)
  | (with_reducible apply i_max2)
  | (with_reducible apply i_min2)
  | ((with_reducible apply i_strI); (case c => walk_at "side"))
  | (with_reducible apply i_intB)
  | (with_reducible apply i_test)
  | (with_reducible apply i_tB)
  | (with_reducible apply i_kB)
  | (with_reducible apply i_and)
  | (with_reducible apply i_or)
  | (with_reducible apply i_not)
  | (with_reducible apply i_if)
  | (with_reducible apply i_andV)
  | (with_reducible apply i_orV)
  | (with_reducible apply i_notV)
  | (with_reducible apply i_kAndV)
  | (with_reducible apply i_kOrV)
  | (with_reducible apply i_kNotV)
  | (with_reducible apply i_chain)
  | (with_reducible apply i_kChain)
  | (with_reducible apply i_drop)
  | (with_reducible apply i_ret)
  | (with_reducible apply i_retN)
  | (with_reducible apply i_ifS)
  | (with_reducible apply i_asg)
  | (with_reducible apply i_gName)
  | (with_reducible apply i_for)
  | (with_reducible apply i_lc)
  | (with_reducible apply i_iList)
  | (with_reducible apply i_iTup)
  | (with_reducible apply i_iStr)
  | (with_reducible apply i_kStrI)
  | (with_reducible apply i_lst)
  | (with_reducible apply i_tup)
  | (with_reducible apply i_call)
  | (with_reducible apply i_m1)
  | (with_reducible apply i_kStr)
  | (with_reducible apply i_bm)
  | (with_reducible apply i_bm0)
  | (with_reducible apply i_part)
  | (with_reducible apply i_kInt)
  | (with_reducible apply i_noPart)
  | (with_reducible apply i_sl)
  | (with_reducible apply i_range1)
  | (with_reducible apply i_range2)
  | ((with_reducible apply i_kRng1); (case c => walk_at "side"))
  | ((with_reducible apply i_kRng2); (case c => walk_at "side"))
  | (with_reducible apply i_gCons)
  | (with_reducible apply i_gNil)
  | (with_reducible apply i_gSub)
  | (with_reducible apply i_iZip)
  | (with_reducible apply i_yes)
  | (with_reducible apply i_ift)
  | (with_reducible apply i_iff)
  | (with_reducible apply i_nb))
local macro_rules | `(tactic| walk_at "go") => `(tactic| repeat (first | (with_reducible apply i_seq) | (with_reducible apply i_next) | walk_at "e"))
local macro_rules | `(tactic| walk_at "ge") => `(tactic| repeat walk_at "e")
local macro_rules | `(tactic| walk_at "sz") => `(tactic| first | decide | (rw [sizeLine_eq]; simp; done) | (rw [sizeLine_eq]; omega))
local macro_rules | `(tactic| walk_at "side") => `(tactic| (with_reducible exact WB.most_pos))
local macro_rules | `(tactic| walk_at "e") => `(tactic| first
  | ((with_reducible apply i_isT (b := true)); exact rfl)
  | ((with_reducible apply i_isT (b := false)); exact rfl)
  | (with_reducible apply i_fld)
  | ((with_reducible apply i_kFld); (case h => assumption); (case c1 => assumption); (case c2 => assumption); (case e => first | exact lk_number | exact lk_tail | exact lk_head | exact lk_load | exact lk_oneway | exact lk_points | exact lk_ties | exact lk_given))
  | (with_reducible apply i_sfld)
  | ((with_reducible apply i_kSFld); (case h => first | assumption | exact upd_same); (case c1 => assumption); (case c2 => assumption); (case e => exact Nat.le_of_ble_eq_true rfl))
  | (with_reducible apply i_methC)
  | (with_reducible apply i_make)
  | (with_reducible apply i_fldaug)
  | (with_reducible apply i_vals)
  | (with_reducible apply i_items)
  | (with_reducible apply i_dget)
  | (with_reducible apply i_dput)
  | (with_reducible apply i_din)
  | (with_reducible apply i_dnotin)
  | (with_reducible apply i_ddel)
  | (with_reducible apply i_dc)
  | (with_reducible apply i_enum)
  | (with_reducible apply i_ckw))
local macro_rules | `(tactic| walk_at "e") => `(tactic| first
  | ((with_reducible apply i_kDGetS); (case h => assumption); (case e => first | exact md_names | exact md_ties | exact md_given)))
local macro_rules | `(tactic| walk_at "e") => `(tactic| first
  | ((with_reducible apply i_kDGetS); (case h => assumption); (case e => assumption)))
/-- the signs of a text that aren't among some -/
def badS (l : List Nat) (s : Str) : List Str := (l.filter fun c => !decide (c ∈ s.cps.toList)).map TX.sgn
theorem badS_only {z s : Str} : (badS z.cps.toList s).isEmpty = only z s := by
  unfold badS only
  induction z.cps.toList with
  | nil => rfl
  | cons c r ih =>
    by_cases h : c ∈ s.cps.toList
    · simp only [List.filter_cons, List.all_cons, decide_eq_true h, Bool.not_true, Bool.false_eq_true, if_false, Bool.true_and]
      exact ih
    · rw [List.filter_cons, List.all_cons, decide_eq_false h]
      rfl
theorem badS_ok {z s : Str} (o : okS z = true) : ∀ y ∈ badS z.cps.toList s, okS y = true := by
  intro y hy
  obtain ⟨c, hc, rfl⟩ := List.mem_map.mp hy
  exact TX.okS_sign o (List.mem_filter.mp hc).1
theorem badS_in {l : List Nat} {c : Nat} {s : Str} (h : c ∈ s.cps.toList) : badS (l ++ [c]) s = badS l s := by
  unfold badS
  rw [List.filter_append, List.filter_cons, decide_eq_true h]
  simp
theorem badS_out {l : List Nat} {c : Nat} {s : Str} (h : ¬ c ∈ s.cps.toList) : badS (l ++ [c]) s = badS l s ++ [TX.sgn c] := by
  unfold badS
  rw [List.filter_append, List.filter_cons, decide_eq_false h]
  simp
theorem badS_len (l : List Nat) (s : Str) : (badS l s).length ≤ l.length := by
  unfold badS
  rw [List.length_map]
  exact List.length_filter_le _ _
/-! ### the law's own model while it reads -/
def md4Ks (nl td : Addr) (g : Int) (o : Bool) : List (Key × V) := [(Sum.inr "names", .ref nl), (Sum.inr "ties", .ref td), (Sum.inr "given", .int g), (Sum.inr "over", .bl o)]
structure Mod4 (H : Hp) (m nl td : Addr) (w : Wb) (o : Bool) : Prop where
  self : H m = some (.dK (md4Ks nl td w.g o))
  pts : H nl = some (.lst (w.ps.map V.str))
  ties : ∃ kvs, H td = some (.dK kvs) ∧ DP (TupAt H) kvs w.ts
theorem m4_names {nl td : Addr} {g : Int} {o : Bool} : valV (md4Ks nl td g o) (Sum.inr "names") = some (.ref nl) := rfl
theorem m4_ties {nl td : Addr} {g : Int} {o : Bool} : valV (md4Ks nl td g o) (Sum.inr "ties") = some (.ref td) := rfl
theorem m4_given {nl td : Addr} {g : Int} {o : Bool} : valV (md4Ks nl td g o) (Sum.inr "given") = some (.int g) := rfl
theorem m4_over {nl td : Addr} {g : Int} {o : Bool} : valV (md4Ks nl td g o) (Sum.inr "over") = some (.bl o) := rfl
theorem m4_pgiven {nl td : Addr} {g h : Int} {o : Bool} : putK (md4Ks nl td g o) (Sum.inr "given") (.int h) = md4Ks nl td h o := rfl
theorem m4_pover {nl td : Addr} {g : Int} {o b : Bool} : putK (md4Ks nl td g o) (Sum.inr "over") (.bl b) = md4Ks nl td g b := rfl
theorem m4_new {nl td : Addr} {g : Int} {b : Bool} : putK (modKs nl td g) (Sum.inr "over") (.bl b) = md4Ks nl td g b := rfl
section
variable {H H' : Hp} {m nl td a : Addr} {w : Wb} {n : Int} {t : Ti} {ts : Ts} {kvs : List (Key × V)} {g : Int} {ps : List Str} {o b : Bool}
theorem Mod4.view (h : Mod4 H m nl td w o) : ModS H m nl td w := ⟨⟨_, h.self, m4_names, m4_ties, m4_given⟩, h.pts, h.ties⟩
theorem Mod4.same (h : Mod4 H m nl td w o) (s : Same H H') : Mod4 H' m nl td w o where
  self := s _ _ h.self
  pts := s _ _ h.pts
  ties := by
    obtain ⟨kvs, e, c⟩ := h.ties
    exact ⟨kvs, s _ _ e, c.mono fun _ _ _ r => r.same s⟩
theorem Mod4.ne_mn (h : Mod4 H m nl td w o) : m ≠ nl := by
  rintro rfl
  have e := h.self
  rw [h.pts] at e; cases e
theorem Mod4.ne_nt (h : Mod4 H m nl td w o) : nl ≠ td := by
  rintro rfl
  obtain ⟨_, e, _⟩ := h.ties
  rw [h.pts] at e; cases e
theorem Mod4.ne_mt (h : Mod4 H m nl td w o) : m ≠ td := by
  rintro rfl
  obtain ⟨kvs, e, c⟩ := h.ties
  have e2 := h.self
  rw [e] at e2
  have e3 := c.keys
  injection e2 with e2
  injection e2 with e2
  rw [e2] at e3
  cases hts : w.ts <;> rw [hts] at e3 <;> simp [md4Ks] at e3
theorem Mod4.setPts (h : Mod4 H m nl td w o) : Mod4 (upd H nl (.lst (ps.map V.str))) m nl td { w with ps := ps } o ∧ Keep H (upd H nl (.lst (ps.map V.str))) m nl td := by
  obtain ⟨kvs, e3, c⟩ := h.ties
  exact ⟨⟨(upd_ne h.ne_mn).trans h.self, upd_same, ⟨kvs, (upd_ne h.ne_nt.symm).trans e3, c.mono fun _ _ _ r => r.other (r.ne h.pts (fun _ => by simp))⟩⟩,
    fun b o _ n _ e => (upd_ne n).trans e⟩
theorem Mod4.setTies (h : Mod4 H m nl td w o) (c : DP (TupAt H) kvs ts) : Mod4 (upd H td (.dK kvs)) m nl td { w with ts := ts } o ∧ Keep H (upd H td (.dK kvs)) m nl td := by
  obtain ⟨k2, e2, _⟩ := h.ties
  exact ⟨⟨(upd_ne h.ne_mt).trans h.self, (upd_ne h.ne_nt).trans h.pts, ⟨kvs, upd_same, c.mono fun _ _ _ r => r.other (r.ne e2 (fun _ => by simp))⟩⟩,
    fun b o _ _ n e => (upd_ne n).trans e⟩
theorem Mod4.set (h : Mod4 H m nl td w o) : Mod4 (upd H m (.dK (md4Ks nl td g b))) m nl td { w with g := g } b ∧ Keep H (upd H m (.dK (md4Ks nl td g b))) m nl td := by
  obtain ⟨kvs, e3, c⟩ := h.ties
  exact ⟨⟨upd_same, (upd_ne h.ne_mn.symm).trans h.pts, ⟨kvs, (upd_ne h.ne_mt.symm).trans e3, c.mono fun _ _ _ r => r.other (r.ne h.self (fun _ => by simp))⟩⟩,
    fun b o n _ _ e => (upd_ne n).trans e⟩
end
local macro_rules | `(tactic| walk_at "e") => `(tactic| first
  | ((with_reducible apply i_kDGetS); (case h => assumption); (case e => first | exact m4_names | exact m4_ties | exact m4_given | exact m4_over)))
section
variable {P : Program} {w : World} {K : PySem.W.Frag} {mg : Str → Option Value} {base : Heap}
def sp_lnumber : Sp := fun vs H Q _ => ∃ z : Str, vs = [.str z] ∧ z.length ≤ 1000 ∧ okS z = true ∧ ∀ H', Same H H' → Q (numV z) H'
theorem ok_law_number (T : Tx K mg) : FnOk P w K mg base CX0 1 (He.ga K "_law_number") T.fd_law_number ["_law_word_here"] sp_lnumber := by
  refine T.F_law_number.ok sc_law_number (fun vs H Q E h => ?_) (fun cdv A outer s H vs Q E hr h => ?_)
  · obtain ⟨_, rfl, _⟩ := h
    rfl
  · obtain ⟨z, rfl, hl, ho, q⟩ := h
    have hu := hu_of hr
    refine ⟨_, PSs.nox (pss_cons (ps_if (PW.pt (pw_or (pt_not (pt_chain op_le op_le pe_int (pe_callB x_lenS (by rfl) T.b_len (by decide +kernel) (pa_cons (pv 0) pa_nil)) pe_int)) (pw_or1 (pt_cmpR (op_neD hr.units) (pe_lc (own := [("_law_sign", 1)]) (by rfl) sc_law_number.nd (pi_str (pv 0)) (blkOk_by (own := [("_law_sign", 1)]) (N := N_law_number) (sc := defScope s_law_number) (by decide +kernel)) (fun _ _ _ _ _ => (pg_name (i := 1) sc_law_number.nd rfl (Or.inl rfl))) (fun _ _ _ _ _ => (pts_one (pt_cmpR op_notInS (pv 1) pe_str rfl))) (fun _ _ _ _ _ => (pv 1))) (pe_lst pa_nil) (nomark _))))) (pss_one (ps_ret pe_non)) pss_nil)
      (pss_one (ps_ret (pe_ifExp (PW.pt (pw_and (pt_cmpR op_eq (pe_ix ix_str (pv 0) pe_int (fun _ _ => rfl)) pe_str (nomark _)) (pw_and1 (pt_cmpR op_ne (pv 0) pe_str (nomark _))))) pe_non (pe_callTy x_intS (by rfl) T.b_int (by decide +kernel) (pa_cons (pv 0) pa_nil)))))), ?_⟩
    have bad : numOk z = false → ∀ H', Same H H' → Q .non H' := fun e H' s => by
      have := q H' s
      unfold numV at this
      rw [e] at this
      exact this
    walk_at "go"
    apply i_dec
    · intro h1
      walk_at "go"
      apply i_dec
      · intro h2
        walk_at "go"
        intro D hD
        refine lc_it walk_str (fun i H' => H' = upd H D (.lst ((badS (z.cps.toList.take i) digs).map V.str))) rfl (fun _ _ _ _ => trivial) ?_ ?_
        · rintro i x H1 H2 hi rfl ⟨rfl, c, hc, rfl⟩
          have hc' : z.cps.toList[i]? = some c := by simpa using hc
          have et : z.cps.toList.take (i + 1) = z.cps.toList.take i ++ [c] := by rw [List.take_add_one, hc']; rfl
          walk_at "go"
          refine ⟨rfl, ?_⟩
          walk_at "go"
          apply i_dec
          · intro hm
            walk_at "go"
            rw [et, badS_in hm]
          · intro hm
            walk_at "go"
            refine ⟨_, upd_same, ?_, ?_⟩
            · rw [List.length_map]
              have l1 := badS_len (z.cps.toList.take i) digs
              have l2 := List.length_take_le i z.cps.toList
              have l3 : z.cps.size = z.length := rfl
              rw [sizeLine_eq]
              omega
            · rw [et, badS_out hm, List.map_append, upd_upd]
              rfl
        · rintro H1 rfl
          rw [List.take_of_length_le (by simp)]
          walk_at "go"
          refine ⟨by walk_at "sz", fun p hp => ?_⟩
          refine TX.i_neNil (SqL.of ((upd_ne (ne_of_none upd_same hp)).trans upd_same)) (SqL.of upd_same) (badS_ok ho) ?_
          rw [badS_only]
          have s1 := Same.mut (Same.new hD (o := .lst ((badS z.cps.toList digs).map V.str))) ((Same.new hD).free hp) (o := .lst [])
          generalize upd (upd H D _) p _ = H1 at s1 ⊢
          cases h3 : only z digs with
          | false =>
            walk_at "go"
            exact bad (by simp [numOk, h3]) _ s1
          | true =>
            have hat := first_at h1
            walk_at "go"
            refine i_ixS (c := z.cps.toList.headD 0) ?_ (by rw [sizeLine_eq]; omega) hat
            walk_at "go"
            have fin : numOk z = true → xIntS [V.str z] H1 Q := fun ok => by
              have e : numV z = .int ((NumText.digitsVal z.cps.toList : Nat) : Int) := by unfold numV; rw [if_pos ok]
              have q := q H1 s1
              rw [e] at q
              refine ⟨z, _, rfl, PySem.intText_digits (only_digs h3) (fun e => ?_) (by omega), by omega, q⟩
              have := len_list z
              rw [e] at this
              simp at this
              omega
            apply i_dec
            · intro h4
              walk_at "go"
              apply i_dec
              · intro h5
                walk_at "go"
                exact fin (by unfold numOk fst1; rw [decide_eq_true h1, decide_eq_true h2, h3, decide_eq_true h5]; simp)
              · intro h5
                walk_at "go"
                exact bad (by unfold numOk fst1; rw [decide_eq_true h4, decide_eq_false h5]; simp) _ s1
            · intro h4
              walk_at "go"
              exact fin (by unfold numOk fst1; rw [decide_eq_true h1, decide_eq_true h2, h3, decide_eq_false h4]; simp)
      · intro h2
        walk_at "go"
        exact bad (by simp [numOk, h2]) _ (Same.refl _)
    · intro h1
      walk_at "go"
      exact bad (by simp [numOk, h1]) _ (Same.refl _)
def sp_lisname : Sp := fun vs H Q _ => ∃ z : Str, vs = [.str z] ∧ z.length ≤ 1000 ∧ okS z = true ∧ ∀ H', Same H H' → Q (.bl (isNm z)) H'
theorem ok_law_is_name (T : Tx K mg) : FnOk P w K mg base CX0 1 (He.ga K "_law_is_name") T.fd_law_is_name ["_law_word_here"] sp_lisname := by
  refine T.F_law_is_name.ok sc_law_is_name (fun vs H Q E h => ?_) (fun cdv A outer s H vs Q E hr h => ?_)
  · obtain ⟨_, rfl, _⟩ := h
    rfl
  · obtain ⟨z, rfl, hl, ho, q⟩ := h
    have hu := hu_of hr
    refine ⟨_, PSs.nox (pss_one (ps_ret (pe_and (pe_chain op_le op_le pe_int (pe_callB x_lenS (by rfl) T.b_len (by decide +kernel) (pa_cons (pv 0) pa_nil)) pe_int) (pe_one (pe_cmpR (op_eqD hr.units) (pe_lc (own := [("_law_sign", 1)]) (by rfl) sc_law_is_name.nd (pi_str (pv 0)) (blkOk_by (own := [("_law_sign", 1)]) (N := N_law_is_name) (sc := defScope s_law_is_name) (by decide +kernel)) (fun _ _ _ _ _ => (pg_name (i := 1) sc_law_is_name.nd rfl (Or.inl rfl))) (fun _ _ _ _ _ => (pts_one (pt_cmpR op_notInS (pv 1) pe_str rfl))) (fun _ _ _ _ _ => (pv 1))) (pe_lst pa_nil) (nomark _)))))), ?_⟩
    rw [isNm_of] at q
    walk_at "go"
    apply i_dec
    · intro h1
      walk_at "go"
      apply i_dec
      · intro h2
        walk_at "go"
        intro D hD
        refine lc_it walk_str (fun i H' => H' = upd H D (.lst ((badS (z.cps.toList.take i) "abcdefghijklmnopqrstuvwxyz").map V.str))) rfl (fun _ _ _ _ => trivial) ?_ ?_
        · rintro i x H1 H2 hi rfl ⟨rfl, c, hc, rfl⟩
          have hc' : z.cps.toList[i]? = some c := by simpa using hc
          have et : z.cps.toList.take (i + 1) = z.cps.toList.take i ++ [c] := by rw [List.take_add_one, hc']; rfl
          walk_at "go"
          refine ⟨rfl, ?_⟩
          walk_at "go"
          apply i_dec
          · intro hm
            walk_at "go"
            rw [et, badS_in hm]
          · intro hm
            walk_at "go"
            refine ⟨_, upd_same, ?_, ?_⟩
            · rw [List.length_map]
              have l1 := badS_len (z.cps.toList.take i) "abcdefghijklmnopqrstuvwxyz"
              have l2 := List.length_take_le i z.cps.toList
              have l3 : z.cps.size = z.length := rfl
              rw [sizeLine_eq]
              omega
            · rw [et, badS_out hm, List.map_append, upd_upd]
              rfl
        · rintro H1 rfl
          rw [List.take_of_length_le (by simp)]
          walk_at "go"
          refine ⟨by walk_at "sz", fun p hp => ?_⟩
          refine TX.i_eqNil (SqL.of ((upd_ne (ne_of_none upd_same hp)).trans upd_same)) (SqL.of upd_same) (badS_ok ho) ?_
          rw [badS_only]
          have h1' : 1 ≤ z.length := by omega
          have h2' : z.length ≤ 12 := by omega
          rw [decide_eq_true h1', decide_eq_true h2', Bool.true_and, Bool.true_and] at q
          exact q _ (Same.mut (Same.new hD) ((Same.new hD).free hp))
      · intro h2
        walk_at "go"
        have h2' : ¬ z.length ≤ 12 := by omega
        rw [decide_eq_false h2', Bool.false_and, Bool.and_false] at q
        exact q _ (Same.refl _)
    · intro h1
      walk_at "go"
      have h1' : ¬ 1 ≤ z.length := by omega
      rw [decide_eq_false h1', Bool.false_and] at q
      exact q _ (Same.refl _)
def amg (v : V) (a b : Int) : Bool := match v with
  | .int i => decide (a ≤ i) && decide (i ≤ b)
  | _ => false
def sp_lamong : Sp := fun vs H Q _ => ∃ v a b, vs = [v, .int a, .int b] ∧ (v = .non ∨ ∃ i, v = .int i) ∧ Q (.bl (amg v a b)) H
theorem ok_law_among (T : Tx K mg) : FnOk P w K mg base CX0 1 (He.ga K "_law_among") T.fd_law_among ["_law_number_here", "_law_least", "_law_most"] sp_lamong := by
  refine T.F_law_among.ok sc_law_among (fun vs H Q E h => ?_) (fun cdv A outer s H vs Q E hr h => ?_)
  · obtain ⟨_, _, _, rfl, _⟩ := h
    rfl
  · obtain ⟨v, a, b, rfl, hv, q⟩ := h
    have hu := hu_of hr
    refine ⟨_, PSs.nox (pss_one (ps_ret (pe_and (pe_cmpR op_notN1 (pv 0) pe_non (nomark _)) (pe_and (pe_cmpR op_le (pv 1) (pv 0) (nomark _)) (pe_one (pe_cmpR op_le (pv 0) (pv 2) (nomark _))))))), ?_⟩
    rcases hv with rfl | ⟨i, rfl⟩
    · walk_at "go"
      refine i_dec (fun _ => ?_) (fun e => absurd rfl e)
      walk_at "go"
      exact q
    · walk_at "go"
      refine i_dec (fun e => (by cases e)) (fun _ => ?_)
      walk_at "go"
      have q : Q (.bl (decide (a ≤ i) && decide (i ≤ b))) H := q
      refine i_dec (fun e => ?_) (fun e => ?_)
      · rw [decide_eq_true e, Bool.true_and] at q
        walk_at "go"
        exact q
      · rw [decide_eq_false e, Bool.false_and] at q
        walk_at "go"
        exact q
end
end K04

set_option Elab.async false
set_option linter.all false
set_option maxRecDepth 100000
set_option maxHeartbeats 4000000
namespace K04
open PySem PySem.Spec PyProof.Rows L2 HX WB
local macro_rules | `(tactic| walk_at "side") => `(tactic| first
  | assumption
  | rfl
  | (show (0 : Int) < _; omega)
  | (unfold CDiv; omega)
  | (unfold CMul; omega)
  | (unfold CPow; omega)
  | (rw [sizeLine_eq]; omega)
  | omega)
local macro_rules | `(tactic| walk_at "e") => `(tactic| first
  | ((with_reducible apply i_var); exact rfl)
  | (with_reducible apply i_c)
  | (with_reducible apply i_op)
  | (with_reducible apply i_un)
  | (with_reducible apply i_rI0)
  | ((with_reducible apply i_rI); (case c => walk_at "side"))
  | (with_reducible apply i_rGe)
  | (with_reducible apply i_rGt)
  | (with_reducible apply i_rU)
  | (with_reducible apply i_rEqI)
  | (with_reducible apply i_rNeI)
  | (with_reducible apply i_rEqS)
  | (with_reducible apply i_rNeS)
  | (with_reducible apply i_rEqB)
  | (with_reducible apply i_rNeB)
  | (with_reducible apply i_rIsN)
  | (with_reducible apply i_rNotN)
  | (with_reducible apply i_rInS)
  | (with_reducible apply i_rNotInS)
  | ((with_reducible apply i_catS); (case c => walk_at "side"))
  | (with_reducible apply i_tcb)
  | (with_reducible apply i_nil)
  | (with_reducible apply i_cons)
  | ((with_reducible apply i_lenS); (case c => walk_at "side"))
  | ((with_reducible apply i_lenL); assumption)
  | (with_reducible apply i_abs)
  | (with_reducible apply i_max2)
  | (with_reducible apply i_min2)
  | ((with_reducible apply i_strI); (case c => walk_at "side"))
  | (with_reducible apply i_intB)
  | (with_reducible apply i_test)
  | (with_reducible apply i_tB)
  | (with_reducible apply i_kB)
  | (with_reducible apply i_and)
  | (with_reducible apply i_or)
  | (with_reducible apply i_not)
  | (with_reducible apply i_if)
  | (with_reducible apply i_andV)
  | (with_reducible apply i_orV)
  | (with_reducible apply i_notV)
  | (with_reducible apply i_kAndV)
  | (with_reducible apply i_kOrV)
  | (with_reducible apply i_kNotV)
  | (with_reducible apply i_chain)
  | (with_reducible apply i_kChain)
  | (with_reducible apply i_drop)
  | (with_reducible apply i_ret)
  | (with_reducible apply i_retN)
  | (with_reducible apply i_ifS)
  | (with_reducible apply i_asg)
  | (with_reducible apply i_gName)
  | (with_reducible apply i_for)
  | (with_reducible apply i_lc)
  | (with_reducible apply i_iList)
  | (with_reducible apply i_iTup)
  | (with_reducible apply i_iStr)
  | (with_reducible apply i_kStrI)
  | (with_reducible apply i_lst)
  | (with_reducible apply i_tup)
  | (with_reducible apply i_call)
  | (with_reducible apply i_m1)
  | (with_reducible apply i_kStr)
  | (with_reducible apply i_bm)
  | (with_reducible apply i_bm0)
  | (with_reducible apply i_part)
  | (with_reducible apply i_kInt)
  | (with_reducible apply i_noPart)
  | (with_reducible apply i_sl)
  | (with_reducible apply i_range1)
  | (with_reducible apply i_range2)
  | ((with_reducible apply i_kRng1); (case c => walk_at "side"))
  | ((with_reducible apply i_kRng2); (case c => walk_at "side"))
  | (with_reducible apply i_gCons)
  | (with_reducible apply i_gNil)
  | (with_reducible apply i_gSub)
  | (with_reducible apply i_iZip)
  | (with_reducible apply i_yes)
  | (with_reducible apply i_ift)
  | (with_reducible apply i_iff)
  | (with_reducible apply i_nb))
local macro_rules | `(tactic| walk_at "go") => `(tactic| repeat (first | (with_reducible apply i_seq) | (with_reducible apply i_next) | walk_at "e"))
local macro_rules | `(tactic| walk_at "ge") => `(tactic| repeat walk_at "e")
local macro_rules | `(tactic| walk_at "sz") => `(tactic| first | decide | (rw [sizeLine_eq]; simp; done) | (rw [sizeLine_eq]; omega))
local macro_rules | `(tactic| walk_at "side") => `(tactic| (with_reducible exact WB.most_pos))
local macro_rules | `(tactic| walk_at "e") => `(tactic| first
  | ((with_reducible apply i_isT (b := true)); exact rfl)
  | ((with_reducible apply i_isT (b := false)); exact rfl)
  | (with_reducible apply i_fld)
  | ((with_reducible apply i_kFld); (case h => assumption); (case c1 => assumption); (case c2 => assumption); (case e => first | exact lk_number | exact lk_tail | exact lk_head | exact lk_load | exact lk_oneway | exact lk_points | exact lk_ties | exact lk_given))
  | (with_reducible apply i_sfld)
  | ((with_reducible apply i_kSFld); (case h => first | assumption | exact upd_same); (case c1 => assumption); (case c2 => assumption); (case e => exact Nat.le_of_ble_eq_true rfl))
  | (with_reducible apply i_methC)
  | (with_reducible apply i_make)
  | (with_reducible apply i_fldaug)
  | (with_reducible apply i_vals)
  | (with_reducible apply i_items)
  | (with_reducible apply i_dget)
  | (with_reducible apply i_dput)
  | (with_reducible apply i_din)
  | (with_reducible apply i_dnotin)
  | (with_reducible apply i_ddel)
  | (with_reducible apply i_dc)
  | (with_reducible apply i_enum)
  | (with_reducible apply i_ckw))
/-- no whole number -/
def NoWhole (K : PySem.W.Frag) (H : Hp) (v : V) : Prop := ∃ n a, EVV.HasTy K H v n ∧ kitB n "int" = some a ∧ (a = true → kitB n "bool" = some true)
/-- a thing that is no tie's number -/
def NoTi (K : PySem.W.Frag) (H : Hp) (w : Wb) (v : V) : Prop := (∃ n : Int, v = .int n ∧ tget w.ts n = none) ∨ NoWhole K H v
/-- no text -/
def NoStr (K : PySem.W.Frag) (H : Hp) (v : V) : Prop := ∃ n, EVV.HasTy K H v n ∧ kitB n "str" = some false
/-- a thing that is no name -/
def NoNm (K : PySem.W.Frag) (H : Hp) (v : V) : Prop := (∃ s : Str, v = .str s ∧ s.length ≤ 1000 ∧ isNm s = false) ∨ NoStr K H v
/-- a thing that is no point of the web -/
def NoPt (K : PySem.W.Frag) (H : Hp) (w : Wb) (v : V) : Prop := (∃ s : Str, v = .str s ∧ s.length ≤ 1000 ∧ s ∉ w.ps) ∨ NoStr K H v
/-- a thing that is no load -/
def NoLd (K : PySem.W.Frag) (H : Hp) (v : V) : Prop := (∃ i : Int, v = .int i ∧ ¬(0 ≤ i ∧ i ≤ most)) ∨ NoWhole K H v
section
variable {K : PySem.W.Frag} {H H' : Hp} {w : Wb} {v : V}
theorem NoWhole.same (h : NoWhole K H v) (m : Same H H') : NoWhole K H' v := by
  obtain ⟨n, a, h, e⟩ := h
  exact ⟨n, a, EVV.ty_same h m, e⟩
theorem NoTi.same (h : NoTi K H w v) (m : Same H H') : NoTi K H' w v := h.imp (fun h => h) fun h => h.same m
theorem NoStr.same (h : NoStr K H v) (m : Same H H') : NoStr K H' v := by
  obtain ⟨n, h, e⟩ := h
  exact ⟨n, EVV.ty_same h m, e⟩
theorem NoNm.same (h : NoNm K H v) (m : Same H H') : NoNm K H' v := h.imp (fun h => h) fun h => h.same m
theorem NoPt.same (h : NoPt K H w v) (m : Same H H') : NoPt K H' w v := h.imp (fun h => h) fun h => h.same m
theorem NoLd.same (h : NoLd K H v) (m : Same H H') : NoLd K H' v := h.imp (fun h => h) fun h => h.same m
end
/-- the way out by an error that keeps one value -/
def Out (K : PySem.W.Frag) (x fld : Str) (v : V) (H : Hp) (E : XK) : Prop := ∀ d, H d = none → E (.ref (He.ga K x)) (some d) (upd H d (.xd [(fld, v)]))
/-- a refusal: its class, and the value that it keeps -/
abbrev Rf := Str × Option (Str × V)
def rf (D : Str) : Rf := (D, none)
def rfv (D f : Str) (v : V) : Rf := (D, some (f, v))
/-- the way out by it -/
def Raise (K : PySem.W.Frag) (r : Rf) (H : Hp) (E : XK) : Prop := match r with
  | (D, none) => E (.ref (He.ga K D)) none H
  | (D, some (f, v)) => Out K D f v H E
/-- what a point, a new name, a new point, a tie, a load is refused for -/
def PtB (K : PySem.W.Frag) (H : Hp) (w : Wb) (v : V) (r : Rf) : Prop := NoPt K H w v ∧ r = rfv "NoPoint" "name" v
def NmB (K : PySem.W.Frag) (H : Hp) (w : Wb) (v : V) (r : Rf) : Prop := (NoNm K H v ∧ r = rf "BadName") ∨ ∃ z : Str, v = .str z ∧ isNm z = true ∧ z ∈ w.ps ∧ r = rf "Twice"
def NpB (K : PySem.W.Frag) (H : Hp) (w : Wb) (v : V) (r : Rf) : Prop := NmB K H w v r ∨ ∃ z : Str, v = .str z ∧ isNm z = true ∧ z ∉ w.ps ∧ 16 ≤ w.ps.length ∧ r = rf "TooMany"
def TiB (K : PySem.W.Frag) (H : Hp) (w : Wb) (v : V) (r : Rf) : Prop := NoTi K H w v ∧ r = rfv "NoTie" "number" v
def LdB (K : PySem.W.Frag) (H : Hp) (v : V) (r : Rf) : Prop := NoLd K H v ∧ r = rf "BadLoad"
section
variable {P : Program} {w : World} {K : PySem.W.Frag} {mg : Str → Option Value} {base : Heap}
def spn_is_whole (K : PySem.W.Frag) : Sp := fun vs H Q _ => ∃ v, vs = [v] ∧ NoWhole K H v ∧ Q (.bl false) H
theorem okn_is_whole (T : Tx K mg) : FnOk P w K mg base CX0 1 (He.ga K "is_whole") T.fd_is_whole ["thing"] (spn_is_whole K) := by
  refine T.F_is_whole.ok sc_is_whole (fun vs H Q E h => ?_) (fun cdv A outer s H vs Q E hr h => ?_)
  · obtain ⟨_, rfl, _⟩ := h
    rfl
  · obtain ⟨v, rfl, ⟨n, a, hn, e, e2⟩, q⟩ := h
    refine ⟨_, PSs.nox (pss_one (ps_ret (pe_and (pe_callB call_isi (by rfl) T.b_isinstance (by decide +kernel) (pa_cons (pv 0) (pa_cons (pe_bltn (v := .ty "int") rfl T.b_int (by decide +kernel) rfl) pa_nil))) (pe_one (pe_not (pe_callB call_isi (by rfl) T.b_isinstance (by decide +kernel) (pa_cons (pv 0) (pa_cons (pe_bltn (v := .ty "bool") rfl T.b_bool (by decide +kernel) rfl) pa_nil)))))))), ?_⟩
    walk_at "go"
    refine hn.isi e ?_
    cases a with
    | false =>
      walk_at "go"
      exact q
    | true =>
      walk_at "go"
      refine hn.isi (e2 rfl) ?_
      walk_at "go"
      exact q
theorem oka_is_whole (T : Tx K mg) : FnOk P w K mg base CX0 1 (He.ga K "is_whole") T.fd_is_whole ["thing"] (fun vs H Q E => sp_is_whole vs H Q E ∨ spn_is_whole K vs H Q E) := EVV.fn_or (ok_is_whole T) (okn_is_whole T) (by decide) (by decide)
def spn_is_name (K : PySem.W.Frag) : Sp := fun vs H Q _ => ∃ v, vs = [v] ∧ NoStr K H v ∧ Q (.bl false) H
theorem okn_is_name (T : Tx K mg) : FnOk P w K mg base CX0 2 (He.ga K "is_name") T.fd_is_name ["thing"] (spn_is_name K) := by
  refine T.F_is_name.ok sc_is_name (fun vs H Q E h => ?_) (fun cdv A outer s H vs Q E hr h => ?_)
  · obtain ⟨_, rfl, _⟩ := h
    rfl
  · obtain ⟨v, rfl, ⟨n, hn, e⟩, q⟩ := h
    refine ⟨_, PSs.nox (pss_cons (ps_if (pt_not (pt_val (pe_callB call_isi (by rfl) T.b_isinstance (by decide +kernel) (pa_cons (pv 0) (pa_cons (pe_bltn (v := .ty "str") rfl T.b_str (by decide +kernel) rfl) pa_nil))))) (pss_one (ps_ret pe_bl)) pss_nil)
      (pss_one (ps_ret (pe_and (pe_chain op_le op_le pe_int (pe_callB x_lenS (by rfl) T.b_len (by decide +kernel) (pa_cons (pv 0) pa_nil)) (pe_glob (v := .int 12) rfl (T.c_MOST_LETTERS).choose_spec ⟨_, rfl⟩)) (pe_one (pe_call (ok_has_only T) (hr.mono (by decide)) (by rfl) T.g_has_only T.F_has_only.kp T.k_has_only .nil pass0 (pa_cons (pv 0) (pa_cons (pe_glob (v := .str "abcdefghijklmnopqrstuvwxyz") rfl (T.c_LETTERS).choose_spec ⟨_, rfl⟩) pa_nil)))))))), ?_⟩
    walk_at "go"
    refine hn.isi e ?_
    walk_at "go"
    exact q
theorem oka_is_name (T : Tx K mg) : FnOk P w K mg base CX0 2 (He.ga K "is_name") T.fd_is_name ["thing"] (fun vs H Q E => sp_is_name vs H Q E ∨ spn_is_name K vs H Q E) := EVV.fn_or (ok_is_name T) (okn_is_name T) (by decide) (by decide)
def spn_is_among (K : PySem.W.Frag) : Sp := fun vs H Q _ => ∃ v a b, vs = [v, a, b] ∧ NoWhole K H v ∧ Q (.bl false) H
theorem okn_is_among (T : Tx K mg) : FnOk P w K mg base CX0 2 (He.ga K "is_among") T.fd_is_among ["thing", "least", "most"] (spn_is_among K) := by
  refine T.F_is_among.ok sc_is_among (fun vs H Q E h => ?_) (fun cdv A outer s H vs Q E hr h => ?_)
  · obtain ⟨_, _, _, rfl, _⟩ := h
    rfl
  · obtain ⟨v, a, b, rfl, hn, q⟩ := h
    refine ⟨_, PSs.nox (pss_one (ps_ret (pe_and (pe_call (oka_is_whole T) (hr.mono (by decide)) (by rfl) T.g_is_whole T.F_is_whole.kp T.k_is_whole .nil pass0 (pa_cons (pv 0) pa_nil)) (pe_one (pe_chain op_le op_le (pv 1) (pv 0) (pv 2)))))), ?_⟩
    walk_at "go"
    refine .inr ⟨v, rfl, hn, ?_⟩
    walk_at "go"
    exact q
theorem oka_is_among (T : Tx K mg) : FnOk P w K mg base CX0 2 (He.ga K "is_among") T.fd_is_among ["thing", "least", "most"] (fun vs H Q E => sp_is_among vs H Q E ∨ spn_is_among K vs H Q E) := EVV.fn_or (ok_is_among T) (okn_is_among T) (by decide) (by decide)
/-! ### what each deed needs -/
def spx_need_load (K : PySem.W.Frag) : Sp := fun vs H Q E => ∃ v r, vs = [v] ∧ LdB K H v r ∧ Raise K r H E
theorem okx_need_load (T : Tx K mg) (J : Js P w K mg base) : FnOk P w K mg base (CX P w) 6 (He.ga K "_need_load") T.fd_need_load ["load"] (spx_need_load K) := by
  refine T.F_need_load.ok sc_need_load (fun vs H Q E h => ?_) (fun cdv A outer s H vs Q E hr h => ?_)
  · obtain ⟨_, _, rfl, _⟩ := h
    rfl
  · obtain ⟨v, r, rfl, ⟨bad, rfl⟩, q⟩ := h
    refine ⟨_, (pss_one (ps_if (pt_not (pt_val (pe_call (oka_is_among T) (hr.mono (by decide)) (by rfl) T.g_is_among T.F_is_among.kp T.k_is_among .nil pass0 (pa_cons (pv 0) (pa_cons pe_int (pa_cons (pe_glob (v := .int 1000000000000000000000000000000000000000000000000000000000000) rfl (T.c_MOST).choose_spec ⟨_, rfl⟩) pa_nil)))))) (pss_one (ps_raise rfl (takes_of rfl rfl rfl rfl) (pmk_own PySem.F.excBase_ValueError T.x_BadLoad.1 T.g_BadLoad T.x_BadLoad.2.1 (EVX.raises_of T.x_BadLoad.2.2) (by rfl)))) pss_nil)), ?_⟩
    walk_at "go"
    rcases bad with ⟨i, rfl, hi⟩ | nw
    · refine .inl ⟨i, _, _, rfl, ?_⟩
      rw [show (decide ((0 : Int) ≤ i) && decide (i ≤ _)) = false from by
        rw [← Bool.decide_and]; exact decide_eq_false hi]
      walk_at "go"
      exact q
    · refine .inr ⟨v, _, _, rfl, nw, ?_⟩
      walk_at "go"
      exact q
def spx_need_point (K : PySem.W.Frag) : Sp := fun vs H Q E => ∃ p l d w v r, vs = [.ref p, v] ∧ WebAt K H p l d w ∧ PtB K H w v r ∧ Raise K r H E
theorem okx_Web_need_point (T : Tx K mg) (J : Js P w K mg base) : FnOk P w K mg base (CX P w) 6 (He.ma K (He.ga K "Web") "_need_point") T.fd_Web_need_point ["self", "name"] (spx_need_point K) := by
  refine T.F_Web_need_point.ok sc_Web_need_point (fun vs H Q E h => ?_) (fun cdv A outer s H vs Q E hr h => ?_)
  · obtain ⟨_, _, _, _, _, _, rfl, _⟩ := h
    rfl
  · obtain ⟨p, l, d, w, v, r, rfl, hw, ⟨bad, rfl⟩, q⟩ := h
    obtain ⟨dx, ep⟩ := hw.self
    refine ⟨_, (pss_one (ps_if (PW.pt (pw_or (pt_not (pt_val (pe_call (oka_is_name T) (hr.mono (by decide)) (by rfl) T.g_is_name T.F_is_name.kp T.k_is_name .nil pass0 (pa_cons (pv 1) pa_nil)))) (pw_or1 (pt_cmpR op_notIn_seq (pv 1) (pe_fld (pv 0) rfl) (by rfl))))) (pss_one (ps_raise rfl (takes_of rfl rfl rfl rfl) (EVX.pmk_ini J.i_NoPoint (hr.mono (by decide)) (by rfl) T.g_NoPoint (pa_cons (pv 1) pa_nil)))) pss_nil)), ?_⟩
    have c1 := T.cl_Web
    have c2 := T.na_Web_points
    walk_at "go"
    rcases bad with ⟨x, rfl, hl, hx⟩ | ns
    · refine .inl ⟨x, rfl, by omega, ?_⟩
      cases hn : isNm x with
      | false =>
        walk_at "go"
        unfold tMkO
        walk_at "ge"
        exact EVX.i_ini q
      | true =>
        walk_at "go"
        refine i_inS (SqL.of hw.pts) ?_
        rw [decide_eq_false hx]
        walk_at "go"
        rw [if_pos (by rfl)]
        unfold tMkO
        walk_at "ge"
        exact EVX.i_ini q
    · refine .inr ⟨v, rfl, ns, ?_⟩
      walk_at "go"
      unfold tMkO
      walk_at "ge"
      exact EVX.i_ini q
def spx_need_new_name (K : PySem.W.Frag) : Sp := fun vs H Q E => ∃ p l d w v r, vs = [.ref p, v] ∧ WebAt K H p l d w ∧ NmB K H w v r ∧ Raise K r H E
theorem okx_Web_need_new_name (T : Tx K mg) (J : Js P w K mg base) : FnOk P w K mg base (CX P w) 6 (He.ma K (He.ga K "Web") "_need_new_name") T.fd_Web_need_new_name ["self", "name"] (spx_need_new_name K) := by
  refine T.F_Web_need_new_name.ok sc_Web_need_new_name (fun vs H Q E h => ?_) (fun cdv A outer s H vs Q E hr h => ?_)
  · obtain ⟨_, _, _, _, _, _, rfl, _⟩ := h
    rfl
  · obtain ⟨p, l, d, w, v, r, rfl, hw, bad, q⟩ := h
    obtain ⟨dx, ep⟩ := hw.self
    refine ⟨_, (pss_cons (ps_if (pt_not (pt_val (pe_call (oka_is_name T) (hr.mono (by decide)) (by rfl) T.g_is_name T.F_is_name.kp T.k_is_name .nil pass0 (pa_cons (pv 1) pa_nil)))) (pss_one (ps_raise rfl (takes_of rfl rfl rfl rfl) (pmk_own PySem.F.excBase_ValueError T.x_BadName.1 T.g_BadName T.x_BadName.2.1 (EVX.raises_of T.x_BadName.2.2) (by rfl)))) pss_nil)
      (pss_one (ps_if (pt_cmpR op_in_seq (pv 1) (pe_fld (pv 0) rfl) (by rfl)) (pss_one (ps_raise rfl (takes_of rfl rfl rfl rfl) (pmk_own PySem.F.excBase_ValueError T.x_Twice.1 T.g_Twice T.x_Twice.2.1 (EVX.raises_of T.x_Twice.2.2) (by rfl)))) pss_nil))), ?_⟩
    have c1 := T.cl_Web
    have c2 := T.na_Web_points
    walk_at "go"
    rcases bad with ⟨⟨x, rfl, hl, hn⟩ | ns, rfl⟩ | ⟨x, rfl, hn, hx, rfl⟩
    · refine .inl ⟨x, rfl, by omega, ?_⟩
      rw [hn]
      walk_at "go"
      exact q
    · refine .inr ⟨v, rfl, ns, ?_⟩
      walk_at "go"
      exact q
    · refine .inl ⟨x, rfl, by have := nm_len hn; omega, ?_⟩
      rw [hn]
      walk_at "go"
      refine i_inS (SqL.of hw.pts) ?_
      rw [decide_eq_true hx]
      walk_at "go"
      exact q
theorem okb_need_load (T : Tx K mg) (J : Js P w K mg base) : FnOk P w K mg base (CX P w) 6 (He.ga K "_need_load") T.fd_need_load ["load"] (fun vs H Q E => sp_need_load vs H Q E ∨ (spx_need_load K) vs H Q E) := EVV.fn_or (ok_need_load T) (okx_need_load T J) (by decide) (by decide)
theorem okb_Web_need_point (T : Tx K mg) (J : Js P w K mg base) : FnOk P w K mg base (CX P w) 6 (He.ma K (He.ga K "Web") "_need_point") T.fd_Web_need_point ["self", "name"] (fun vs H Q E => (sp_need_point K) vs H Q E ∨ (spx_need_point K) vs H Q E) := EVV.fn_or (ok_Web_need_point T) (okx_Web_need_point T J) (by decide) (by decide)
theorem okb_Web_need_new_name (T : Tx K mg) (J : Js P w K mg base) : FnOk P w K mg base (CX P w) 6 (He.ma K (He.ga K "Web") "_need_new_name") T.fd_Web_need_new_name ["self", "name"] (fun vs H Q E => (sp_need_new_name K) vs H Q E ∨ (spx_need_new_name K) vs H Q E) := EVV.fn_or (ok_Web_need_new_name T) (okx_Web_need_new_name T J) (by decide) (by decide)
end
end K04

set_option Elab.async false
set_option linter.all false
set_option maxRecDepth 100000
set_option maxHeartbeats 2000000
/-! HXf: readings of texts put together. -/
namespace HX
open PySem PySem.Spec PyProof.Rows L2
section
variable {X : Cx} {σ : L2.St} {H : Hp} {Q : VK}
def tJoin (ts : List TE) : TE := fun σ H Q => tJs ts Str.empty σ H (fun out H1 => Q (.str out) H1)
theorem pe_join {v1 v2 : Expr} {rest : List Expr} {ts : List TE} {pos : Pos} (h : PJ X (v1 :: v2 :: rest) ts) : PE X (.JoinedStr (v1 :: v2 :: rest) pos) (tJoin ts) := pe_joined h
def kJ (ts : List TE) (acc : Str) (σ : L2.St) (R : Str → Hp → Prop) : VK := fun x H1 => ∃ y : Str, x = .str y ∧ (acc ++ y).length ≤ sizeLine ∧ tJs ts (acc ++ y) σ H1 R
def kF (Q : VK) : VK := fun x H1 => (∃ y : Str, x = .str y ∧ y.length ≤ sizeLine ∧ Q (.str y) H1) ∨ ∃ i : Int, x = .int i ∧ i.natAbs.log2 < 1920 ∧ Q (.str (toString i)) H1
theorem i_tJoin {ts : List TE} (q : tJs ts Str.empty σ H (fun out H1 => Q (.str out) H1)) : tJoin ts σ H Q := q
theorem i_tJsC {t : TE} {ts : List TE} {acc : Str} {R : Str → Hp → Prop} (q : t σ H (kJ ts acc σ R)) : tJs (t :: ts) acc σ H R := q
theorem i_tJsN {acc : Str} {R : Str → Hp → Prop} (q : R acc H) : tJs [] acc σ H R := q
theorem i_kJ {ts : List TE} {acc y : Str} {R : Str → Hp → Prop} (c : (acc ++ y).length ≤ sizeLine) (q : tJs ts (acc ++ y) σ H R) : kJ ts acc σ R (.str y) H := ⟨y, rfl, c, q⟩
theorem i_tFmt {te : TE} (q : te σ H (kF Q)) : tFmt te σ H Q := q
theorem i_kFS {y : Str} (c : y.length ≤ sizeLine) (q : Q (.str y) H) : kF Q (.str y) H := .inl ⟨y, rfl, c, q⟩
theorem len_e : Str.empty.length = 0 := rfl
theorem len_b : (" " : Str).length = 1 := by decide +kernel
theorem len_p : ("point " : Str).length = 6 := by decide +kernel
theorem len_g : ("given " : Str).length = 6 := by decide +kernel
theorem i_lenSetC {K : PySem.W.Frag} {ta : TE} (q : ta σ H fun x H1 => ∃ (l : Addr) (xs : List Str), x = .ref l ∧ SqL K H1 l (xs.map V.str) ∧ xs.Nodup ∧ xs.length ≤ 4000 ∧ Q (.int (xs.length : Nat)) H1) : tLenSetT K ta σ H Q := q
end
end HX

set_option Elab.async false
set_option linter.all false
set_option maxRecDepth 100000
set_option maxHeartbeats 2000000
namespace K04
open PySem PySem.Spec PyProof.Rows L2 HX WB
local macro_rules | `(tactic| walk_at "side") => `(tactic| first
  | assumption
  | rfl
  | (show (0 : Int) < _; omega)
  | (unfold CDiv; omega)
  | (unfold CMul; omega)
  | (unfold CPow; omega)
  | (rw [sizeLine_eq]; omega)
  | omega)
local macro_rules | `(tactic| walk_at "e") => `(tactic| first
  | ((with_reducible apply i_var); exact rfl)
  | (with_reducible apply i_c)
  | (with_reducible apply i_op)
  | (with_reducible apply i_un)
  | (with_reducible apply i_rI0)
  | ((with_reducible apply i_rI); (case c => walk_at "side"))
  | (with_reducible apply i_rGe)
  | (with_reducible apply i_rGt)
  | (with_reducible apply i_rU)
  | (with_reducible apply i_rEqI)
  | (with_reducible apply i_rNeI)
  | (with_reducible apply i_rEqS)
  | (with_reducible apply i_rNeS)
  | (with_reducible apply i_rEqB)
  | (with_reducible apply i_rNeB)
  | (with_reducible apply i_rIsN)
  | (with_reducible apply i_rNotN)
  | (with_reducible apply i_rInS)
  | (with_reducible apply i_rNotInS)
  | ((with_reducible apply i_catS); (case c => walk_at "side"))
  | (with_reducible apply i_tcb)
  | (with_reducible apply i_nil)
  | (with_reducible apply i_cons)
  | ((with_reducible apply i_lenS); (case c => walk_at "side"))
  | ((with_reducible apply i_lenL); assumption)
  | (with_reducible apply i_abs)
  | (with_reducible apply i_max2)
  | (with_reducible apply i_min2)
  | ((with_reducible apply i_strI); (case c => walk_at "side"))
  | (with_reducible apply i_intB)
  | (with_reducible apply i_test)
  | (with_reducible apply i_tB)
  | (with_reducible apply i_kB)
  | (with_reducible apply i_and)
  | (with_reducible apply i_or)
  | (with_reducible apply i_not)
  | (with_reducible apply i_if)
  | (with_reducible apply i_andV)
  | (with_reducible apply i_orV)
  | (with_reducible apply i_notV)
  | (with_reducible apply i_kAndV)
  | (with_reducible apply i_kOrV)
  | (with_reducible apply i_kNotV)
  | (with_reducible apply i_chain)
  | (with_reducible apply i_kChain)
  | (with_reducible apply i_drop)
  | (with_reducible apply i_ret)
  | (with_reducible apply i_retN)
  | (with_reducible apply i_ifS)
  | (with_reducible apply i_asg)
  | (with_reducible apply i_gName)
  | (with_reducible apply i_for)
  | (with_reducible apply i_lc)
  | (with_reducible apply i_iList)
  | (with_reducible apply i_iTup)
  | (with_reducible apply i_iStr)
  | (with_reducible apply i_kStrI)
  | (with_reducible apply i_lst)
  | (with_reducible apply i_tup)
  | (with_reducible apply i_call)
  | (with_reducible apply i_m1)
  | (with_reducible apply i_kStr)
  | (with_reducible apply i_bm)
  | (with_reducible apply i_bm0)
  | (with_reducible apply i_part)
  | (with_reducible apply i_kInt)
  | (with_reducible apply i_noPart)
  | (with_reducible apply i_sl)
  | (with_reducible apply i_range1)
  | (with_reducible apply i_range2)
  | ((with_reducible apply i_kRng1); (case c => walk_at "side"))
  | ((with_reducible apply i_kRng2); (case c => walk_at "side"))
  | (with_reducible apply i_gCons)
  | (with_reducible apply i_gNil)
  | (with_reducible apply i_gSub)
  | (with_reducible apply i_iZip)
  | (with_reducible apply i_yes)
  | (with_reducible apply i_ift)
  | (with_reducible apply i_iff)
  | (with_reducible apply i_nb))
local macro_rules | `(tactic| walk_at "go") => `(tactic| repeat (first | (with_reducible apply i_seq) | (with_reducible apply i_next) | walk_at "e"))
local macro_rules | `(tactic| walk_at "ge") => `(tactic| repeat walk_at "e")
local macro_rules | `(tactic| walk_at "sz") => `(tactic| first | decide | (rw [sizeLine_eq]; simp; done) | (rw [sizeLine_eq]; omega))
local macro_rules | `(tactic| walk_at "side") => `(tactic| (with_reducible exact WB.most_pos))
local macro_rules | `(tactic| walk_at "e") => `(tactic| first
  | ((with_reducible apply i_isT (b := true)); exact rfl)
  | ((with_reducible apply i_isT (b := false)); exact rfl)
  | (with_reducible apply i_fld)
  | ((with_reducible apply i_kFld); (case h => assumption); (case c1 => assumption); (case c2 => assumption); (case e => first | exact lk_number | exact lk_tail | exact lk_head | exact lk_load | exact lk_oneway | exact lk_points | exact lk_ties | exact lk_given))
  | (with_reducible apply i_sfld)
  | ((with_reducible apply i_kSFld); (case h => first | assumption | exact upd_same); (case c1 => assumption); (case c2 => assumption); (case e => exact Nat.le_of_ble_eq_true rfl))
  | (with_reducible apply i_methC)
  | (with_reducible apply i_make)
  | (with_reducible apply i_fldaug)
  | (with_reducible apply i_vals)
  | (with_reducible apply i_items)
  | (with_reducible apply i_dget)
  | (with_reducible apply i_dput)
  | (with_reducible apply i_din)
  | (with_reducible apply i_dnotin)
  | (with_reducible apply i_ddel)
  | (with_reducible apply i_dc)
  | (with_reducible apply i_enum)
  | (with_reducible apply i_ckw))
local macro_rules | `(tactic| walk_at "jz") => `(tactic| (rw [sizeLine_eq]; (try simp only [TX.len_app, len_e, len_b, len_p, len_g]); omega))
local macro_rules | `(tactic| walk_at "e") => `(tactic| first
  | (with_reducible apply i_tJoin)
  | (with_reducible apply i_tJsC)
  | (with_reducible apply i_tFmt)
  | ((with_reducible apply i_kJ); (case c => walk_at "jz"))
  | ((with_reducible apply i_kFS); (case c => walk_at "jz"))
  | (with_reducible apply i_tJsN))
section
variable {P : Program} {w : World} {K : PySem.W.Frag} {mg : Str → Option Value} {base : Heap}
def sp_number_text : Sp := fun vs H Q _ => ∃ n : Int, vs = [.int n] ∧ 0 ≤ n ∧ n < 10 ^ 61 ∧ Q (.str (nS n)) H
theorem ok_number_text (T : Tx K mg) : FnOk P w K mg base CX0 1 (He.ga K "number_text") T.fd_number_text ["number"] sp_number_text := by
  refine T.F_number_text.ok sc_number_text (fun vs H Q E h => ?_) (fun cdv A outer s H vs Q E hr h => ?_)
  · obtain ⟨n, rfl, _⟩ := h
    rfl
  · obtain ⟨n, rfl, h0, h1, q⟩ := h
    refine ⟨_, PSs.nox (pss_one (ps_ret (pe_callTy x_strI (by rfl) T.b_str (by decide +kernel) (pa_cons (pv 0) pa_nil)))), ?_⟩
    have hl := nS_log h0 h1
    walk_at "go"
    exact q
def sp_number_of : Sp := fun vs H Q _ => ∃ z : Str, vs = [.str z] ∧ z.length ≤ 1000 ∧ Q (numV z) H
theorem numV_bad {z : Str} (h : numOk z = false) : numV z = .non := by unfold numV; rw [h]; rfl
theorem ok_number_of (T : Tx K mg) : FnOk P w K mg base CX0 2 (He.ga K "number_of") T.fd_number_of ["word"] sp_number_of := by
  refine T.F_number_of.ok sc_number_of (fun vs H Q E h => ?_) (fun cdv A outer s H vs Q E hr h => ?_)
  · obtain ⟨x, rfl, _⟩ := h
    rfl
  · obtain ⟨z, rfl, hz, q⟩ := h
    refine ⟨_, PSs.nox (pss_cons (ps_if (PW.pt (pw_or (pt_not (pt_val (pe_callB call_isi (by rfl) T.b_isinstance (by decide +kernel) (pa_cons (pv 0) (pa_cons (pe_bltn (v := .ty "str") rfl T.b_str (by decide +kernel) rfl) pa_nil))))) (pw_or1 (pt_not (pt_chain op_le op_le pe_int (pe_callB x_lenS (by rfl) T.b_len (by decide +kernel) (pa_cons (pv 0) pa_nil)) (pe_glob (v := .int 61) rfl (T.c_MOST_FIGURES).choose_spec ⟨_, rfl⟩)))))) (pss_one (ps_ret pe_non)) pss_nil)
      (pss_cons (ps_if (pt_not (pt_val (pe_call (ok_has_only T) (hr.mono (by decide)) (by rfl) T.g_has_only T.F_has_only.kp T.k_has_only .nil pass0 (pa_cons (pv 0) (pa_cons (pe_glob (v := .str "0123456789") rfl (T.c_FIGURES).choose_spec ⟨_, rfl⟩) pa_nil))))) (pss_one (ps_ret pe_non)) pss_nil)
      (C8.pss_cut (ps_if (PW.pt (pw_and (pt_cmpR op_eq (pe_ix ix_str (pv 0) pe_int (fun _ _ => rfl)) pe_str (nomark _)) (pw_and1 (pt_cmpR op_ne (pv 0) pe_str (nomark _))))) (pss_one (ps_ret pe_non)) pss_nil)
      (pss_one (ps_ret (pe_callTy x_intS (by rfl) T.b_int (by decide +kernel) (pa_cons (pv 0) pa_nil))))))), ?_⟩
    walk_at "go"
    apply i_dec
    · intro h1
      walk_at "go"
      apply i_dec
      · intro h2
        walk_at "go"
        refine ⟨z, _, rfl, ?_⟩
        walk_at "go"
        apply i_b
        · intro h3
          walk_at "go"
          have hat := first_at h1
          refine ⟨fun σ' H' => H' = H ∧ σ' = [some (.str z)] ∧ numOk z = true, ?_, ?_⟩
          · walk_at "go"
            refine i_ixS (c := z.cps.toList.headD 0) ?_ (by rw [sizeLine_eq]; omega) hat
            walk_at "go"
            apply i_dec
            · intro h4
              walk_at "go"
              apply i_dec
              · intro h5
                walk_at "go"
                exact ⟨rfl, rfl, by unfold numOk fst1; rw [decide_eq_true h1, decide_eq_true h2, h3, decide_eq_true h5]; simp⟩
              · intro h5
                walk_at "go"
                rw [numV_bad (by unfold numOk fst1; rw [decide_eq_true h4, decide_eq_false h5]; simp)] at q
                exact q
            · intro h4
              walk_at "go"
              exact ⟨rfl, rfl, by unfold numOk fst1; rw [decide_eq_true h1, decide_eq_true h2, h3, decide_eq_false h4]; simp⟩
          · rintro σ' H' ⟨rfl, rfl, ok⟩
            have e : numV z = .int ((NumText.digitsVal z.cps.toList : Nat) : Int) := by unfold numV; rw [if_pos ok]
            rw [e] at q
            walk_at "go"
            refine ⟨z, _, rfl, PySem.intText_digits (only_digs h3) (fun e => ?_) (by omega), by omega, q⟩
            have := len_list z
            rw [e] at this
            simp at this
            omega
        · intro h3
          walk_at "go"
          rw [numV_bad (by simp [numOk, h3])] at q
          exact q
      · intro h2
        walk_at "go"
        rw [numV_bad (by simp [numOk, h2])] at q
        exact q
    · intro h1
      walk_at "go"
      rw [numV_bad (by simp [numOk, h1])] at q
      exact q
/-- what stands where a line may stand -/
def LineAt (K : PySem.W.Frag) (H : Hp) (v : V) : Prop := (∃ z : Str, v = .str z ∧ TX.okS z = true ∧ z.length ≤ 1000) ∨ ((∀ z, v ≠ .str z) ∧ NoStr K H v)
theorem LineAt.same {K : PySem.W.Frag} {H H' : Hp} {v : V} (h : LineAt K H v) (m : Same H H') : LineAt K H' v := h.imp (fun h => h) fun h => ⟨h.1, h.2.same m⟩
def sp_words_of (K : PySem.W.Frag) : Sp := fun vs H Q _ => ∃ v, vs = [v] ∧ LineAt K H v ∧ (∀ H', wordsV v = none → Same H H' → Q .non H') ∧ ∀ ws p, wordsV v = some ws → H p = none → Q (.ref p) (upd H p (.lst (ws.map V.str)))
theorem ok_words_of (T : Tx K mg) : FnOk P w K mg base CX0 1 (He.ga K "words_of") T.fd_words_of ["line"] (sp_words_of K) := by
  refine T.F_words_of.ok sc_words_of (fun vs H Q E h => ?_) (fun cdv A outer s H vs Q E hr h => ?_)
  · obtain ⟨x, rfl, _⟩ := h
    rfl
  · obtain ⟨v, rfl, hv, q1, q2⟩ := h
    refine ⟨_, PSs.nox (pss_cons (ps_if (pt_not (pt_val (pe_callB call_isi (by rfl) T.b_isinstance (by decide +kernel) (pa_cons (pv 0) (pa_cons (pe_bltn (v := .ty "str") rfl T.b_str (by decide +kernel) rfl) pa_nil))))) (pss_one (ps_ret pe_non)) pss_nil)
      (pss_cons (ps_set (i := 1) sc_words_of.nd rfl (Or.inl rfl) (x_split (pv 0) pe_str))
      (pss_cons (ps_if (pt_cmpR op_in_seq pe_str (pv 1) (by rfl)) (pss_one (ps_ret pe_non)) pss_nil)
      (pss_one (ps_ret (pv 1)))))), ?_⟩
    rcases hv with ⟨z, rfl, hz, hl⟩ | ⟨nz, n, hn, e⟩
    · walk_at "go"
      refine i_split (fun p hp' => ?_) (by decide +kernel) (by rw [sizeLine_eq]; omega)
      walk_at "go"
      refine i_inS (SqL.of upd_same) ?_
      by_cases c : ("" : Str) ∈ Txt.split z " "
      · rw [decide_eq_true c]
        show kB _ (.bl true) _
        walk_at "go"
        exact q1 _ (if_pos c) (Same.new hp')
      · rw [decide_eq_false c]
        show kB _ (.bl false) _
        walk_at "go"
        exact q2 _ p (if_neg c) hp'
    · walk_at "go"
      refine hn.isi e ?_
      walk_at "go"
      exact q1 H (wordsV_no nz) (Same.refl H)
def sp_tie_line (K : PySem.W.Frag) : Sp := fun vs H Q _ => ∃ a n t, vs = [.ref a] ∧ TieAt K H n t a ∧ 0 ≤ n ∧ n < 10 ^ 61 ∧ 0 ≤ t.c ∧ t.c < 10 ^ 61 ∧ t.t.length ≤ 12 ∧ t.h.length ≤ 12 ∧ Q (.str (Ln.tie n t).text) H
theorem kind_len (o : Bool) : (kindS o).length = 3 := by cases o <;> decide +kernel
theorem tie_text (n : Int) (t : Ti) (k : Str) (hk : k = kindS t.o) : Str.empty ++ k ++ " " ++ nS n ++ " " ++ t.t ++ " " ++ t.h ++ " " ++ nS t.c = (Ln.tie n t).text := by
  subst hk
  refine TL.ext_tl ?_
  unfold Ln.text Ln.words
  rw [TL.join_eq, TL.tl_join]
  simp only [TL.tl_append, List.map_cons, List.map_nil, TL.joinL, List.append_assoc]
  rfl
theorem pt_text (x : Str) : Str.empty ++ "point " ++ x = (Ln.pt x).text := by
  refine TL.ext_tl ?_
  unfold Ln.text Ln.words
  rw [TL.join_eq, TL.tl_join]
  simp only [TL.tl_append, List.map_cons, List.map_nil, TL.joinL]
  have e : TL.tl ("point " : Str) = TL.tl "point" ++ TL.tl " " := by decide +kernel
  rw [e, List.append_assoc, List.append_assoc]
  rfl
theorem gv_text (g : Int) : Str.empty ++ "given " ++ nS g = (Ln.gv g).text := by
  refine TL.ext_tl ?_
  unfold Ln.text Ln.words
  rw [TL.join_eq, TL.tl_join]
  simp only [TL.tl_append, List.map_cons, List.map_nil, TL.joinL]
  have e : TL.tl ("given " : Str) = TL.tl "given" ++ TL.tl " " := by decide +kernel
  rw [e, List.append_assoc, List.append_assoc]
  rfl
theorem ok_tie_line (T : Tx K mg) : FnOk P w K mg base CX0 2 (He.ga K "_tie_line") T.fd_tie_line ["tie"] (sp_tie_line K) := by
  refine T.F_tie_line.ok sc_tie_line (fun vs H Q E h => ?_) (fun cdv A outer s H vs Q E hr h => ?_)
  · obtain ⟨_, _, _, rfl, _⟩ := h
    rfl
  · obtain ⟨a, n, t, rfl, ⟨dx, ha⟩, n0, n1, c0, c1, l1, l2, q⟩ := h
    refine ⟨_, PSs.nox (pss_cons (ps_set (i := 1) sc_tie_line.nd rfl (Or.inl rfl) (pe_ifExp (pt_val (pe_fld (pv 0) rfl)) pe_str pe_str))
      (pss_cons (ps_set (i := 2) sc_tie_line.nd rfl (Or.inl rfl) (pe_call (ok_number_text T) (hr.mono (by decide)) (by rfl) T.g_number_text T.F_number_text.kp T.k_number_text .nil pass0 (pa_cons (pe_fld (pv 0) rfl) pa_nil)))
      (pss_one (ps_ret (pe_join (PJ.cons (pe_fmt (pv 1)) (PJ.cons pe_str (PJ.cons (pe_fmt (pv 2)) (PJ.cons pe_str (PJ.cons (pe_fmt (pe_fld (pv 0) rfl)) (PJ.cons pe_str (PJ.cons (pe_fmt (pe_fld (pv 0) rfl)) (PJ.cons pe_str (PJ.cons (pe_fmt (pe_call (ok_number_text T) (hr.mono (by decide)) (by rfl) T.g_number_text T.F_number_text.kp T.k_number_text .nil pass0 (pa_cons (pe_fld (pv 0) rfl) pa_nil))) PJ.nil)))))))))))))), ?_⟩
    have d1 := T.cl_Tie
    have d2 := T.na_Tie_number
    have d3 := T.na_Tie_tail
    have d4 := T.na_Tie_head
    have d5 := T.na_Tie_load
    have d6 := T.na_Tie_is_oneway
    have z1 := nS_len n0 n1
    have z2 := nS_len c0 c1
    have tw : (kindS true).length = 3 := kind_len true
    have fw : (kindS false).length = 3 := kind_len false
    have et : ("way" : Str) = kindS true := rfl
    have ef : ("tie" : Str) = kindS false := rfl
    rw [← tie_text n t _ rfl] at q
    walk_at "go"
    refine i_b (fun e => ?_) (fun e => ?_)
    · walk_at "go"
      refine ⟨n, rfl, n0, n1, ?_⟩
      rw [et]
      walk_at "go"
      refine ⟨t.c, rfl, c0, c1, ?_⟩
      walk_at "go"
      rw [e] at q
      exact q
    · walk_at "go"
      refine ⟨n, rfl, n0, n1, ?_⟩
      rw [ef]
      walk_at "go"
      refine ⟨t.c, rfl, c0, c1, ?_⟩
      walk_at "go"
      rw [e] at q
      exact q
end
end K04

set_option Elab.async false
set_option linter.all false
set_option maxRecDepth 100000
set_option maxHeartbeats 4000000
namespace K04
open PySem PySem.Spec PyProof.Rows L2 HX WB
local macro_rules | `(tactic| walk_at "side") => `(tactic| first
  | assumption
  | rfl
  | (show (0 : Int) < _; omega)
  | (unfold CDiv; omega)
  | (unfold CMul; omega)
  | (unfold CPow; omega)
  | (rw [sizeLine_eq]; omega)
  | omega)
local macro_rules | `(tactic| walk_at "e") => `(tactic| first
  | ((with_reducible apply i_var); exact rfl)
  | (with_reducible apply i_c)
  | (with_reducible apply i_op)
  | (with_reducible apply i_un)
  | (with_reducible apply i_rI0)
  | ((with_reducible apply i_rI); (case c => walk_at "side"))
  | (with_reducible apply i_rGe)
  | (with_reducible apply i_rGt)
  | (with_reducible apply i_rU)
  | (with_reducible apply i_rEqI)
  | (with_reducible apply i_rNeI)
  | (with_reducible apply i_rEqS)
  | (with_reducible apply i_rNeS)
  | (with_reducible apply i_rEqB)
  | (with_reducible apply i_rNeB)
  | (with_reducible apply i_rIsN)
  | (with_reducible apply i_rNotN)
  | (with_reducible apply i_rInS)
  | (with_reducible apply i_rNotInS)
  | ((with_reducible apply i_catS); (case c => walk_at "side"))
  | (with_reducible apply i_tcb)
  | (with_reducible apply i_nil)
  | (with_reducible apply i_cons)
  | ((with_reducible apply i_lenS); (case c => walk_at "side"))
  | ((with_reducible apply i_lenL); assumption)
  | (with_reducible apply i_abs)
  | (with_reducible apply i_max2)
  | (with_reducible apply i_min2)
  | ((with_reducible apply i_strI); (case c => walk_at "side"))
  | (with_reducible apply i_intB)
  | (with_reducible apply i_test)
  | (with_reducible apply i_tB)
  | (with_reducible apply i_kB)
  | (with_reducible apply i_and)
  | (with_reducible apply i_or)
  | (with_reducible apply i_not)
  | (with_reducible apply i_if)
  | (with_reducible apply i_andV)
  | (with_reducible apply i_orV)
  | (with_reducible apply i_notV)
  | (with_reducible apply i_kAndV)
  | (with_reducible apply i_kOrV)
  | (with_reducible apply i_kNotV)
  | (with_reducible apply i_chain)
  | (with_reducible apply i_kChain)
  | (with_reducible apply i_drop)
  | (with_reducible apply i_ret)
  | (with_reducible apply i_retN)
  | (with_reducible apply i_ifS)
  | (with_reducible apply i_asg)
  | (with_reducible apply i_gName)
  | (with_reducible apply i_for)
  | (with_reducible apply i_lc)
  | (with_reducible apply i_iList)
  | (with_reducible apply i_iTup)
  | (with_reducible apply i_iStr)
  | (with_reducible apply i_kStrI)
  | (with_reducible apply i_lst)
  | (with_reducible apply i_tup)
  | (with_reducible apply i_call)
  | (with_reducible apply i_m1)
  | (with_reducible apply i_kStr)
  | (with_reducible apply i_bm)
  | (with_reducible apply i_bm0)
  | (with_reducible apply i_part)
  | (with_reducible apply i_kInt)
  | (with_reducible apply i_noPart)
  | (with_reducible apply i_sl)
  | (with_reducible apply i_range1)
  | (with_reducible apply i_range2)
  | ((with_reducible apply i_kRng1); (case c => walk_at "side"))
  | ((with_reducible apply i_kRng2); (case c => walk_at "side"))
  | (with_reducible apply i_gCons)
  | (with_reducible apply i_gNil)
  | (with_reducible apply i_gSub)
  | (with_reducible apply i_iZip)
  | (with_reducible apply i_yes)
  | (with_reducible apply i_ift)
  | (with_reducible apply i_iff)
  | (with_reducible apply i_nb))
local macro_rules | `(tactic| walk_at "go") => `(tactic| repeat (first | (with_reducible apply i_seq) | (with_reducible apply i_next) | walk_at "e"))
local macro_rules | `(tactic| walk_at "ge") => `(tactic| repeat walk_at "e")
local macro_rules | `(tactic| walk_at "sz") => `(tactic| first | decide | (rw [sizeLine_eq]; simp; done) | (rw [sizeLine_eq]; omega))
local macro_rules | `(tactic| walk_at "side") => `(tactic| (with_reducible exact WB.most_pos))
local macro_rules | `(tactic| walk_at "e") => `(tactic| first
  | ((with_reducible apply i_isT (b := true)); exact rfl)
  | ((with_reducible apply i_isT (b := false)); exact rfl)
  | (with_reducible apply i_fld)
  | ((with_reducible apply i_kFld); (case h => assumption); (case c1 => assumption); (case c2 => assumption); (case e => first | exact lk_number | exact lk_tail | exact lk_head | exact lk_load | exact lk_oneway | exact lk_points | exact lk_ties | exact lk_given))
  | (with_reducible apply i_sfld)
  | ((with_reducible apply i_kSFld); (case h => first | assumption | exact upd_same); (case c1 => assumption); (case c2 => assumption); (case e => exact Nat.le_of_ble_eq_true rfl))
  | (with_reducible apply i_methC)
  | (with_reducible apply i_make)
  | (with_reducible apply i_fldaug)
  | (with_reducible apply i_vals)
  | (with_reducible apply i_items)
  | (with_reducible apply i_dget)
  | (with_reducible apply i_dput)
  | (with_reducible apply i_din)
  | (with_reducible apply i_dnotin)
  | (with_reducible apply i_ddel)
  | (with_reducible apply i_dc)
  | (with_reducible apply i_enum)
  | (with_reducible apply i_ckw))
local macro_rules | `(tactic| walk_at "e") => `(tactic| first
  | ((with_reducible apply i_kDGetS); (case h => assumption); (case e => first | exact md_names | exact md_ties | exact md_given)))
local macro_rules | `(tactic| walk_at "e") => `(tactic| first
  | ((with_reducible apply i_kDGetS); (case h => assumption); (case e => assumption)))
local macro_rules | `(tactic| walk_at "e") => `(tactic| first
  | ((with_reducible apply i_kDGetS); (case h => assumption); (case e => first | exact m4_names | exact m4_ties | exact m4_given | exact m4_over)))
section
variable {P : Program} {w : World} {K : PySem.W.Frag} {mg : Str → Option Value} {base : Heap}
def Lk (H : Hp) (m nl td : Addr) (w : Wb) (ws : List Str) (Q : VK) : Prop :=
  (∀ ln H', stand w ws = some ln → Mod4 H' m nl td (ln.does w) ln.isGv → Keep H H' m nl td → Q (.bl true) H') ∧ (∀ H', stand w ws = none → Keep H H' m nl td → Q (.bl false) H')
theorem pow60 : (10 : Int) ^ (60 : Int).toNat = most := by decide +kernel
theorem numV_or (z : Str) : numV z = .non ∨ ∃ i, numV z = .int i := numV_cases z
def sp_ltie : Sp := fun vs H Q _ => ∃ m nl td w a z ws, vs = [.ref m, .ref a] ∧ Mod4 H m nl td w false ∧ Wok w ∧ H a = some (.lst ((z :: ws).map V.str)) ∧ (∀ y ∈ z :: ws, okS y = true ∧ y.length ≤ 1000) ∧ (z = "tie" ∨ z = "way") ∧ Lk H m nl td w (z :: ws) Q
theorem ok_law_tie_read (T : Tx K mg) : FnOk P w K mg base CX0 2 (He.ga K "_law_tie_read") T.fd_law_tie_read ["_law_model", "_law_words"] sp_ltie := by
  refine T.F_law_tie_read.ok sc_law_tie_read (fun vs H Q E h => ?_) (fun cdv A outer s H vs Q E hr h => ?_)
  · obtain ⟨_, _, _, _, _, _, _, rfl, _⟩ := h
    rfl
  · obtain ⟨m, nl, td, w, a, z, ws, rfl, hm, ok, ha, hl, hz, q1, q2⟩ := h
    have hu := hu_of hr
    refine ⟨_, PSs.nox (pss_cons (ps_if (PW.pt (pw_or (pt_cmpR op_ne (pe_callB x_lenL (by rfl) T.b_len (by decide +kernel) (pa_cons (pv 1) pa_nil)) pe_int (nomark _)) (pw_or1 (pt_cmpR op_eq (pe_callB call_lenD (by rfl) T.b_len (by decide +kernel) (pa_cons (pe_dget hu (pv 0) pe_str (fun _ _ => rfl)) pa_nil)) pe_int (nomark _))))) (pss_one (ps_ret pe_bl)) pss_nil)
      (pss_cons (ps_set (i := 2) sc_law_tie_read.nd rfl (Or.inl rfl) (pe_call (ok_law_number T) (hr.mono (by decide)) (by rfl) T.g_law_number T.F_law_number.kp T.k_law_number .nil pass0 (pa_cons (pe_ix ix_list (pv 1) pe_int (fun _ _ => rfl)) pa_nil)))
      (pss_cons (ps_set (i := 3) sc_law_tie_read.nd rfl (Or.inl rfl) (pe_call (ok_law_number T) (hr.mono (by decide)) (by rfl) T.g_law_number T.F_law_number.kp T.k_law_number .nil pass0 (pa_cons (pe_ix ix_list (pv 1) pe_int (fun _ _ => rfl)) pa_nil)))
      (pss_cons (ps_if (PW.pt (pw_or (pt_not (pt_val (pe_call (ok_law_among T) (hr.mono (by decide)) (by rfl) T.g_law_among T.F_law_among.kp T.k_law_among .nil pass0 (pa_cons (pv 2) (pa_cons (pe_op op_add (pe_dget hu (pv 0) pe_str (fun _ _ => rfl)) pe_int) (pa_cons (pe_op op_pow pe_int pe_int) pa_nil)))))) (pw_or1 (pt_not (pt_val (pe_call (ok_law_among T) (hr.mono (by decide)) (by rfl) T.g_law_among T.F_law_among.kp T.k_law_among .nil pass0 (pa_cons (pv 3) (pa_cons pe_int (pa_cons (pe_op op_pow pe_int pe_int) pa_nil))))))))) (pss_one (ps_ret pe_bl)) pss_nil)
      (pss_cons (ps_if (PW.pt (pw_or (pt_cmpR op_notIn_seq (pe_ix ix_list (pv 1) pe_int (fun _ _ => rfl)) (pe_dget hu (pv 0) pe_str (fun _ _ => rfl)) (by rfl)) (pw_or (pt_cmpR op_notIn_seq (pe_ix ix_list (pv 1) pe_int (fun _ _ => rfl)) (pe_dget hu (pv 0) pe_str (fun _ _ => rfl)) (by rfl)) (pw_or1 (pt_cmpR op_eq (pe_ix ix_list (pv 1) pe_int (fun _ _ => rfl)) (pe_ix ix_list (pv 1) pe_int (fun _ _ => rfl)) (nomark _)))))) (pss_one (ps_ret pe_bl)) pss_nil)
      (pss_cons (ps_dput hu (pe_dget hu (pv 0) pe_str (fun _ _ => rfl)) (pv 2) (pe_tup (pa_cons (pe_ix ix_list (pv 1) pe_int (fun _ _ => rfl)) (pa_cons (pe_ix ix_list (pv 1) pe_int (fun _ _ => rfl)) (pa_cons (pv 3) (pa_cons (pe_cmpR op_eq (pe_ix ix_list (pv 1) pe_int (fun _ _ => rfl)) pe_str (nomark _)) pa_nil))))) rfl)
      (pss_cons (ps_dput hu (pv 0) pe_str (pv 2) rfl)
      (pss_one (ps_ret pe_bl))))))))), ?_⟩
    have em := hm.self
    obtain ⟨kvs, et, hd⟩ := hm.ties
    have hdl := hd.len
    walk_at "go"
    refine i_lenL (SqL.of ha) ?_
    walk_at "go"
    refine i_dec (fun e => ?_) (fun e => ?_)
    rotate_left
    · walk_at "go"
      exact q2 H (stand_none (parse_tieN hz fun c => e (by simp [c]))) Keep.rfl
    have hx : ∃ n t h c, ws = [n, t, h, c] := by
      match ws, e with
      | [], e => simp at e
      | [_], e => simp at e
      | [_, _], e => simp at e
      | [_, _, _], e => simp at e
      | [n, t, h, c], _ => exact ⟨n, t, h, c, rfl⟩
      | _ :: _ :: _ :: _ :: _ :: _, e => simp at e; omega
    obtain ⟨n, t, h, c, rfl⟩ := hx
    have hln := hl n (by simp)
    have hlt := hl t (by simp)
    have hlh := hl h (by simp)
    have hlc := hl c (by simp)
    walk_at "go"
    refine ⟨td, kvs, rfl, et, ?_⟩
    walk_at "go"
    rw [hdl]
    have nok : (∀ i j, numV n = .int i → numV c = .int j → ¬ (Ln.tie i ⟨t, h, j, decide (z = "way")⟩).ok w) → stand w [z, n, t, h, c] = none := fun no => by
      rcases numV_cases n with en | ⟨i, en⟩
      · exact stand_none (parse_tie0 (.inl en))
      rcases numV_cases c with ec | ⟨j, ec⟩
      · exact stand_none (parse_tie0 (.inr ec))
      exact stand_no (parse_tie hz en ec) (no i j en ec)
    refine i_dec (fun e48 => ?_) (fun e48 => ?_)
    · walk_at "go"
      exact q2 H (nok fun i j _ _ o => by have : w.ts.length < 48 := o.2.2.2.2.2.2.2; omega) Keep.rfl
    walk_at "go"
    refine i_ixL (SqL.of ha) (atI_nat (j := 1) rfl) ?_
    walk_at "go"
    refine ⟨n, rfl, hln.2, hln.1, fun H1 s1 => ?_⟩
    have ha1 := s1 _ _ ha
    walk_at "go"
    refine i_ixL (SqL.of ha1) (atI_nat (j := 4) rfl) ?_
    walk_at "go"
    refine ⟨c, rfl, hlc.2, hlc.1, fun H2 s2 => ?_⟩
    have s12 := s1.trans s2
    have ha2 := s2 _ _ ha1
    have hm2 := hm.same s12
    have em2 := hm2.self
    have en2 := hm2.pts
    walk_at "go"
    refine ⟨_, _, _, rfl, numV_or n, ?_⟩
    rw [pow60]
    rcases numV_cases n with en | ⟨i, en⟩
    · rw [en]
      show kB _ (.bl false) _
      walk_at "go"
      exact q2 H2 (stand_none (parse_tie0 (.inl en))) (Keep.of s12)
    rw [en]
    show kB _ (.bl (decide (w.g + 1 ≤ i) && decide (i ≤ most))) _
    apply i_kB
    apply i_b
    · intro ei
      walk_at "go"
      refine q2 H2 (nok fun i' j' e1 _ o => ?_) (Keep.of s12)
      rw [en] at e1
      cases e1
      obtain ⟨o1, o2, _⟩ := o
      rw [decide_eq_true (by omega), decide_eq_true o2] at ei
      exact absurd ei (by decide)
    intro ei
    simp only [Bool.not_eq_false', Bool.and_eq_true, decide_eq_true_eq] at ei
    walk_at "go"
    refine ⟨_, _, _, rfl, numV_or c, ?_⟩
    rw [pow60]
    rcases numV_cases c with ec | ⟨j, ec⟩
    · rw [ec]
      show kB _ (.bl false) _
      walk_at "go"
      exact q2 H2 (stand_none (parse_tie0 (.inr ec))) (Keep.of s12)
    rw [ec]
    have hp := parse_tie (t := t) (h := h) hz en ec
    show kB _ (.bl (decide (0 ≤ j) && decide (j ≤ most))) _
    apply i_kB
    apply i_b
    · intro ej
      walk_at "go"
      refine q2 H2 (stand_no hp fun o => ?_) (Keep.of s12)
      obtain ⟨_, _, _, _, _, o6, o7, _⟩ := o
      rw [decide_eq_true o6, decide_eq_true o7] at ej
      exact absurd ej (by decide)
    intro ej
    simp only [Bool.not_eq_false', Bool.and_eq_true, decide_eq_true_eq] at ej
    walk_at "go"
    refine i_ixL (SqL.of ha2) (atI_nat (j := 2) rfl) ?_
    walk_at "go"
    refine i_inS (SqL.of en2) ?_
    by_cases a1 : t ∈ w.ps
    rotate_left
    · rw [decide_eq_false a1]
      show kB _ (.bl true) _
      walk_at "go"
      exact q2 H2 (stand_no hp fun o => a1 o.2.2.1) (Keep.of s12)
    rw [decide_eq_true a1]
    show kB _ (.bl false) _
    walk_at "go"
    refine i_ixL (SqL.of ha2) (atI_nat (j := 3) rfl) ?_
    walk_at "go"
    refine i_inS (SqL.of en2) ?_
    by_cases a2 : h ∈ w.ps
    rotate_left
    · rw [decide_eq_false a2]
      show kB _ (.bl true) _
      walk_at "go"
      exact q2 H2 (stand_no hp fun o => a2 o.2.2.2.1) (Keep.of s12)
    rw [decide_eq_true a2]
    show kB _ (.bl false) _
    walk_at "go"
    refine i_ixL (SqL.of ha2) (atI_nat (j := 2) rfl) ?_
    walk_at "go"
    refine i_ixL (SqL.of ha2) (atI_nat (j := 3) rfl) ?_
    have hls : t.length ≤ sizeLine := by rw [sizeLine_eq]; omega
    walk_at "go"
    refine i_dec (fun a3 => ?_) (fun a3 => ?_)
    · walk_at "go"
      exact q2 H2 (stand_no hp fun o => o.2.2.2.2.1 a3) (Keep.of s12)
    have o : (Ln.tie i ⟨t, h, j, decide (z = "way")⟩).ok w := ⟨by omega, ei.2, a1, a2, a3, ej.1, ej.2, by have := ok.tl; omega⟩
    walk_at "go"
    refine i_ixL (SqL.of ha2) (atI_nat (j := 2) rfl) ?_
    walk_at "go"
    refine i_ixL (SqL.of ha2) (atI_nat (j := 3) rfl) ?_
    walk_at "go"
    refine i_ixL (SqL.of ha2) (atI_nat (j := 0) rfl) ?_
    have hlz := (hl z (by simp)).2
    walk_at "go"
    refine ⟨by walk_at "sz", fun p4 hp4 => ?_⟩
    have s4 : Same H2 (upd H2 p4 (.tup [.str t, .str h, .int j, .bl (decide (z = "way"))])) := Same.new hp4
    have tt : TupAt (upd H2 p4 (.tup [.str t, .str h, .int j, .bl (decide (z = "way"))])) i ⟨t, h, j, decide (z = "way")⟩ p4 := upd_same
    generalize upd H2 p4 (.tup [.str t, .str h, .int j, .bl (decide (z = "way"))]) = H4 at s4 tt ⊢
    have hm4 := hm2.same s4
    have em4 := hm4.self
    obtain ⟨kv4, et4, hd4⟩ := hm4.ties
    have hl4 := hd4.len
    have tl48 := ok.tl
    walk_at "go"
    refine i_kDPutI et4 (by rw [hl4, sizeLine_eq]; omega) ?_
    have hnew : ∀ z ∈ w.ts, z.1 ≠ i := fun z hz e => by
      have := (ok.ok z.1 z.2 hz).hi
      omega
    obtain ⟨b5, b6⟩ := hm4.setTies (put_new hd4 tt hnew)
    generalize upd H4 td (.dK (putK kv4 (Sum.inl i) (.ref p4))) = H5 at b5 b6 ⊢
    have em5 := b5.self
    walk_at "go"
    refine i_kDPutS em5 (by show 4 < _; walk_at "sz") ?_
    rw [m4_pgiven]
    obtain ⟨b7, b8⟩ := b5.set (g := i) (b := false)
    generalize upd H5 m (.dK (md4Ks nl td i false)) = H6 at b7 b8 ⊢
    walk_at "go"
    exact q1 _ H6 (stand_of hp o) b7 (((Keep.of (s12.trans s4)).trans b6 (.inl rfl)).trans b8 (.inl rfl))
def sp_lline (K : PySem.W.Frag) : Sp := fun vs H Q _ => ∃ m nl td w o v, vs = [.ref m, v] ∧ Mod4 H m nl td w o ∧ Wok w ∧ (o = false → G0 w) ∧ LineAt K H v ∧
  (∀ w' o' H', o = false → stepV w v = some (w', o') → Mod4 H' m nl td w' o' → Keep H H' m nl td → Q (.bl true) H') ∧ (∀ H', (o = true ∨ stepV w v = none) → Keep H H' m nl td → Q (.bl false) H')
theorem step_of {w : Wb} {v : V} {ws : List Str} (h : wordsV v = some ws) : stepV w v = (stand w ws).map fun l => (l.does w, l.isGv) := by
  unfold stepV
  rw [h]
theorem step_no {w : Wb} {v : V} (h : wordsV v = none) : stepV w v = none := by
  unfold stepV
  rw [h]
theorem ok_law_line_read (T : Tx K mg) : FnOk P w K mg base CX0 3 (He.ga K "_law_line_read") T.fd_law_line_read ["_law_model", "_law_line"] (sp_lline K) := by
  refine T.F_law_line_read.ok sc_law_line_read (fun vs H Q E h => ?_) (fun cdv A outer s H vs Q E hr h => ?_)
  · obtain ⟨_, _, _, _, _, _, rfl, _⟩ := h
    rfl
  · obtain ⟨m, nl, td, w, o, v, rfl, hm, ok, g0, hv, q1, q2⟩ := h
    have hu := hu_of hr
    refine ⟨_, PSs.nox (pss_cons (ps_set (i := 2) sc_law_line_read.nd rfl (Or.inl rfl) (pe_ifExp (pt_val (pe_callB call_isi (by rfl) T.b_isinstance (by decide +kernel) (pa_cons (pv 1) (pa_cons (pe_bltn (v := .ty "str") rfl T.b_str (by decide +kernel) rfl) pa_nil)))) (x_split (pv 1) pe_str) (pe_lst (pa_cons pe_str pa_nil))))
      (pss_cons (ps_if (PW.pt (pw_or (pt_cmpR op_in_seq pe_str (pv 2) (by rfl)) (pw_or1 (pt_val (pe_dget hu (pv 0) pe_str (fun _ _ => rfl)))))) (pss_one (ps_ret pe_bl)) pss_nil)
      (pss_cons (ps_if (pt_cmpR op_in_seq (pe_ix ix_list (pv 2) pe_int (fun _ _ => rfl)) (pe_tup (pa_cons pe_str (pa_cons pe_str pa_nil))) (by rfl)) (pss_one (ps_ret (pe_call (ok_law_tie_read T) (hr.mono (by decide)) (by rfl) T.g_law_tie_read T.F_law_tie_read.kp T.k_law_tie_read .nil pass0 (pa_cons (pv 0) (pa_cons (pv 2) pa_nil))))) pss_nil)
      (pss_cons (ps_if (pt_cmpR op_ne (pe_callB x_lenL (by rfl) T.b_len (by decide +kernel) (pa_cons (pv 2) pa_nil)) pe_int (nomark _)) (pss_one (ps_ret pe_bl)) pss_nil)
      (pss_cons (ps_if (pt_cmpR op_eq (pe_ix ix_list (pv 2) pe_int (fun _ _ => rfl)) pe_str (nomark _)) (pss_cons (ps_if (PW.pt (pw_or (pt_cmpR (op_ne_dict0 hr.units0) (pe_dget hu (pv 0) pe_str (fun _ _ => rfl)) pe_dnewK (nomark _)) (pw_or (pt_not (pt_val (pe_call (ok_law_is_name T) (hr.mono (by decide)) (by rfl) T.g_law_is_name T.F_law_is_name.kp T.k_law_is_name .nil pass0 (pa_cons (pe_ix ix_list (pv 2) pe_int (fun _ _ => rfl)) pa_nil)))) (pw_or1 (pt_cmpR op_in_seq (pe_ix ix_list (pv 2) pe_int (fun _ _ => rfl)) (pe_dget hu (pv 0) pe_str (fun _ _ => rfl)) (by rfl)))))) (pss_one (ps_ret pe_bl)) pss_nil)
      (pss_cons (ps_if (pt_cmpR op_eq (pe_callB x_lenL (by rfl) T.b_len (by decide +kernel) (pa_cons (pe_dget hu (pv 0) pe_str (fun _ _ => rfl)) pa_nil)) pe_int (nomark _)) (pss_one (ps_ret pe_bl)) pss_nil)
      (pss_cons (ps_expr (pe_bm PySem.F.plainAttrs_list PySem.F.slot_list_append PySem.F.type_list_append mt_append (pe_dget hu (pv 0) pe_str (fun _ _ => rfl)) (pa_cons (pe_ix ix_list (pv 2) pe_int (fun _ _ => rfl)) pa_nil)))
      (pss_one (ps_ret pe_bl))))) pss_nil)
      (pss_cons (ps_set (i := 3) sc_law_line_read.nd rfl (Or.inl rfl) (pe_call (ok_law_number T) (hr.mono (by decide)) (by rfl) T.g_law_number T.F_law_number.kp T.k_law_number .nil pass0 (pa_cons (pe_ix ix_list (pv 2) pe_int (fun _ _ => rfl)) pa_nil)))
      (pss_cons (ps_if (PW.pt (pw_or (pt_cmpR op_ne (pe_ix ix_list (pv 2) pe_int (fun _ _ => rfl)) pe_str (nomark _)) (pw_or1 (pt_not (pt_val (pe_call (ok_law_among T) (hr.mono (by decide)) (by rfl) T.g_law_among T.F_law_among.kp T.k_law_among .nil pass0 (pa_cons (pv 3) (pa_cons (pe_dget hu (pv 0) pe_str (fun _ _ => rfl)) (pa_cons (pe_op op_pow pe_int pe_int) pa_nil))))))))) (pss_one (ps_ret pe_bl)) pss_nil)
      (pss_cons (ps_dput hu (pv 0) pe_str (pv 3) rfl)
      (pss_cons (ps_dput hu (pv 0) pe_str pe_bl rfl)
      (pss_one (ps_ret pe_bl))))))))))), ?_⟩
    have em := hm.self
    rcases hv with ⟨x, rfl, hxo, hxl⟩ | ⟨nz, n, hn, e⟩
    rotate_left
    · walk_at "go"
      refine hn.isi e ?_
      walk_at "go"
      refine ⟨by walk_at "sz", fun a ha => ?_⟩
      have s1 : Same H (upd H a (.lst [.str ""])) := Same.new ha
      have ea : (upd H a (.lst [.str ""])) a = some (.lst ([("" : Str)].map V.str)) := upd_same
      generalize upd H a (.lst [.str ""]) = H1 at s1 ea ⊢
      walk_at "go"
      refine i_inS (SqL.of ea) ?_
      rw [decide_eq_true (by simp)]
      show kB _ (.bl true) _
      walk_at "go"
      exact q2 H1 (.inr (step_no (wordsV_no nz))) (Keep.of s1)
    walk_at "go"
    refine i_split (fun a ha => ?_) (by decide +kernel) (by rw [sizeLine_eq]; omega)
    have s1 : Same H (upd H a (.lst ((Txt.split x " ").map V.str))) := Same.new ha
    have ea : (upd H a (.lst ((Txt.split x " ").map V.str))) a = some (.lst ((Txt.split x " ").map V.str)) := upd_same
    generalize upd H a (.lst ((Txt.split x " ").map V.str)) = H1 at s1 ea ⊢
    have hm1 := hm.same s1
    have em1 := hm1.self
    have en1 := hm1.pts
    obtain ⟨kvs, et1, hd1⟩ := hm1.ties
    have kk : ∀ H', Keep H1 H' m nl td → Keep H H' m nl td := fun H' k => (Keep.of s1).trans k (.inl rfl)
    walk_at "go"
    refine i_inS (SqL.of ea) ?_
    by_cases hem : ("" : Str) ∈ Txt.split x " "
    · rw [decide_eq_true hem]
      show kB _ (.bl true) _
      walk_at "go"
      exact q2 H1 (.inr (step_no (if_pos hem))) (Keep.of s1)
    rw [decide_eq_false hem]
    show kB _ (.bl false) _
    have hw : wordsV (.str x) = some (Txt.split x " ") := if_neg hem
    have hne := split_ne x
    have hbd : ∀ y ∈ Txt.split x " ", okS y = true ∧ y.length ≤ 1000 := fun y hy => ⟨TX.okS_split hxo hy, Nat.le_trans (split_len hy) hxl⟩
    generalize Txt.split x " " = W at ea hem hw hne hbd
    cases W with
    | nil => exact absurd rfl hne
    | cons z ws =>
    walk_at "go"
    cases o with
    | true =>
      walk_at "go"
      exact q2 H1 (.inl rfl) (Keep.of s1)
    | false =>
    have bad : ∀ H', stand w (z :: ws) = none → Keep H1 H' m nl td → Q (.bl false) H' := fun H' e k => q2 H' (.inr (by rw [step_of hw, e]; rfl)) (kk H' k)
    have good : ∀ ln H', stand w (z :: ws) = some ln → Mod4 H' m nl td (ln.does w) ln.isGv → Keep H1 H' m nl td → Q (.bl true) H' := fun ln H' e a b => q1 _ _ H' rfl (by rw [step_of hw, e]; rfl) a (kk H' b)
    have hlz := (hbd z (by simp)).2
    walk_at "go"
    refine i_ixL (SqL.of ea) (atI_nat (j := 0) rfl) ?_
    walk_at "go"
    refine ⟨by walk_at "sz", fun p3 hp3 => ?_⟩
    have s3 : Same H1 (upd H1 p3 (.tup ((["tie", "way"] : List Str).map V.str))) := Same.new hp3
    refine i_inT (ys := ["tie", "way"]) (SqT.of upd_same) ?_
    have u3 : upd H1 p3 (.tup [.str "tie", .str "way"]) = upd H1 p3 (.tup ((["tie", "way"] : List Str).map V.str)) := rfl
    rw [u3]
    generalize upd H1 p3 (.tup ((["tie", "way"] : List Str).map V.str)) = H2 at s3 ⊢
    have ea2 := s3 _ _ ea
    have hm2 := hm1.same s3
    have em2 := hm2.self
    have en2 := hm2.pts
    obtain ⟨kv2, et2, hd2⟩ := hm2.ties
    have bad2 : ∀ H', stand w (z :: ws) = none → Keep H2 H' m nl td → Q (.bl false) H' := fun H' e k => bad H' e ((Keep.of s3).trans k (.inl rfl))
    have good2 : ∀ ln H', stand w (z :: ws) = some ln → Mod4 H' m nl td (ln.does w) ln.isGv → Keep H2 H' m nl td → Q (.bl true) H' := fun ln H' e a k => good ln H' e a ((Keep.of s3).trans k (.inl rfl))
    by_cases hk : z ∈ (["tie", "way"] : List Str)
    · rw [decide_eq_true hk]
      show kB _ (.bl true) _
      walk_at "go"
      exact ⟨m, nl, td, w, a, z, ws, rfl, hm2, ok, ea2, hbd, by simpa using hk, good2, bad2⟩
    rw [decide_eq_false hk]
    show kB _ (.bl false) _
    have hk2 : ¬(z = "tie" ∨ z = "way") := fun c => hk (by simpa using c)
    walk_at "go"
    refine i_lenL (SqL.of ea2) ?_
    walk_at "go"
    refine i_dec (fun e2 => ?_) (fun e2 => ?_)
    rotate_left
    · walk_at "go"
      refine bad2 H2 (stand_none ?_) Keep.rfl
      by_cases c1 : z = "point"
      · exact parse_pt0 (.inl c1) fun c => e2 (by simp [c])
      · by_cases c2 : z = "given"
        · exact parse_pt0 (.inr c2) fun c => e2 (by simp [c])
        · exact parse_other c1 c2 hk2
    have hx : ∃ y, ws = [y] := by
      match ws, e2 with
      | [], e => simp at e
      | [y], _ => exact ⟨y, rfl⟩
      | _ :: _ :: _, e => simp at e; omega
    obtain ⟨y, rfl⟩ := hx
    obtain ⟨hyo, hyl⟩ := hbd y (by simp)
    walk_at "go"
    refine i_ixL (SqL.of ea2) (atI_nat (j := 0) rfl) ?_
    walk_at "go"
    refine i_dec (fun c1 => ?_) (fun c1 => ?_)
    · subst c1
      have hp := parse_pt y
      walk_at "go"
      intro pe hpe
      have s4 : Same H2 (upd H2 pe (.dK [])) := Same.new hpe
      have ee : (upd H2 pe (.dK [])) pe = some (.dK []) := upd_same
      generalize upd H2 pe (.dK []) = H3 at s4 ee ⊢
      have ea3 := s4 _ _ ea2
      have hm3 := hm2.same s4
      have em3 := hm3.self
      have en3 := hm3.pts
      refine ⟨td, pe, kv2, rfl, rfl, s4 _ _ et2, ee, ?_⟩
      have hkl := hd2.len
      have gz := (g0 rfl).zero ok
      have k3 : Keep H2 H3 m nl td := Keep.of s4
      apply i_kB
      apply i_b
      · intro cc
        walk_at "go"
        refine bad2 H3 (stand_no hp fun o => ?_) k3
        have : w.ts = [] := gz.mpr o.1
        rw [this] at hkl
        rw [List.length_eq_zero_iff.mp hkl] at cc
        cases cc
      intro cc
      have g00 : w.g = 0 := gz.mp (by
        cases kv2 with
        | nil => exact List.length_eq_zero_iff.mp hkl.symm
        | cons _ _ => cases cc)
      walk_at "go"
      refine i_ixL (SqL.of ea3) (atI_nat (j := 1) rfl) ?_
      walk_at "go"
      refine ⟨y, rfl, hyl, hyo, fun H4 s5 => ?_⟩
      have k4 := k3.trans (Keep.of s5) (.inl rfl)
      have ea4 := s5 _ _ ea3
      have hm4 := hm3.same s5
      have em4 := hm4.self
      have en4 := hm4.pts
      cases hnm : isNm y with
      | false =>
        walk_at "go"
        exact bad2 H4 (stand_no hp fun o => by rw [o.2.2.1] at hnm; cases hnm) k4
      | true =>
      walk_at "go"
      refine i_ixL (SqL.of ea4) (atI_nat (j := 1) rfl) ?_
      walk_at "go"
      refine i_inS (SqL.of en4) ?_
      by_cases hin : y ∈ w.ps
      · rw [decide_eq_true hin]
        walk_at "go"
        exact bad2 H4 (stand_no hp fun o => o.2.1 hin) k4
      rw [decide_eq_false hin]
      walk_at "go"
      rw [if_neg (by decide)]
      walk_at "go"
      refine i_lenL (SqL.of en4) ?_
      rw [List.length_map]
      walk_at "go"
      have l16 := ok.le
      refine i_dec (fun e16 => ?_) (fun e16 => ?_)
      · walk_at "go"
        exact bad2 H4 (stand_no hp fun o => by have := o.2.2.2; omega) k4
      walk_at "go"
      refine i_kTyL (SqL.of en4) ?_
      walk_at "go"
      refine i_ixL (SqL.of ea4) (atI_nat (j := 1) rfl) ?_
      walk_at "go"
      refine i_append en4 ?_ (by rw [List.length_map, sizeLine_eq]; omega)
      have bb := hm4.setPts (ps := w.ps ++ [y])
      rw [List.map_append] at bb
      obtain ⟨b1, b2⟩ := bb
      have u4 : upd H4 nl (.lst (w.ps.map V.str ++ [.str y])) = upd H4 nl (.lst (w.ps.map V.str ++ [y].map V.str)) := rfl
      rw [u4]
      generalize upd H4 nl (.lst (w.ps.map V.str ++ [y].map V.str)) = H5 at b1 b2 ⊢
      walk_at "go"
      exact good2 (.pt y) H5 (stand_of hp ⟨g00, hin, hnm, by omega⟩) b1 (k4.trans b2 (.inl rfl))
    walk_at "go"
    refine i_ixL (SqL.of ea2) (atI_nat (j := 1) rfl) ?_
    walk_at "go"
    refine ⟨y, rfl, hyl, hyo, fun H3 s4 => ?_⟩
    have k3 : Keep H2 H3 m nl td := Keep.of s4
    have ea3 := s4 _ _ ea2
    have hm3 := hm2.same s4
    have em3 := hm3.self
    walk_at "go"
    refine i_ixL (SqL.of ea3) (atI_nat (j := 0) rfl) ?_
    walk_at "go"
    refine i_dec (fun c2 => ?_) (fun c2 => ?_)
    rotate_left
    · walk_at "go"
      exact bad2 H3 (stand_none (parse_other c1 c2 hk2)) k3
    subst c2
    walk_at "go"
    refine ⟨_, _, _, rfl, numV_or y, ?_⟩
    rw [pow60]
    rcases numV_cases y with en | ⟨g, en⟩
    · rw [en]
      show kB _ (.bl false) _
      walk_at "go"
      exact bad2 H3 (stand_none (parse_gv0 en)) k3
    rw [en]
    have hp := parse_gv en
    show kB _ (.bl (decide (w.g ≤ g) && decide (g ≤ most))) _
    apply i_kB
    apply i_b
    · intro ei
      walk_at "go"
      refine bad2 H3 (stand_no hp fun o => ?_) k3
      rw [decide_eq_true o.1, decide_eq_true o.2] at ei
      exact absurd ei (by decide)
    intro ei
    simp only [Bool.not_eq_false', Bool.and_eq_true, decide_eq_true_eq] at ei
    walk_at "go"
    refine i_kDPutS em3 (by show 4 < _; walk_at "sz") ?_
    rw [m4_pgiven]
    obtain ⟨b7, b8⟩ := hm3.set (g := g) (b := false)
    generalize upd H3 m (.dK (md4Ks nl td g false)) = H6 at b7 b8 ⊢
    have em6 := b7.self
    walk_at "go"
    refine i_kDPutS em6 (by show 4 < _; walk_at "sz") ?_
    have e9 : putK (md4Ks nl td ({ w with g := g } : Wb).g false) (Sum.inr "over") (.bl true) = md4Ks nl td g true := rfl
    rw [e9]
    obtain ⟨b9, b10⟩ := b7.set (g := g) (b := true)
    generalize upd H6 m (.dK (md4Ks nl td g true)) = H7 at b9 b10 ⊢
    walk_at "go"
    exact good2 (.gv g) H7 (stand_of hp ⟨ei.1, ei.2⟩) b9 ((k3.trans b8 (.inl rfl)).trans b10 (.inl rfl))
end
end K04

set_option Elab.async false
set_option linter.all false
set_option maxRecDepth 100000
set_option maxHeartbeats 2000000
namespace K04
open PySem PySem.Spec PyProof.Rows L2 HX WB
local macro_rules | `(tactic| walk_at "side") => `(tactic| first
  | assumption
  | rfl
  | (show (0 : Int) < _; omega)
  | (unfold CDiv; omega)
  | (unfold CMul; omega)
  | (unfold CPow; omega)
  | (rw [sizeLine_eq]; omega)
  | omega)
local macro_rules | `(tactic| walk_at "e") => `(tactic| first
  | ((with_reducible apply i_var); exact rfl)
  | (with_reducible apply i_c)
  | (with_reducible apply i_op)
  | (with_reducible apply i_un)
  | (with_reducible apply i_rI0)
  | ((with_reducible apply i_rI); (case c => walk_at "side"))
  | (with_reducible apply i_rGe)
  | (with_reducible apply i_rGt)
  | (with_reducible apply i_rU)
  | (with_reducible apply i_rEqI)
  | (with_reducible apply i_rNeI)
  | (with_reducible apply i_rEqS)
  | (with_reducible apply i_rNeS)
  | (with_reducible apply i_rEqB)
  | (with_reducible apply i_rNeB)
  | (with_reducible apply i_rIsN)
  | (with_reducible apply i_rNotN)
  | (with_reducible apply i_rInS)
  | (with_reducible apply i_rNotInS)
  | ((with_reducible apply i_catS); (case c => walk_at "side"))
  | (with_reducible apply i_tcb)
  | (with_reducible apply i_nil)
  | (with_reducible apply i_cons)
  | ((with_reducible apply i_lenS); (case c => walk_at "side"))
  | ((with_reducible apply i_lenL); assumption)
  | (with_reducible apply i_abs)
  | (with_reducible apply i_max2)
  | (with_reducible apply i_min2)
  | ((with_reducible apply i_strI); (case c => walk_at "side"))
  | (with_reducible apply i_intB)
  | (with_reducible apply i_test)
  | (with_reducible apply i_tB)
  | (with_reducible apply i_kB)
  | (with_reducible apply i_and)
  | (with_reducible apply i_or)
  | (with_reducible apply i_not)
  | (with_reducible apply i_if)
  | (with_reducible apply i_andV)
  | (with_reducible apply i_orV)
  | (with_reducible apply i_notV)
  | (with_reducible apply i_kAndV)
  | (with_reducible apply i_kOrV)
  | (with_reducible apply i_kNotV)
  | (with_reducible apply i_chain)
  | (with_reducible apply i_kChain)
  | (with_reducible apply i_drop)
  | (with_reducible apply i_ret)
  | (with_reducible apply i_retN)
  | (with_reducible apply i_ifS)
  | (with_reducible apply i_asg)
  | (with_reducible apply i_gName)
  | (with_reducible apply i_for)
  | (with_reducible apply i_lc)
  | (with_reducible apply i_iList)
  | (with_reducible apply i_iTup)
  | (with_reducible apply i_iStr)
  | (with_reducible apply i_kStrI)
  | (with_reducible apply i_lst)
  | (with_reducible apply i_tup)
  | (with_reducible apply i_call)
  | (with_reducible apply i_m1)
  | (with_reducible apply i_kStr)
  | (with_reducible apply i_bm)
  | (with_reducible apply i_bm0)
  | (with_reducible apply i_part)
  | (with_reducible apply i_kInt)
  | (with_reducible apply i_noPart)
  | (with_reducible apply i_sl)
  | (with_reducible apply i_range1)
  | (with_reducible apply i_range2)
  | ((with_reducible apply i_kRng1); (case c => walk_at "side"))
  | ((with_reducible apply i_kRng2); (case c => walk_at "side"))
  | (with_reducible apply i_gCons)
  | (with_reducible apply i_gNil)
  | (with_reducible apply i_gSub)
  | (with_reducible apply i_iZip)
  | (with_reducible apply i_yes)
  | (with_reducible apply i_ift)
  | (with_reducible apply i_iff)
  | (with_reducible apply i_nb))
local macro_rules | `(tactic| walk_at "go") => `(tactic| repeat (first | (with_reducible apply i_seq) | (with_reducible apply i_next) | walk_at "e"))
local macro_rules | `(tactic| walk_at "ge") => `(tactic| repeat walk_at "e")
local macro_rules | `(tactic| walk_at "sz") => `(tactic| first | decide | (rw [sizeLine_eq]; simp; done) | (rw [sizeLine_eq]; omega))
local macro_rules | `(tactic| walk_at "side") => `(tactic| (with_reducible exact WB.most_pos))
local macro_rules | `(tactic| walk_at "e") => `(tactic| first
  | ((with_reducible apply i_isT (b := true)); exact rfl)
  | ((with_reducible apply i_isT (b := false)); exact rfl)
  | (with_reducible apply i_fld)
  | ((with_reducible apply i_kFld); (case h => assumption); (case c1 => assumption); (case c2 => assumption); (case e => first | exact lk_number | exact lk_tail | exact lk_head | exact lk_load | exact lk_oneway | exact lk_points | exact lk_ties | exact lk_given))
  | (with_reducible apply i_sfld)
  | ((with_reducible apply i_kSFld); (case h => first | assumption | exact upd_same); (case c1 => assumption); (case c2 => assumption); (case e => exact Nat.le_of_ble_eq_true rfl))
  | (with_reducible apply i_methC)
  | (with_reducible apply i_make)
  | (with_reducible apply i_fldaug)
  | (with_reducible apply i_vals)
  | (with_reducible apply i_items)
  | (with_reducible apply i_dget)
  | (with_reducible apply i_dput)
  | (with_reducible apply i_din)
  | (with_reducible apply i_dnotin)
  | (with_reducible apply i_ddel)
  | (with_reducible apply i_dc)
  | (with_reducible apply i_enum)
  | (with_reducible apply i_ckw))
local macro_rules | `(tactic| walk_at "jz") => `(tactic| (rw [sizeLine_eq]; (try simp only [TX.len_app, len_e, len_b, len_p, len_g]); omega))
local macro_rules | `(tactic| walk_at "e") => `(tactic| first
  | (with_reducible apply i_tJoin)
  | (with_reducible apply i_tJsC)
  | (with_reducible apply i_tFmt)
  | ((with_reducible apply i_kJ); (case c => walk_at "jz"))
  | ((with_reducible apply i_kFS); (case c => walk_at "jz"))
  | (with_reducible apply i_tJsN))
section
variable {P : Program} {w : World} {K : PySem.W.Frag} {mg : Str → Option Value} {base : Heap}
def sp_web_lines (K : PySem.W.Frag) : Sp := fun vs H Q _ => ∃ p l d w, vs = [.ref p] ∧ WebAt K H p l d w ∧ Wok w ∧ w.g ≤ most ∧ ∀ a H', Same H H' → H a = none → H' a = some (.lst ((textsOf w).map V.str)) → Q (.ref a) H'
def ptsT (ps : List Str) : List Str := ps.map fun x => (Ln.pt x).text
def tsT (ts : Ts) : List Str := ts.map fun nt => (Ln.tie nt.1 nt.2).text
theorem textsOf_eq (w : Wb) : textsOf w = ptsT w.ps ++ tsT w.ts ++ [(Ln.gv w.g).text] := by
  unfold textsOf WB.linesOf ptsT tsT
  simp only [List.map_append, List.map_map, List.map_cons, List.map_nil, List.append_assoc]
  rfl
theorem ok_web_lines (T : Tx K mg) : FnOk P w K mg base CX0 5 (He.ga K "web_lines") T.fd_web_lines ["web"] (sp_web_lines K) := by
  refine T.F_web_lines.ok sc_web_lines (fun vs H Q E h => ?_) (fun cdv A outer s H vs Q E hr h => ?_)
  · obtain ⟨_, _, _, _, rfl, _⟩ := h
    rfl
  · obtain ⟨p, l, d, w, rfl, hw, ok, hg, q⟩ := h
    obtain ⟨dx, ep⟩ := hw.self
    refine ⟨_, PSs.nox (pss_cons (ps_setLc (i := 1) (own := [("name", 2)]) (by rfl) sc_web_lines.nd rfl rfl (sw_true rfl rfl rfl (by decide +kernel)) (pi_list (pe_meth0 (pv 0) T.cl_Web T.m_Web_points (ok_Web_points T) (hr.mono (by decide)) T.k_Web_points .nil pass0)) (blkOk_by (own := [("name", 2)]) (N := N_web_lines) (sc := defScope s_web_lines) (by decide +kernel)) (fun _ _ _ _ _ => (pg_name (i := 2) sc_web_lines.nd rfl (Or.inl rfl))) (fun _ _ _ _ _ => pts_nil) (fun _ _ _ _ _ => (pe_join (PJ.cons pe_str (PJ.cons (pe_fmt (pv 2)) PJ.nil)))))
      (pss_cons (ps_expr (pe_bm PySem.F.plainAttrs_list PySem.F.slot_list_extend PySem.F.type_list_extend mt_extend (pv 1) (pa_cons (pe_lc (own := [("tie", 3)]) (by rfl) sc_web_lines.nd (pi_list (pe_meth0 (pv 0) T.cl_Web T.m_Web_ties (ok_Web_ties T) (hr.mono (by decide)) T.k_Web_ties .nil pass0)) (blkOk_by (own := [("tie", 3)]) (N := N_web_lines) (sc := defScope s_web_lines) (by decide +kernel)) (fun _ _ _ _ _ => (pg_name (i := 3) sc_web_lines.nd rfl (Or.inl rfl))) (fun _ _ _ _ _ => pts_nil) (fun _ _ _ _ _ => (pe_call (ok_tie_line T) (hr.mono (by decide)) (by rfl) T.g_tie_line T.F_tie_line.kp T.k_tie_line .nil pass0 (pa_cons (pv 3) pa_nil)))) pa_nil)))
      (pss_cons (ps_expr (pe_bm PySem.F.plainAttrs_list PySem.F.slot_list_append PySem.F.type_list_append mt_append (pv 1) (pa_cons (pe_join (PJ.cons pe_str (PJ.cons (pe_fmt (pe_call (ok_number_text T) (hr.mono (by decide)) (by rfl) T.g_number_text T.F_number_text.kp T.k_number_text .nil pass0 (pa_cons (pe_meth0 (pv 0) T.cl_Web T.m_Web_given (ok_Web_given T) (hr.mono (by decide)) T.k_Web_given .nil pass0) pa_nil))) PJ.nil))) pa_nil)))
      (pss_one (ps_ret (pv 1)))))), ?_⟩
    have hl16 := ok.le
    have hl48 := ok.tl
    have hg0 := ok.g0
    have hm := most_lt
    walk_at "go"
    refine i_kMethC ep rfl ?_
    walk_at "go"
    refine ⟨p, l, d, w, rfl, hw, fun a ha => ?_⟩
    walk_at "go"
    refine i_kListI (SqL.of upd_same) ?_
    intro D hD
    have nDa : D ≠ a := fun e => by rw [e, upd_same] at hD; cases hD
    have hD0 : H D = none := by rwa [upd_ne nDa] at hD
    have s1 : Same H (upd H a (.lst (w.ps.map V.str))) := Same.new ha
    refine lc_it walk_list (fun m H' => Same (upd H a (.lst (w.ps.map V.str))) H' ∧ H' D = some (.lst ((ptsT (w.ps.take m)).map V.str)))
      ⟨Same.new hD, by rw [upd_same]; rfl⟩ (fun i H' _ h => SqL.of (h.1 _ _ upd_same)) ?_ ?_
    · rintro i v H2 H3 hi ⟨s2, eD⟩ ⟨rfl, hv⟩
      rw [List.length_map] at hi
      rw [List.getElem?_map, List.getElem?_eq_getElem hi] at hv
      cases hv
      have lx := nm_len (ok.nm _ (List.getElem_mem hi))
      walk_at "go"
      refine ⟨rfl, ?_⟩
      walk_at "go"
      refine ⟨_, eD, ?_, Same.mut s2 hD, ?_⟩
      · unfold ptsT
        rw [List.length_map, List.length_map, List.length_take, sizeLine_eq]; omega
      · rw [upd_same, List.take_add_one, List.getElem?_eq_getElem hi]
        unfold ptsT
        rw [List.map_append, List.map_append, pt_text]
        rfl
    · rintro H2 ⟨s2, eD⟩
      rw [List.length_map, List.take_length] at eD
      have hw2 := (hw.same s1).same s2
      obtain ⟨dx2, ep2⟩ := hw2.self
      walk_at "go"
      refine i_kTyL (SqL.of eD) ?_
      walk_at "go"
      refine i_kMethC ep2 rfl ?_
      walk_at "go"
      refine ⟨p, l, d, w, rfl, hw2, hl48, fun b as H4 s4 hb eb tl => ?_⟩
      walk_at "go"
      refine i_kListI (SqL.of eb) ?_
      intro G hG
      have nGb : G ≠ b := fun e => by rw [e, eb] at hG; cases hG
      have hlen := Two.len tl
      have eD4 := s4 _ _ eD
      refine lc_it walk_list (fun m H' => Same H4 H' ∧ H' G = some (.lst ((tsT (w.ts.take m)).map V.str)))
        ⟨Same.new hG, by rw [upd_same]; rfl⟩ (fun i H' _ h => SqL.of (h.1 _ _ eb)) ?_ ?_
      · rintro i v H5 H6 hi ⟨s5, eG⟩ ⟨rfl, hv⟩
        rw [List.length_map] at hi
        rw [List.getElem?_map, List.getElem?_eq_getElem hi] at hv
        cases hv
        obtain ⟨⟨n, t⟩, et, ta⟩ := Two.get tl (List.getElem?_eq_getElem hi)
        have o := ok.ok n t (List.mem_of_getElem? et)
        have o1 := o.lo
        have o2 := o.hi
        have o3 := o.c0
        have o4 := o.c1
        have ta5 := ta.same s5
        walk_at "go"
        refine ⟨rfl, ?_⟩
        walk_at "go"
        refine ⟨_, n, t, rfl, ta5, by omega, by omega, o3, by omega, nm_len (ok.nm _ o.t), nm_len (ok.nm _ o.h), ?_⟩
        refine ⟨_, eG, ?_, Same.mut s5 hG, ?_⟩
        · unfold tsT
          rw [List.length_map, List.length_map, List.length_take, sizeLine_eq]; omega
        · rw [upd_same, List.take_add_one, et]
          unfold tsT
          rw [List.map_append, List.map_append]
          rfl
      · rintro H5 ⟨s5, eG⟩
        have hm2 : (List.map V.ref as).length = w.ts.length := by rw [List.length_map, hlen]
        rw [hm2, List.take_length] at eG
        have eD5 := s5 _ _ eD4
        have hp1 : (ptsT w.ps).length = w.ps.length := List.length_map _
        have hp2 : (tsT w.ts).length = w.ts.length := List.length_map _
        walk_at "go"
        refine ⟨D, G, _, _, rfl, rfl, eD5, eG, (by rw [List.length_map, List.length_map, hp1, hp2, sizeLine_eq]; omega), ?_⟩
        rw [← List.map_append]
        have hw5 := (hw2.same s4).same s5
        have nDd : ∀ o, WebAt K (upd H5 D o) p l d w := fun o => by
          have n1 : p ≠ D := fun e => by subst e; rw [ep] at hD0; cases hD0
          have n2 : l ≠ D := fun e => by subst e; rw [hw.pts] at hD0; cases hD0
          have n3 : d ≠ D := fun e => by subst e; obtain ⟨_, e2, _⟩ := hw.ties; rw [e2] at hD0; cases hD0
          obtain ⟨dx5, e5⟩ := hw5.self
          obtain ⟨kvs, ed, hd⟩ := hw5.ties
          exact ⟨⟨dx5, (upd_ne n1).trans e5⟩, (upd_ne n2).trans hw5.pts, ⟨kvs, (upd_ne n3).trans ed, hd.mono fun _ _ _ r => r.other (r.ne eD5 (fun _ _ _ _ => by simp))⟩⟩
        have hw6 := nDd (.lst ((ptsT w.ps ++ tsT w.ts).map V.str))
        obtain ⟨dx6, ep6⟩ := hw6.self
        have s6 : Same H (upd H5 D (.lst ((ptsT w.ps ++ tsT w.ts).map V.str))) := Same.mut (((s1.trans s2).trans s4).trans s5) hD0
        have eD6 : (upd H5 D (.lst ((ptsT w.ps ++ tsT w.ts).map V.str))) D = some (.lst ((ptsT w.ps ++ tsT w.ts).map V.str)) := upd_same
        generalize upd H5 D (.lst ((ptsT w.ps ++ tsT w.ts).map V.str)) = H6 at hw6 ep6 s6 eD6 ⊢
        walk_at "go"
        refine i_kTyL (SqL.of eD6) ?_
        have z1 := nS_len hg0 (by omega)
        walk_at "go"
        refine i_kMethC ep6 rfl ?_
        walk_at "go"
        refine ⟨p, l, d, w, rfl, hw6, ?_⟩
        walk_at "go"
        refine ⟨w.g, rfl, hg0, by omega, ?_⟩
        walk_at "go"
        refine i_append eD6 ?_ (by rw [List.length_map, List.length_append, hp1, hp2, sizeLine_eq]; omega)
        walk_at "go"
        refine q D _ (Same.mut s6 hD0) hD0 ?_
        rw [upd_same, gv_text, textsOf_eq]
        simp only [List.map_append, List.map_cons, List.map_nil]
end
end K04

set_option Elab.async false
set_option linter.all false
set_option maxRecDepth 100000
set_option maxHeartbeats 4000000
namespace K04
open PySem PySem.Spec PyProof.Rows L2 HX WB
local macro_rules | `(tactic| walk_at "side") => `(tactic| first
  | assumption
  | rfl
  | (show (0 : Int) < _; omega)
  | (unfold CDiv; omega)
  | (unfold CMul; omega)
  | (unfold CPow; omega)
  | (rw [sizeLine_eq]; omega)
  | omega)
local macro_rules | `(tactic| walk_at "e") => `(tactic| first
  | ((with_reducible apply i_var); exact rfl)
  | (with_reducible apply i_c)
  | (with_reducible apply i_op)
  | (with_reducible apply i_un)
  | (with_reducible apply i_rI0)
  | ((with_reducible apply i_rI); (case c => walk_at "side"))
  | (with_reducible apply i_rGe)
  | (with_reducible apply i_rGt)
  | (with_reducible apply i_rU)
  | (with_reducible apply i_rEqI)
  | (with_reducible apply i_rNeI)
  | (with_reducible apply i_rEqS)
  | (with_reducible apply i_rNeS)
  | (with_reducible apply i_rEqB)
  | (with_reducible apply i_rNeB)
  | (with_reducible apply i_rIsN)
  | (with_reducible apply i_rNotN)
  | (with_reducible apply i_rInS)
  | (with_reducible apply i_rNotInS)
  | ((with_reducible apply i_catS); (case c => walk_at "side"))
  | (with_reducible apply i_tcb)
  | (with_reducible apply i_nil)
  | (with_reducible apply i_cons)
  | ((with_reducible apply i_lenS); (case c => walk_at "side"))
  | ((with_reducible apply i_lenL); assumption)
  | (with_reducible apply i_abs)
  | (with_reducible apply i_max2)
  | (with_reducible apply i_min2)
  | ((with_reducible apply i_strI); (case c => walk_at "side"))
  | (with_reducible apply i_intB)
  | (with_reducible apply i_test)
  | (with_reducible apply i_tB)
  | (with_reducible apply i_kB)
  | (with_reducible apply i_and)
  | (with_reducible apply i_or)
  | (with_reducible apply i_not)
  | (with_reducible apply i_if)
  | (with_reducible apply i_andV)
  | (with_reducible apply i_orV)
  | (with_reducible apply i_notV)
  | (with_reducible apply i_kAndV)
  | (with_reducible apply i_kOrV)
  | (with_reducible apply i_kNotV)
  | (with_reducible apply i_chain)
  | (with_reducible apply i_kChain)
  | (with_reducible apply i_drop)
  | (with_reducible apply i_ret)
  | (with_reducible apply i_retN)
  | (with_reducible apply i_ifS)
  | (with_reducible apply i_asg)
  | (with_reducible apply i_gName)
  | (with_reducible apply i_for)
  | (with_reducible apply i_lc)
  | (with_reducible apply i_iList)
  | (with_reducible apply i_iTup)
  | (with_reducible apply i_iStr)
  | (with_reducible apply i_kStrI)
  | (with_reducible apply i_lst)
  | (with_reducible apply i_tup)
  | (with_reducible apply i_call)
  | (with_reducible apply i_m1)
  | (with_reducible apply i_kStr)
  | (with_reducible apply i_bm)
  | (with_reducible apply i_bm0)
  | (with_reducible apply i_part)
  | (with_reducible apply i_kInt)
  | (with_reducible apply i_noPart)
  | (with_reducible apply i_sl)
  | (with_reducible apply i_range1)
  | (with_reducible apply i_range2)
  | ((with_reducible apply i_kRng1); (case c => walk_at "side"))
  | ((with_reducible apply i_kRng2); (case c => walk_at "side"))
  | (with_reducible apply i_gCons)
  | (with_reducible apply i_gNil)
  | (with_reducible apply i_gSub)
  | (with_reducible apply i_iZip)
  | (with_reducible apply i_yes)
  | (with_reducible apply i_ift)
  | (with_reducible apply i_iff)
  | (with_reducible apply i_nb))
local macro_rules | `(tactic| walk_at "go") => `(tactic| repeat (first | (with_reducible apply i_seq) | (with_reducible apply i_next) | walk_at "e"))
local macro_rules | `(tactic| walk_at "ge") => `(tactic| repeat walk_at "e")
local macro_rules | `(tactic| walk_at "sz") => `(tactic| first | decide | (rw [sizeLine_eq]; simp; done) | (rw [sizeLine_eq]; omega))
local macro_rules | `(tactic| walk_at "side") => `(tactic| (with_reducible exact WB.most_pos))
local macro_rules | `(tactic| walk_at "e") => `(tactic| first
  | ((with_reducible apply i_isT (b := true)); exact rfl)
  | ((with_reducible apply i_isT (b := false)); exact rfl)
  | (with_reducible apply i_fld)
  | ((with_reducible apply i_kFld); (case h => assumption); (case c1 => assumption); (case c2 => assumption); (case e => first | exact lk_number | exact lk_tail | exact lk_head | exact lk_load | exact lk_oneway | exact lk_points | exact lk_ties | exact lk_given))
  | (with_reducible apply i_sfld)
  | ((with_reducible apply i_kSFld); (case h => first | assumption | exact upd_same); (case c1 => assumption); (case c2 => assumption); (case e => exact Nat.le_of_ble_eq_true rfl))
  | (with_reducible apply i_methC)
  | (with_reducible apply i_make)
  | (with_reducible apply i_fldaug)
  | (with_reducible apply i_vals)
  | (with_reducible apply i_items)
  | (with_reducible apply i_dget)
  | (with_reducible apply i_dput)
  | (with_reducible apply i_din)
  | (with_reducible apply i_dnotin)
  | (with_reducible apply i_ddel)
  | (with_reducible apply i_dc)
  | (with_reducible apply i_enum)
  | (with_reducible apply i_ckw))
local macro_rules | `(tactic| walk_at "jz") => `(tactic| (rw [sizeLine_eq]; (try simp only [TX.len_app, len_e, len_b, len_p, len_g]); omega))
local macro_rules | `(tactic| walk_at "e") => `(tactic| first
  | (with_reducible apply i_tJoin)
  | (with_reducible apply i_tJsC)
  | (with_reducible apply i_tFmt)
  | ((with_reducible apply i_kJ); (case c => walk_at "jz"))
  | ((with_reducible apply i_kFS); (case c => walk_at "jz"))
  | (with_reducible apply i_tJsN))
local macro_rules | `(tactic| walk_at "e") => `(tactic| first
  | ((with_reducible apply i_kDGetS); (case h => assumption); (case e => first | exact md_names | exact md_ties | exact md_given)))
local macro_rules | `(tactic| walk_at "e") => `(tactic| first
  | ((with_reducible apply i_kDGetS); (case h => assumption); (case e => assumption)))
local macro_rules | `(tactic| walk_at "e") => `(tactic| first
  | ((with_reducible apply i_kDGetS); (case h => assumption); (case e => first | exact m4_names | exact m4_ties | exact m4_given | exact m4_over)))
theorem cut_sub {ws : List Str} (lo hi : Option Int) : ∃ us : List Str, cutV (ws.map V.str) lo hi = us.map V.str ∧ (∀ u ∈ us, u ∈ ws) ∧ us.length ≤ ws.length := by
  unfold cutV
  refine ⟨(ws.drop (HT.sIx (ws.map V.str).length 0 lo)).take (HT.sIx (ws.map V.str).length (ws.map V.str).length hi - HT.sIx (ws.map V.str).length 0 lo), ?_, fun u hu => List.mem_of_mem_drop (List.mem_of_mem_take hu), ?_⟩
  · rw [List.map_take, List.map_drop]
  · exact Nat.le_trans (List.length_take_le' ..) (by rw [List.length_drop]; omega)
theorem okS_rep {n : Nat} : okS (repS "0" n) = true := TX.okS_iff.mpr fun c hc => by
  have hc : c ∈ (repS "0" n).cps.toList := hc
  rw [repS_tl] at hc
  obtain ⟨l, hl, hc⟩ := List.mem_flatten.mp hc
  rw [(List.mem_replicate.mp hl).2] at hc
  have : c ∈ [48] := hc
  rw [List.mem_singleton.mp this]
  decide
theorem wd_ok {z : Str} (h : isWd z) : okS z = true := TX.okS_iff.mpr fun c hc => (h.2.1 c hc).2
theorem nS_ok {n : Int} (h : 0 ≤ n) : okS (nS n) = true := TX.okS_iff.mpr fun c hc => by have := nS_digits h c hc; omega
section
variable {P : Program} {w : World} {K : PySem.W.Frag} {mg : Str → Option Value} {base : Heap}
def sp_lread (K : PySem.W.Frag) : Sp := fun vs H Q _ => ∃ a xs, vs = [.ref a] ∧ H a = some (.lst xs) ∧ (∀ x ∈ xs, LineAt K H x) ∧ xs.length ≤ 100 ∧
  (∀ (i : Nat) H', readV wb0 false 0 xs = .inl i → Same H H' → Q (.int (i : Int)) H') ∧ (∀ w m nl td H', readV wb0 false 0 xs = .inr w → Same H H' → Mod4 H' m nl td w true → Wok w → Q (.ref m) H')
theorem ok_law_read (T : Tx K mg) : FnOk P w K mg base CX0 4 (He.ga K "_law_read") T.fd_law_read ["_law_lines_here"] (sp_lread K) := by
  refine T.F_law_read.ok sc_law_read (fun vs H Q E h => ?_) (fun cdv A outer s H vs Q E hr h => ?_)
  · obtain ⟨_, _, rfl, _⟩ := h
    rfl
  · obtain ⟨a, xs, rfl, ha, hx, hlen, q1, q2⟩ := h
    have hu := hu_of hr
    refine ⟨_, PSs.nox (pss_cons (ps_set (i := 1) sc_law_read.nd rfl (Or.inl rfl) (pe_call0 (ok_law_none T) (hr.mono (by decide)) (by rfl) T.g_law_none T.F_law_none.kp T.k_law_none .nil pass0))
      (pss_cons (ps_dput hu (pv 1) pe_str pe_bl rfl)
      (pss_cons (ps_for PassesOwn.never rfl (pi_enum (by rfl) T.b_enumerate (pa_cons (pv 0) pa_nil)) (pg_tup rfl (pgs_cons (pg_name (i := 2) sc_law_read.nd rfl (Or.inl rfl)) (pgs_cons (pg_name (i := 3) sc_law_read.nd rfl (Or.inl rfl)) pgs_nil)))
      (pss_one (ps_if (pt_not (pt_val (pe_call (ok_law_line_read T) (hr.mono (by decide)) (by rfl) T.g_law_line_read T.F_law_line_read.kp T.k_law_line_read .nil pass0 (pa_cons (pv 1) (pa_cons (pv 3) pa_nil))))) (pss_one (ps_ret (pv 2))) pss_nil)))
      (pss_one (ps_ret (pe_ifExp (pt_val (pe_dget hu (pv 1) pe_str (fun _ _ => rfl))) (pv 1) (pe_callB x_lenL (by rfl) T.b_len (by decide +kernel) (pa_cons (pv 0) pa_nil)))))))), ?_⟩
    walk_at "go"
    refine ⟨rfl, fun m nl td H1 s1 hm hnl htd mod => ?_⟩
    have em := mod.self
    walk_at "go"
    refine i_kDPutS em (by show 3 < _; walk_at "sz") ?_
    rw [show putK (modKs nl td (⟨[], [], 0⟩ : Wb).g) (Sum.inr "over") (.bl false) = md4Ks nl td 0 false from rfl]
    have m0 : Mod4 (upd H1 m (.dK (md4Ks nl td 0 false))) m nl td wb0 false := by
      obtain ⟨kvs, e3, c⟩ := mod.ties
      exact ⟨upd_same, (upd_ne mod.ne_mn.symm).trans mod.pts, ⟨kvs, (upd_ne mod.ne_mt.symm).trans e3, c.mono fun _ _ _ r => r.other (r.ne mod.self (fun _ => by simp))⟩⟩
    have s2 : Same H (upd H1 m (.dK (md4Ks nl td 0 false))) := Same.mut s1 hm
    generalize upd H1 m (.dK (md4Ks nl td 0 false)) = H2 at m0 s2 ⊢
    have ha2 := s2 _ _ ha
    have back : ∀ {H' : Hp}, Keep H2 H' m nl td → Same H H' := fun k' b o e => k' b o (ne_of_none e hm) (ne_of_none e hnl) (ne_of_none e htd) (s2 b o e)
    obtain ⟨na1, na2, na3⟩ : a ≠ m ∧ a ≠ nl ∧ a ≠ td := ⟨ne_of_none ha hm, ne_of_none ha hnl, ne_of_none ha htd⟩
    walk_at "go"
    refine i_kEnum (SqL.of ha2) ?_
    refine for_it walk_enum (fun i σ H' => ∃ w' b, Mod4 H' m nl td w' b ∧ Wok w' ∧ (b = false → G0 w') ∧ Keep H2 H' m nl td ∧ readV w' b i (xs.drop i) = readV wb0 false 0 xs ∧ ∃ v3 v4, σ = [some (.ref a), some (.ref m), v3, v4])
      ⟨wb0, false, m0, wok0, fun _ _ => rfl, Keep.rfl, by rw [List.drop_zero], none, none, rfl⟩ (fun i σ H' _ h => by
        obtain ⟨_, _, _, _, _, k, _⟩ := h
        exact SqL.of (k _ _ na1 na2 na3 ha2)) ?_ ?_
    · rintro i v σ H3 H4 hi ⟨w', b, hm', ok', g0, k', rd, v3, v4, rfl⟩ ⟨T0, u1, u2, rfl, hT, rfl, hu1, hu2⟩
      have hu1 : some (V.int ((i : Nat) : Int)) = some u1 := hu1
      have hu2 : xs[i]? = some u2 := hu2
      rw [List.getElem?_eq_getElem hi] at hu2
      cases hu1; cases hu2
      rw [List.drop_eq_getElem_cons hi] at rd
      have hxi := (hx _ (List.getElem_mem hi)).same (back k')
      generalize xs[i] = u at rd hxi ⊢
      have sT : Same H3 (upd H3 T0 (.tup [.int (i : Nat), u])) := Same.new hT
      walk_at "go"
      refine i_gTup (SqT.of upd_same) rfl ?_
      generalize upd H3 T0 (.tup [.int (i : Nat), u]) = H4 at sT ⊢
      have k4 : Keep H2 H4 m nl td := k'.trans (Keep.of sT) (.inl rfl)
      walk_at "go"
      refine ⟨m, nl, td, w', b, u, rfl, hm'.same sT, ok', g0, hxi.same sT, fun w2 b2 H5 e0 stp m5 k5 => ?_, fun H5 stp k5 => ?_⟩
      · subst e0
        walk_at "go"
        refine ⟨w2, b2, m5, step_ok ok' stp, fun hb => ?_, k4.trans k5 (.inl rfl), (read_next stp).symm.trans rd, _, _, rfl⟩
        unfold stepV at stp
        split at stp
        · cases stp
        · rename_i ws _
          cases q : stand w' ws with
          | none => rw [q] at stp; cases stp
          | some l =>
            rw [q] at stp
            cases stp
            exact Ln.g0 (g0 rfl) hb
      · walk_at "go"
        refine q1 i H5 (rd.symm.trans ?_) (back (k4.trans k5 (.inl rfl)))
        cases b with
        | true => exact read_over
        | false => exact read_bad (stp.resolve_left (by simp))
    · rintro σ H3 ⟨w', b, hm', ok', g0, k', rd, v3, v4, rfl⟩
      rw [List.drop_length] at rd
      have em3 := hm'.self
      have ha3 := k' _ _ na1 na2 na3 ha2
      walk_at "go"
      cases b with
      | true =>
        walk_at "go"
        exact q2 w' m nl td H3 (rd.symm.trans read_end) (back k') hm' ok'
      | false =>
        walk_at "go"
        refine i_lenL (SqL.of ha3) ?_
        exact q1 _ H3 (rd.symm.trans read_short) (back k')
def sp_llines : Sp := fun vs H Q _ => ∃ m nl td w, vs = [.ref m] ∧ ModAt H m nl td w ∧ Wok w ∧ w.g ≤ most ∧ ∀ a H', Same H H' → H a = none → H' a = some (.lst ((textsOf w).map V.str)) → Q (.ref a) H'
theorem ptL_text (x : Str) : "point " ++ x = (Ln.pt x).text := by
  have e : (Str.empty ++ "point " : Str) = "point " := TL.ext_tl (by rw [TL.tl_append]; rfl)
  rw [← pt_text, e]
theorem gvL_text (g : Int) : "given " ++ nS g = (Ln.gv g).text := by
  have e : (Str.empty ++ "given " : Str) = "given " := TL.ext_tl (by rw [TL.tl_append]; rfl)
  rw [← gv_text, e]
theorem len_b1 : (" " : Str).length = 1 := by decide +kernel
theorem ok_law_lines (T : Tx K mg) : FnOk P w K mg base CX0 2 (He.ga K "_law_lines") T.fd_law_lines ["_law_model"] sp_llines := by
  refine T.F_law_lines.ok sc_law_lines (fun vs H Q E h => ?_) (fun cdv A outer s H vs Q E hr h => ?_)
  · obtain ⟨_, _, _, _, rfl, _⟩ := h
    rfl
  · obtain ⟨m, nl, td, w, rfl, hm, ok, hg, q⟩ := h
    have hu := hu_of hr
    refine ⟨_, PSs.nox (pss_cons (ps_setLc (i := 1) (own := [("_law_name", 7)]) (by rfl) sc_law_lines.nd rfl rfl (sw_true rfl rfl rfl (by decide +kernel)) (pi_list (pe_dget hu (pv 0) pe_str (fun _ _ => rfl))) (blkOk_by (own := [("_law_name", 7)]) (N := N_law_lines) (sc := defScope s_law_lines) (by decide +kernel)) (fun _ _ _ _ _ => (pg_name (i := 7) sc_law_lines.nd rfl (Or.inl rfl))) (fun _ _ _ _ _ => pts_nil) (fun _ _ _ _ _ => (pe_op x_catS pe_str (pv 7))))
      (pss_cons (ps_for PassesOwn.never rfl (pi_list (pe_call (ok_law_rows T) (hr.mono (by decide)) (by rfl) T.g_law_rows T.F_law_rows.kp T.k_law_rows .nil pass0 (pa_cons (pv 0) pa_nil))) (pg_tup rfl (pgs_cons (pg_name (i := 2) sc_law_lines.nd rfl (Or.inl rfl)) (pgs_cons (pg_name (i := 3) sc_law_lines.nd rfl (Or.inl rfl)) (pgs_cons (pg_name (i := 4) sc_law_lines.nd rfl (Or.inl rfl)) (pgs_cons (pg_name (i := 5) sc_law_lines.nd rfl (Or.inl rfl)) (pgs_cons (pg_name (i := 6) sc_law_lines.nd rfl (Or.inl rfl)) pgs_nil))))))
      (pss_one (ps_expr (pe_bm PySem.F.plainAttrs_list PySem.F.slot_list_append PySem.F.type_list_append mt_append (pv 1) (pa_cons (x_join pe_str (pe_lst (pa_cons (pe_ifExp (pt_val (pv 6)) pe_str pe_str) (pa_cons (pe_callTy x_strI (by rfl) T.b_str (by decide +kernel) (pa_cons (pv 2) pa_nil)) (pa_cons (pv 3) (pa_cons (pv 4) (pa_cons (pe_callTy x_strI (by rfl) T.b_str (by decide +kernel) (pa_cons (pv 5) pa_nil)) pa_nil))))))) pa_nil)))))
      (pss_one (ps_ret (pe_op op_cat (pv 1) (pe_lst (pa_cons (pe_op x_catS pe_str (pe_callTy x_strI (by rfl) T.b_str (by decide +kernel) (pa_cons (pe_dget hu (pv 0) pe_str (fun _ _ => rfl)) pa_nil))) pa_nil))))))), ?_⟩
    have em := hm.self
    have en := hm.pts
    have l16 := ok.le
    have l48 := ok.tl
    have hg0 := ok.g0
    have mlt := most_lt
    walk_at "go"
    refine i_kListI (SqL.of en) ?_
    intro D hD
    refine lc_it walk_list (fun i H' => Same H H' ∧ H' D = some (.lst ((ptsT (w.ps.take i)).map V.str)))
      ⟨Same.new hD, by rw [upd_same]; rfl⟩ (fun i H' _ h => SqL.of (h.1 _ _ en)) ?_ ?_
    · rintro i v H2 H3 hi ⟨s2, eD⟩ ⟨rfl, hv⟩
      rw [List.length_map] at hi
      rw [List.getElem?_map, List.getElem?_eq_getElem hi] at hv
      cases hv
      have lx := nm_len (ok.nm _ (List.getElem_mem hi))
      have lp : ("point " : Str).length = 6 := by decide +kernel
      walk_at "go"
      refine ⟨rfl, ?_⟩
      walk_at "go"
      refine ⟨_, eD, ?_, Same.mut s2 hD, ?_⟩
      · unfold ptsT
        rw [List.length_map, List.length_map, List.length_take, sizeLine_eq]; omega
      · rw [upd_same, List.take_add_one, List.getElem?_eq_getElem hi]
        unfold ptsT
        rw [List.map_append, List.map_append, ptL_text]
        rfl
    · rintro H2 ⟨s2, eD⟩
      rw [List.length_map, List.take_length] at eD
      have hm2 := hm.same s2
      walk_at "go"
      refine ⟨m, nl, td, w, rfl, hm2.view, ok.rise, l48, fun ra rs H3 s3 hra era hrr => ?_⟩
      have eD3 := s3 _ _ eD
      have nDr : D ≠ ra := ne_of_none eD hra
      have hlen := Two.len hrr
      walk_at "go"
      refine i_kListI (SqL.of era) ?_
      have hp1 : (ptsT w.ps).length = w.ps.length := List.length_map _
      refine for_it walk_list (fun i σ H' => (∀ b o, b ≠ D → H3 b = some o → H' b = some o) ∧ H' D = some (.lst ((ptsT w.ps ++ tsT (w.ts.take i)).map V.str)) ∧ ∃ v2 v3 v4 v5 v6 v7, σ = [some (.ref m), some (.ref D), v2, v3, v4, v5, v6, v7])
        ⟨fun _ _ _ e => e, by rw [eD3]; simp [tsT], none, none, none, none, none, none, rfl⟩ (fun i σ H' _ h => SqL.of (h.1 _ _ nDr.symm era)) ?_ ?_
      · rintro i v σ H4x H5 hi ⟨k4, e4, v2, v3, v4, v5, v6, v7, rfl⟩ ⟨rfl, hv⟩
        rw [List.length_map] at hi
        rw [List.getElem?_map, List.getElem?_eq_getElem hi] at hv
        cases hv
        obtain ⟨⟨n, t⟩, et, ta⟩ := Two.get hrr (List.getElem?_eq_getElem hi)
        have ta4 : H5 rs[i] = some (.tup [.int n, .str t.t, .str t.h, .int t.c, .bl t.o]) := k4 _ _ (fun e => by
          have ta' : H3 rs[i] = _ := ta
          rw [e, eD3] at ta'
          cases ta') ta
        have o := ok.ok n t (List.mem_of_getElem? et)
        have o1 := o.lo
        have o2 := o.hi
        have o3 := o.c0
        have o4 := o.c1
        have z1 := nS_len (n := n) (by omega) (by omega)
        have z2 := nS_len (n := t.c) (by omega) (by omega)
        have g1 := nS_log (n := n) (by omega) (by omega)
        have g2 := nS_log (n := t.c) (by omega) (by omega)
        have b1 := nm_len (ok.nm _ o.t)
        have b2 := nm_len (ok.nm _ o.h)
        have b3 := kind_len t.o
        have b4 := len_b1
        have lts : (tsT (w.ts.take i)).length ≤ 48 := by unfold tsT; rw [List.length_map, List.length_take]; omega
        walk_at "go"
        refine i_gTup (SqT.of ta4) rfl ?_
        walk_at "go"
        refine i_kTyL (SqL.of e4) ?_
        walk_at "go"
        have hsum : (((Ln.tie n t).words).map (·.length)).sum + (Ln.tie n t).words.length * (" " : Str).length ≤ 16777216 := by
          show (([(kindS t.o).length, (nS n).length, t.t.length, t.h.length, (nS t.c).length] : List Nat)).sum + 5 * (" " : Str).length ≤ 16777216
          simp only [List.sum_cons, List.sum_nil]
          omega
        refine i_b (fun e => ?_) (fun e => ?_)
        · walk_at "go"
          refine ⟨by walk_at "sz", fun p6 hp6 => ?_⟩
          refine i_join (ys := (Ln.tie n t).words) (SqL.of (by rw [upd_same]; show _ = some (HO.lst [V.str (kindS t.o), .str (nS n), .str t.t, .str t.h, .str (nS t.c)]); rw [e]; rfl)) hsum ?_
          walk_at "go"
          refine i_append ((upd_ne (ne_of_none e4 hp6)).trans e4) ?_ (by rw [List.length_map, List.length_append, hp1, sizeLine_eq]; omega)
          refine ⟨fun b o hb e => (upd_ne hb).trans ((Same.new hp6) _ _ (k4 b o hb e)), ?_, _, _, _, _, _, _, rfl⟩
          rw [upd_same, List.take_add_one, et]
          unfold tsT
          simp only [List.map_append, List.append_assoc]
          rfl
        · walk_at "go"
          refine ⟨by walk_at "sz", fun p6 hp6 => ?_⟩
          refine i_join (ys := (Ln.tie n t).words) (SqL.of (by rw [upd_same]; show _ = some (HO.lst [V.str (kindS t.o), .str (nS n), .str t.t, .str t.h, .str (nS t.c)]); rw [e]; rfl)) hsum ?_
          walk_at "go"
          refine i_append ((upd_ne (ne_of_none e4 hp6)).trans e4) ?_ (by rw [List.length_map, List.length_append, hp1, sizeLine_eq]; omega)
          refine ⟨fun b o hb e => (upd_ne hb).trans ((Same.new hp6) _ _ (k4 b o hb e)), ?_, _, _, _, _, _, _, rfl⟩
          rw [upd_same, List.take_add_one, et]
          unfold tsT
          simp only [List.map_append, List.append_assoc]
          rfl
      · rintro σ H4 ⟨k4, e4, v2, v3, v4, v5, v6, v7, rfl⟩
        have lts : (tsT (w.ts.take (rs.map V.ref).length)) = tsT w.ts := by rw [List.length_map, hlen, List.take_length]
        rw [lts] at e4
        have em4 := k4 _ _ (ne_of_none em hD) (s3 _ _ hm2.self)
        have g3 := nS_log (n := w.g) hg0 (by omega)
        have z3 := nS_len (n := w.g) hg0 (by omega)
        have lg : ("given " : Str).length = 6 := by decide +kernel
        have hp2 : (tsT w.ts).length = w.ts.length := List.length_map _
        have eg : ("given " : Str) ++ (Str.ofString (toString w.g)) = (Ln.gv w.g).text := gvL_text w.g
        have z4 : (Str.ofString (toString w.g)).length ≤ 61 := z3
        walk_at "go"
        rw [eg]
        refine ⟨by walk_at "sz", fun p6 hp6 => ?_⟩
        have n6 : D ≠ p6 := ne_of_none e4 hp6
        refine i_cat ((upd_ne n6).trans e4) upd_same (by rw [List.length_map, List.length_append, hp1, hp2, sizeLine_eq]; show _ + 1 ≤ _; omega) fun p7 hp7 => ?_
        have hp70 : H p7 = none := by
          cases c : H p7 with
          | none => rfl
          | some o =>
            have n7 : p7 ≠ D := ne_of_none c hD
            have c4 := k4 _ _ n7 (s3 _ _ (s2 _ _ c))
            rw [upd_ne (ne_of_none c4 hp6)] at hp7
            rw [c4] at hp7
            cases hp7
        refine q p7 _ (fun b o e => ?_) hp70 ?_
        · have nb : b ≠ D := ne_of_none e hD
          have e4' := k4 _ _ nb (s3 _ _ (s2 _ _ e))
          have e6 := (upd_ne (ne_of_none e4' hp6) (o := .lst [.str (Ln.gv w.g).text])).trans e4'
          exact (upd_ne (ne_of_none e6 hp7)).trans e6
        · rw [upd_same, textsOf_eq]
          simp only [List.map_append, List.map_cons, List.map_nil]
end
end K04

set_option Elab.async false
set_option linter.all false
set_option maxRecDepth 100000
set_option maxHeartbeats 4000000
namespace K04
open PySem PySem.Spec PyProof.Rows L2 HX WB
local macro_rules | `(tactic| walk_at "side") => `(tactic| first
  | assumption
  | rfl
  | (show (0 : Int) < _; omega)
  | (unfold CDiv; omega)
  | (unfold CMul; omega)
  | (unfold CPow; omega)
  | (rw [sizeLine_eq]; omega)
  | omega)
local macro_rules | `(tactic| walk_at "e") => `(tactic| first
  | ((with_reducible apply i_var); exact rfl)
  | (with_reducible apply i_c)
  | (with_reducible apply i_op)
  | (with_reducible apply i_un)
  | (with_reducible apply i_rI0)
  | ((with_reducible apply i_rI); (case c => walk_at "side"))
  | (with_reducible apply i_rGe)
  | (with_reducible apply i_rGt)
  | (with_reducible apply i_rU)
  | (with_reducible apply i_rEqI)
  | (with_reducible apply i_rNeI)
  | (with_reducible apply i_rEqS)
  | (with_reducible apply i_rNeS)
  | (with_reducible apply i_rEqB)
  | (with_reducible apply i_rNeB)
  | (with_reducible apply i_rIsN)
  | (with_reducible apply i_rNotN)
  | (with_reducible apply i_rInS)
  | (with_reducible apply i_rNotInS)
  | ((with_reducible apply i_catS); (case c => walk_at "side"))
  | (with_reducible apply i_tcb)
  | (with_reducible apply i_nil)
  | (with_reducible apply i_cons)
  | ((with_reducible apply i_lenS); (case c => walk_at "side"))
  | ((with_reducible apply i_lenL); assumption)
  | (with_reducible apply i_abs)
  | (with_reducible apply i_max2)
  | (with_reducible apply i_min2)
  | ((with_reducible apply i_strI); (case c => walk_at "side"))
  | (with_reducible apply i_intB)
  | (with_reducible apply i_test)
  | (with_reducible apply i_tB)
  | (with_reducible apply i_kB)
  | (with_reducible apply i_and)
  | (with_reducible apply i_or)
  | (with_reducible apply i_not)
  | (with_reducible apply i_if)
  | (with_reducible apply i_andV)
  | (with_reducible apply i_orV)
  | (with_reducible apply i_notV)
  | (with_reducible apply i_kAndV)
  | (with_reducible apply i_kOrV)
  | (with_reducible apply i_kNotV)
  | (with_reducible apply i_chain)
  | (with_reducible apply i_kChain)
  | (with_reducible apply i_drop)
  | (with_reducible apply i_ret)
  | (with_reducible apply i_retN)
  | (with_reducible apply i_ifS)
  | (with_reducible apply i_asg)
  | (with_reducible apply i_gName)
  | (with_reducible apply i_for)
  | (with_reducible apply i_lc)
  | (with_reducible apply i_iList)
  | (with_reducible apply i_iTup)
  | (with_reducible apply i_iStr)
  | (with_reducible apply i_kStrI)
  | (with_reducible apply i_lst)
  | (with_reducible apply i_tup)
  | (with_reducible apply i_call)
  | (with_reducible apply i_m1)
  | (with_reducible apply i_kStr)
  | (with_reducible apply i_bm)
  | (with_reducible apply i_bm0)
  | (with_reducible apply i_part)
  | (with_reducible apply i_kInt)
  | (with_reducible apply i_noPart)
  | (with_reducible apply i_sl)
  | (with_reducible apply i_range1)
  | (with_reducible apply i_range2)
  | ((with_reducible apply i_kRng1); (case c => walk_at "side"))
  | ((with_reducible apply i_kRng2); (case c => walk_at "side"))
  | (with_reducible apply i_gCons)
  | (with_reducible apply i_gNil)
  | (with_reducible apply i_gSub)
  | (with_reducible apply i_iZip)
  | (with_reducible apply i_yes)
  | (with_reducible apply i_ift)
  | (with_reducible apply i_iff)
  | (with_reducible apply i_nb))
local macro_rules | `(tactic| walk_at "go") => `(tactic| repeat (first | (with_reducible apply i_seq) | (with_reducible apply i_next) | walk_at "e"))
local macro_rules | `(tactic| walk_at "ge") => `(tactic| repeat walk_at "e")
local macro_rules | `(tactic| walk_at "sz") => `(tactic| first | decide | (rw [sizeLine_eq]; simp; done) | (rw [sizeLine_eq]; omega))
local macro_rules | `(tactic| walk_at "side") => `(tactic| (with_reducible exact WB.most_pos))
local macro_rules | `(tactic| walk_at "e") => `(tactic| first
  | ((with_reducible apply i_isT (b := true)); exact rfl)
  | ((with_reducible apply i_isT (b := false)); exact rfl)
  | (with_reducible apply i_fld)
  | ((with_reducible apply i_kFld); (case h => assumption); (case c1 => assumption); (case c2 => assumption); (case e => first | exact lk_number | exact lk_tail | exact lk_head | exact lk_load | exact lk_oneway | exact lk_points | exact lk_ties | exact lk_given))
  | (with_reducible apply i_sfld)
  | ((with_reducible apply i_kSFld); (case h => first | assumption | exact upd_same); (case c1 => assumption); (case c2 => assumption); (case e => exact Nat.le_of_ble_eq_true rfl))
  | (with_reducible apply i_methC)
  | (with_reducible apply i_make)
  | (with_reducible apply i_fldaug)
  | (with_reducible apply i_vals)
  | (with_reducible apply i_items)
  | (with_reducible apply i_dget)
  | (with_reducible apply i_dput)
  | (with_reducible apply i_din)
  | (with_reducible apply i_dnotin)
  | (with_reducible apply i_ddel)
  | (with_reducible apply i_dc)
  | (with_reducible apply i_enum)
  | (with_reducible apply i_ckw))
section
variable {P : Program} {w : World} {K : PySem.W.Frag} {mg : Str → Option Value} {base : Heap}
def spx_need_new_point (K : PySem.W.Frag) : Sp := fun vs H Q E => ∃ p l d w v r, vs = [.ref p, v] ∧ WebAt K H p l d w ∧ NpB K H w v r ∧ Raise K r H E
theorem okx_Web_need_new_point (T : Tx K mg) (J : Js P w K mg base) : FnOk P w K mg base (CX P w) 7 (He.ma K (He.ga K "Web") "_need_new_point") T.fd_Web_need_new_point ["self", "name"] (spx_need_new_point K) := by
  refine T.F_Web_need_new_point.ok sc_Web_need_new_point (fun vs H Q E h => ?_) (fun cdv A outer s H vs Q E hr h => ?_)
  · obtain ⟨_, _, _, _, _, _, rfl, _⟩ := h
    rfl
  · obtain ⟨p, l, d, w, v, r, rfl, hw, bad, q⟩ := h
    obtain ⟨dx, ep⟩ := hw.self
    refine ⟨_, (pss_cons (ps_expr (EVX.pe_methS (pv 0) T.cl_Web T.m_Web_need_new_name (okb_Web_need_new_name T J) (hr.mono (by decide)) T.k_Web_need_new_name .nil (passAt (takes_of rfl rfl rfl rfl)) (pa_cons (pv 1) pa_nil)))
      (pss_one (ps_if (pt_cmpR op_ge (pe_callB x_lenL (by rfl) T.b_len (by decide +kernel) (pa_cons (pe_fld (pv 0) rfl) pa_nil)) (pe_glob (v := .int 16) rfl (T.c_MOST_POINTS).choose_spec ⟨_, rfl⟩) (nomark _)) (pss_one (ps_raise rfl (takes_of rfl rfl rfl rfl) (pmk_own PySem.F.excBase_ValueError T.x_TooMany.1 T.g_TooMany T.x_TooMany.2.1 (EVX.raises_of T.x_TooMany.2.2) (by rfl)))) pss_nil))), ?_⟩
    have c1 := T.cl_Web
    have c2 := T.na_Web_points
    walk_at "go"
    unfold EVX.tMethS
    walk_at "ge"
    refine ⟨_, _, _, rfl, ep, rfl, ?_⟩
    walk_at "ge"
    rcases bad with bad | ⟨z, rfl, hn, hz, l16, rfl⟩
    · exact .inr ⟨p, l, d, w, v, r, rfl, hw, bad, q⟩
    · refine .inl ⟨p, l, d, w, z, rfl, hw, hz, hn, ?_⟩
      walk_at "go"
      refine i_lenL (SqL.of hw.pts) ?_
      rw [List.length_map]
      walk_at "go"
      refine i_dec (fun _ => ?_) (fun e => absurd (by omega) e)
      walk_at "go"
      exact q
theorem okb_Web_need_new_point (T : Tx K mg) (J : Js P w K mg base) : FnOk P w K mg base (CX P w) 7 (He.ma K (He.ga K "Web") "_need_new_point") T.fd_Web_need_new_point ["self", "name"] (fun vs H Q E => (sp_need_new_point K) vs H Q E ∨ (spx_need_new_point K) vs H Q E) := EVV.fn_or (ok_Web_need_new_point T) (okx_Web_need_new_point T J) (by decide) (by decide)
theorem okx_Web_put_point (T : Tx K mg) (J : Js P w K mg base) : FnOk P w K mg base (CX P w) 8 (He.ma K (He.ga K "Web") "put_point") T.fd_Web_put_point ["self", "name"] (spx_need_new_point K) := by
  refine T.F_Web_put_point.ok sc_Web_put_point (fun vs H Q E h => ?_) (fun cdv A outer s H vs Q E hr h => ?_)
  · obtain ⟨_, _, _, _, _, _, rfl, _⟩ := h
    rfl
  · obtain ⟨p, l, d, w, v, r, rfl, hw, bad, q⟩ := h
    obtain ⟨dx, ep⟩ := hw.self
    refine ⟨_, (pss_cons (ps_expr (EVX.pe_methS (pv 0) T.cl_Web T.m_Web_need_new_point (okx_Web_need_new_point T J) (hr.mono (by decide)) T.k_Web_need_new_point .nil (passAt (takes_of rfl rfl rfl rfl)) (pa_cons (pv 1) pa_nil)))
      (PSs.nox (pss_one (ps_expr (pe_bm PySem.F.plainAttrs_list PySem.F.slot_list_append PySem.F.type_list_append mt_append (pe_fld (pv 0) rfl) (pa_cons (pv 1) pa_nil)))))), ?_⟩
    have c1 := T.cl_Web
    walk_at "go"
    unfold EVX.tMethS
    walk_at "ge"
    refine ⟨_, _, _, rfl, ep, rfl, ?_⟩
    walk_at "ge"
    exact ⟨_, _, _, _, _, _, rfl, hw, bad, q⟩
end
end K04

set_option Elab.async false
set_option linter.all false
set_option maxRecDepth 100000
set_option maxHeartbeats 4000000
namespace K04
open PySem PySem.Spec PyProof.Rows L2 HX WB
local macro_rules | `(tactic| walk_at "side") => `(tactic| first
  | assumption
  | rfl
  | (show (0 : Int) < _; omega)
  | (unfold CDiv; omega)
  | (unfold CMul; omega)
  | (unfold CPow; omega)
  | (rw [sizeLine_eq]; omega)
  | omega)
local macro_rules | `(tactic| walk_at "e") => `(tactic| first
  | ((with_reducible apply i_var); exact rfl)
  | (with_reducible apply i_c)
  | (with_reducible apply i_op)
  | (with_reducible apply i_un)
  | (with_reducible apply i_rI0)
  | ((with_reducible apply i_rI); (case c => walk_at "side"))
  | (with_reducible apply i_rGe)
  | (with_reducible apply i_rGt)
  | (with_reducible apply i_rU)
  | (with_reducible apply i_rEqI)
  | (with_reducible apply i_rNeI)
  | (with_reducible apply i_rEqS)
  | (with_reducible apply i_rNeS)
  | (with_reducible apply i_rEqB)
  | (with_reducible apply i_rNeB)
  | (with_reducible apply i_rIsN)
  | (with_reducible apply i_rNotN)
  | (with_reducible apply i_rInS)
  | (with_reducible apply i_rNotInS)
  | ((with_reducible apply i_catS); (case c => walk_at "side"))
  | (with_reducible apply i_tcb)
  | (with_reducible apply i_nil)
  | (with_reducible apply i_cons)
  | ((with_reducible apply i_lenS); (case c => walk_at "side"))
  | ((with_reducible apply i_lenL); assumption)
  | (with_reducible apply i_abs)
  | (with_reducible apply i_max2)
  | (with_reducible apply i_min2)
  | ((with_reducible apply i_strI); (case c => walk_at "side"))
  | (with_reducible apply i_intB)
  | (with_reducible apply i_test)
  | (with_reducible apply i_tB)
  | (with_reducible apply i_kB)
  | (with_reducible apply i_and)
  | (with_reducible apply i_or)
  | (with_reducible apply i_not)
  | (with_reducible apply i_if)
  | (with_reducible apply i_andV)
  | (with_reducible apply i_orV)
  | (with_reducible apply i_notV)
  | (with_reducible apply i_kAndV)
  | (with_reducible apply i_kOrV)
  | (with_reducible apply i_kNotV)
  | (with_reducible apply i_chain)
  | (with_reducible apply i_kChain)
  | (with_reducible apply i_drop)
  | (with_reducible apply i_ret)
  | (with_reducible apply i_retN)
  | (with_reducible apply i_ifS)
  | (with_reducible apply i_asg)
  | (with_reducible apply i_gName)
  | (with_reducible apply i_for)
  | (with_reducible apply i_lc)
  | (with_reducible apply i_iList)
  | (with_reducible apply i_iTup)
  | (with_reducible apply i_iStr)
  | (with_reducible apply i_kStrI)
  | (with_reducible apply i_lst)
  | (with_reducible apply i_tup)
  | (with_reducible apply i_call)
  | (with_reducible apply i_m1)
  | (with_reducible apply i_kStr)
  | (with_reducible apply i_bm)
  | (with_reducible apply i_bm0)
  | (with_reducible apply i_part)
  | (with_reducible apply i_kInt)
  | (with_reducible apply i_noPart)
  | (with_reducible apply i_sl)
  | (with_reducible apply i_range1)
  | (with_reducible apply i_range2)
  | ((with_reducible apply i_kRng1); (case c => walk_at "side"))
  | ((with_reducible apply i_kRng2); (case c => walk_at "side"))
  | (with_reducible apply i_gCons)
  | (with_reducible apply i_gNil)
  | (with_reducible apply i_gSub)
  | (with_reducible apply i_iZip)
  | (with_reducible apply i_yes)
  | (with_reducible apply i_ift)
  | (with_reducible apply i_iff)
  | (with_reducible apply i_nb))
local macro_rules | `(tactic| walk_at "go") => `(tactic| repeat (first | (with_reducible apply i_seq) | (with_reducible apply i_next) | walk_at "e"))
local macro_rules | `(tactic| walk_at "ge") => `(tactic| repeat walk_at "e")
local macro_rules | `(tactic| walk_at "sz") => `(tactic| first | decide | (rw [sizeLine_eq]; simp; done) | (rw [sizeLine_eq]; omega))
local macro_rules | `(tactic| walk_at "side") => `(tactic| (with_reducible exact WB.most_pos))
local macro_rules | `(tactic| walk_at "e") => `(tactic| first
  | ((with_reducible apply i_isT (b := true)); exact rfl)
  | ((with_reducible apply i_isT (b := false)); exact rfl)
  | (with_reducible apply i_fld)
  | ((with_reducible apply i_kFld); (case h => assumption); (case c1 => assumption); (case c2 => assumption); (case e => first | exact lk_number | exact lk_tail | exact lk_head | exact lk_load | exact lk_oneway | exact lk_points | exact lk_ties | exact lk_given))
  | (with_reducible apply i_sfld)
  | ((with_reducible apply i_kSFld); (case h => first | assumption | exact upd_same); (case c1 => assumption); (case c2 => assumption); (case e => exact Nat.le_of_ble_eq_true rfl))
  | (with_reducible apply i_methC)
  | (with_reducible apply i_make)
  | (with_reducible apply i_fldaug)
  | (with_reducible apply i_vals)
  | (with_reducible apply i_items)
  | (with_reducible apply i_dget)
  | (with_reducible apply i_dput)
  | (with_reducible apply i_din)
  | (with_reducible apply i_dnotin)
  | (with_reducible apply i_ddel)
  | (with_reducible apply i_dc)
  | (with_reducible apply i_enum)
  | (with_reducible apply i_ckw))
/-- no truth -/
def NoBool (K : PySem.W.Frag) (H : Hp) (v : V) : Prop := ∃ n, EVV.HasTy K H v n ∧ kitB n "bool" = some false
/-- what a tie is refused for -/
def PtTB (K : PySem.W.Frag) (H : Hp) (w : Wb) (tl hd c o : V) (r : Rf) : Prop := PtB K H w tl r ∨ ∃ x, tl = .str x ∧ x ∈ w.ps ∧ (PtB K H w hd r ∨ ∃ y, hd = .str y ∧ y ∈ w.ps ∧
  ((x = y ∧ r = rf "BadTie") ∨ (x ≠ y ∧ ((NoBool K H o ∧ r = rf "BadTie") ∨ ∃ b, o = .bl b ∧ (LdB K H c r ∨ ∃ i : Int, c = .int i ∧ 0 ≤ i ∧ i ≤ most ∧ w.ts.length = 48 ∧ r = rf "TooMany")))))
section
variable {P : Program} {w : World} {K : PySem.W.Frag} {mg : Str → Option Value} {base : Heap}
def spx_put_tie (K : PySem.W.Frag) : Sp := fun vs H Q E => ∃ p l d w tl hd c o r, vs = [.ref p, tl, hd, c, o] ∧ WebAt K H p l d w ∧ Wok w ∧ PtTB K H w tl hd c o r ∧ Raise K r H E
theorem okx_Web_put_tie (T : Tx K mg) (J : Js P w K mg base) : FnOk P w K mg base (CX P w) 7 (He.ma K (He.ga K "Web") "put_tie") T.fd_Web_put_tie ["self", "tail", "head", "load", "is_oneway"] (spx_put_tie K) := by
  refine T.F_Web_put_tie.ok sc_Web_put_tie (fun vs H Q E h => ?_) (fun cdv A outer s H vs Q E hr h => ?_)
  · obtain ⟨_, _, _, _, _, _, _, _, _, rfl, _⟩ := h
    rfl
  · obtain ⟨p, l, d, w, tl, hd, c, o, r, rfl, hw, ok, bad, q⟩ := h
    obtain ⟨dx, ep⟩ := hw.self
    obtain ⟨kvs, ed, hdd⟩ := hw.ties
    have hu := hu_of hr
    refine ⟨_, (pss_cons (ps_expr (EVX.pe_methS (pv 0) T.cl_Web T.m_Web_need_point (okb_Web_need_point T J) (hr.mono (by decide)) T.k_Web_need_point .nil (passAt (takes_of rfl rfl rfl rfl)) (pa_cons (pv 1) pa_nil)))
      (pss_cons (ps_expr (EVX.pe_methS (pv 0) T.cl_Web T.m_Web_need_point (okb_Web_need_point T J) (hr.mono (by decide)) T.k_Web_need_point .nil (passAt (takes_of rfl rfl rfl rfl)) (pa_cons (pv 2) pa_nil)))
      (pss_cons (ps_if (pt_cmpR op_eq (pv 1) (pv 2) (nomark _)) (pss_one (ps_raise rfl (takes_of rfl rfl rfl rfl) (pmk_own PySem.F.excBase_ValueError T.x_BadTie.1 T.g_BadTie T.x_BadTie.2.1 (EVX.raises_of T.x_BadTie.2.2) (by rfl)))) pss_nil)
      (pss_cons (ps_if (pt_not (pt_val (pe_callB call_isi (by rfl) T.b_isinstance (by decide +kernel) (pa_cons (pv 4) (pa_cons (pe_bltn (v := .ty "bool") rfl T.b_bool (by decide +kernel) rfl) pa_nil))))) (pss_one (ps_raise rfl (takes_of rfl rfl rfl rfl) (pmk_own PySem.F.excBase_ValueError T.x_BadTie.1 T.g_BadTie T.x_BadTie.2.1 (EVX.raises_of T.x_BadTie.2.2) (by rfl)))) pss_nil)
      (pss_cons (ps_expr (pe_callSD (okb_need_load T J) (hr.mono (by decide)) (by rfl) T.g_need_load T.F_need_load.kp T.k_need_load .nil (passAt (takes_of rfl rfl rfl rfl)) (pa_cons (pv 3) pa_nil)))
      (pss_cons (ps_if (pt_cmpR op_ge (pe_callB call_lenD (by rfl) T.b_len (by decide +kernel) (pa_cons (pe_fld (pv 0) rfl) pa_nil)) (pe_glob (v := .int 48) rfl (T.c_MOST_TIES).choose_spec ⟨_, rfl⟩) (nomark _)) (pss_one (ps_raise rfl (takes_of rfl rfl rfl rfl) (pmk_own PySem.F.excBase_ValueError T.x_TooMany.1 T.g_TooMany T.x_TooMany.2.1 (EVX.raises_of T.x_TooMany.2.2) (by rfl)))) pss_nil)
      (PSs.nox (pss_cons (ps_fldaug (pv 0) pe_int in_add)
      (pss_cons (ps_dput hu (pe_fld (pv 0) rfl) (pe_fld (pv 0) rfl) (pe_make T.mk_Tie (ok_Tie_init T) (hr.mono (by decide)) (by rfl) T.g_Tie T.k_Tie_init .nil pass0 (pa_cons (pe_fld (pv 0) rfl) (pa_cons (pv 1) (pa_cons (pv 2) (pa_cons (pv 3) (pa_cons (pv 4) pa_nil)))))) rfl)
      (pss_one (ps_ret (pe_fld (pv 0) rfl)))))))))))), ?_⟩
    have c1 := T.cl_Web
    have c3 := T.na_Web_ties
    walk_at "go"
    unfold EVX.tMethS
    walk_at "ge"
    refine ⟨_, _, _, rfl, ep, rfl, ?_⟩
    walk_at "ge"
    rcases bad with bad | ⟨x, rfl, hx, bad⟩
    · exact .inr ⟨p, l, d, w, tl, r, rfl, hw, bad, q⟩
    refine .inl ⟨p, l, d, w, x, rfl, hw, hx, ok.nm _ hx, ?_⟩
    walk_at "go"
    refine ⟨_, _, _, rfl, ep, rfl, ?_⟩
    walk_at "ge"
    rcases bad with bad | ⟨y, rfl, hy, bad⟩
    · exact .inr ⟨p, l, d, w, hd, r, rfl, hw, bad, q⟩
    refine .inl ⟨p, l, d, w, y, rfl, hw, hy, ok.nm _ hy, ?_⟩
    walk_at "go"
    rcases bad with ⟨rfl, rfl⟩ | ⟨ne, bad⟩
    · refine i_dec (fun _ => ?_) (fun e => absurd rfl e)
      walk_at "go"
      exact q
    refine i_dec (fun e => absurd e ne) (fun _ => ?_)
    walk_at "go"
    rcases bad with ⟨⟨tn, tv, tk⟩, rfl⟩ | ⟨b, rfl, bad⟩
    · refine EVV.HasTy.isi (n := tn) tv tk ?_
      walk_at "go"
      exact q
    walk_at "go"
    unfold tCallSD
    walk_at "go"
    rcases bad with bad | ⟨i, rfl, i0, i1, l48, rfl⟩
    · exact .inr ⟨c, r, rfl, bad, q⟩
    refine .inl ⟨i, rfl, i0, i1, ?_⟩
    walk_at "go"
    refine ⟨d, kvs, rfl, ed, ?_⟩
    walk_at "go"
    rw [hdd.len]
    refine i_dec (fun _ => ?_) (fun e => absurd (by omega) e)
    walk_at "go"
    exact q
end
end K04

set_option Elab.async false
set_option linter.all false
set_option maxRecDepth 100000
set_option maxHeartbeats 4000000
namespace K04
open PySem PySem.Spec PyProof.Rows L2 HX WB
local macro_rules | `(tactic| walk_at "side") => `(tactic| first
  | assumption
  | rfl
  | (show (0 : Int) < _; omega)
  | (unfold CDiv; omega)
  | (unfold CMul; omega)
  | (unfold CPow; omega)
  | (rw [sizeLine_eq]; omega)
  | omega)
local macro_rules | `(tactic| walk_at "e") => `(tactic| first
  | ((with_reducible apply i_var); exact rfl)
  | (with_reducible apply i_c)
  | (with_reducible apply i_op)
  | (with_reducible apply i_un)
  | (with_reducible apply i_rI0)
  | ((with_reducible apply i_rI); (case c => walk_at "side"))
  | (with_reducible apply i_rGe)
  | (with_reducible apply i_rGt)
  | (with_reducible apply i_rU)
  | (with_reducible apply i_rEqI)
  | (with_reducible apply i_rNeI)
  | (with_reducible apply i_rEqS)
  | (with_reducible apply i_rNeS)
  | (with_reducible apply i_rEqB)
  | (with_reducible apply i_rNeB)
  | (with_reducible apply i_rIsN)
  | (with_reducible apply i_rNotN)
  | (with_reducible apply i_rInS)
  | (with_reducible apply i_rNotInS)
  | ((with_reducible apply i_catS); (case c => walk_at "side"))
  | (with_reducible apply i_tcb)
  | (with_reducible apply i_nil)
  | (with_reducible apply i_cons)
  | ((with_reducible apply i_lenS); (case c => walk_at "side"))
  | ((with_reducible apply i_lenL); assumption)
  | (with_reducible apply i_abs)
  | (with_reducible apply i_max2)
  | (with_reducible apply i_min2)
  | ((with_reducible apply i_strI); (case c => walk_at "side"))
  | (with_reducible apply i_intB)
  | (with_reducible apply i_test)
  | (with_reducible apply i_tB)
  | (with_reducible apply i_kB)
  | (with_reducible apply i_and)
  | (with_reducible apply i_or)
  | (with_reducible apply i_not)
  | (with_reducible apply i_if)
  | (with_reducible apply i_andV)
  | (with_reducible apply i_orV)
  | (with_reducible apply i_notV)
  | (with_reducible apply i_kAndV)
  | (with_reducible apply i_kOrV)
  | (with_reducible apply i_kNotV)
  | (with_reducible apply i_chain)
  | (with_reducible apply i_kChain)
  | (with_reducible apply i_drop)
  | (with_reducible apply i_ret)
  | (with_reducible apply i_retN)
  | (with_reducible apply i_ifS)
  | (with_reducible apply i_asg)
  | (with_reducible apply i_gName)
  | (with_reducible apply i_for)
  | (with_reducible apply i_lc)
  | (with_reducible apply i_iList)
  | (with_reducible apply i_iTup)
  | (with_reducible apply i_iStr)
  | (with_reducible apply i_kStrI)
  | (with_reducible apply i_lst)
  | (with_reducible apply i_tup)
  | (with_reducible apply i_call)
  | (with_reducible apply i_m1)
  | (with_reducible apply i_kStr)
  | (with_reducible apply i_bm)
  | (with_reducible apply i_bm0)
  | (with_reducible apply i_part)
  | (with_reducible apply i_kInt)
  | (with_reducible apply i_noPart)
  | (with_reducible apply i_sl)
  | (with_reducible apply i_range1)
  | (with_reducible apply i_range2)
  | ((with_reducible apply i_kRng1); (case c => walk_at "side"))
  | ((with_reducible apply i_kRng2); (case c => walk_at "side"))
  | (with_reducible apply i_gCons)
  | (with_reducible apply i_gNil)
  | (with_reducible apply i_gSub)
  | (with_reducible apply i_iZip)
  | (with_reducible apply i_yes)
  | (with_reducible apply i_ift)
  | (with_reducible apply i_iff)
  | (with_reducible apply i_nb))
local macro_rules | `(tactic| walk_at "go") => `(tactic| repeat (first | (with_reducible apply i_seq) | (with_reducible apply i_next) | walk_at "e"))
local macro_rules | `(tactic| walk_at "ge") => `(tactic| repeat walk_at "e")
local macro_rules | `(tactic| walk_at "sz") => `(tactic| first | decide | (rw [sizeLine_eq]; simp; done) | (rw [sizeLine_eq]; omega))
local macro_rules | `(tactic| walk_at "side") => `(tactic| (with_reducible exact WB.most_pos))
local macro_rules | `(tactic| walk_at "e") => `(tactic| first
  | ((with_reducible apply i_isT (b := true)); exact rfl)
  | ((with_reducible apply i_isT (b := false)); exact rfl)
  | (with_reducible apply i_fld)
  | ((with_reducible apply i_kFld); (case h => assumption); (case c1 => assumption); (case c2 => assumption); (case e => first | exact lk_number | exact lk_tail | exact lk_head | exact lk_load | exact lk_oneway | exact lk_points | exact lk_ties | exact lk_given))
  | (with_reducible apply i_sfld)
  | ((with_reducible apply i_kSFld); (case h => first | assumption | exact upd_same); (case c1 => assumption); (case c2 => assumption); (case e => exact Nat.le_of_ble_eq_true rfl))
  | (with_reducible apply i_methC)
  | (with_reducible apply i_make)
  | (with_reducible apply i_fldaug)
  | (with_reducible apply i_vals)
  | (with_reducible apply i_items)
  | (with_reducible apply i_dget)
  | (with_reducible apply i_dput)
  | (with_reducible apply i_din)
  | (with_reducible apply i_dnotin)
  | (with_reducible apply i_ddel)
  | (with_reducible apply i_dc)
  | (with_reducible apply i_enum)
  | (with_reducible apply i_ckw))
/-- the errors that a line's deed may raise -/
def tkE : List Str := ["BadName", "Twice", "TooMany", "NoPoint", "BadTie", "BadLoad"]
section
variable {P : Program} {w : World} {K : PySem.W.Frag} {mg : Str → Option Value} {base : Heap}
theorem okb_Web_put_point (T : Tx K mg) (J : Js P w K mg base) : FnOk P w K mg base (CX P w) 8 (He.ma K (He.ga K "Web") "put_point") T.fd_Web_put_point ["self", "name"] (fun vs H Q E => (sp_put_point K) vs H Q E ∨ (spx_need_new_point K) vs H Q E) := EVV.fn_or (ok_Web_put_point T) (okx_Web_put_point T J) (by decide) (by decide)
theorem okb_Web_put_tie (T : Tx K mg) (J : Js P w K mg base) : FnOk P w K mg base (CX P w) 7 (He.ma K (He.ga K "Web") "put_tie") T.fd_Web_put_tie ["self", "tail", "head", "load", "is_oneway"] (fun vs H Q E => (sp_put_tie K) vs H Q E ∨ (spx_put_tie K) vs H Q E) := EVV.fn_or (ok_Web_put_tie T) (okx_Web_put_tie T J) (by decide) (by decide)
def Tk (K : PySem.W.Frag) (H : Hp) (p l d : Addr) (w : Wb) (ws : List Str) (Q : VK) : Prop :=
  (∀ ln H', stand w ws = some ln → WebAt K H' p l d (ln.does w) → Keep H H' p l d → Q (.bl true) H') ∧ (∀ H', stand w ws = none → Keep H H' p l d → Q (.bl false) H')
def sp_takeG (K : PySem.W.Frag) (hd : Str → Prop) : Sp := fun vs H Q _ => ∃ p l d w a z ws, vs = [.ref p, .ref a] ∧ WebAt K H p l d w ∧ Wok w ∧ a ≠ p ∧ a ≠ l ∧ a ≠ d ∧ H a = some (.lst ((z :: ws).map V.str)) ∧ (∀ y ∈ z :: ws, y.length ≤ 1000) ∧ hd z ∧ Tk K H p l d w (z :: ws) Q
def sp_take (K : PySem.W.Frag) (hd : Str → Prop) : Sp := fun vs H Q E => ∃ p l d w a z ws, vs = [.ref p, .ref a] ∧ WebAt K H p l d w ∧ Wok w ∧ a ≠ p ∧ a ≠ l ∧ a ≠ d ∧ H a = some (.lst ((z :: ws).map V.str)) ∧ (∀ y ∈ z :: ws, y.length ≤ 1000) ∧ hd z ∧ Tk K H p l d w (z :: ws) Q ∧
  ∀ H' r, stand w (z :: ws) = none → Keep H H' p l d → r.1 ∈ tkE → Raise K r H' E
theorem okx_put_point_words (T : Tx K mg) (J : Js P w K mg base) : FnOk P w K mg base (CX P w) 9 (He.ga K "_put_point_words") T.fd_put_point_words ["web", "words"] (sp_take K (· = "point")) := by
  refine T.F_put_point_words.ok sc_put_point_words (fun vs H Q E h => ?_) (fun cdv A outer s H vs Q E hr h => ?_)
  · obtain ⟨_, _, _, _, _, _, _, rfl, _⟩ := h
    rfl
  · obtain ⟨p, l, d, w, a, z, ws, rfl, hw, ok, n1, n2, n3, ha, hl, rfl, ⟨q1, q2⟩, q3⟩ := h
    obtain ⟨dx, ep⟩ := hw.self
    refine ⟨_, (pss_cons (ps_if (PW.pt (pw_or (pt_cmpR op_ne (pe_callB x_lenL (by rfl) T.b_len (by decide +kernel) (pa_cons (pv 1) pa_nil)) pe_int (nomark _)) (pw_or1 (pt_cmpR op_gt (pe_meth0 (pv 0) T.cl_Web T.m_Web_given (ok_Web_given T) (hr.mono (by decide)) T.k_Web_given .nil pass0) pe_int (nomark _))))) (PSs.nox (pss_one (ps_ret pe_bl))) pss_nil)
      (pss_cons (ps_expr (EVX.pe_methS (pv 0) T.cl_Web T.m_Web_put_point (okb_Web_put_point T J) (hr.mono (by decide)) T.k_Web_put_point .nil (passAt (takes_of rfl rfl rfl rfl)) (pa_cons (pe_ix ix_list (pv 1) pe_int (fun _ _ => rfl)) pa_nil)))
      (PSs.nox (pss_one (ps_ret pe_bl))))), ?_⟩
    walk_at "go"
    refine i_lenL (SqL.of ha) ?_
    walk_at "go"
    refine i_dec (fun e => ?_) (fun e => ?_)
    · have hx : ∃ x, ws = [x] := by
        match ws, e with
        | [], e => simp at e
        | [x], _ => exact ⟨x, rfl⟩
        | _ :: _ :: _, e => simp at e; omega
      obtain ⟨x, rfl⟩ := hx
      have hp := parse_pt x
      have hlx := hl x (by simp)
      walk_at "go"
      refine i_kMethC ep rfl ?_
      walk_at "go"
      refine ⟨p, l, d, w, rfl, hw, ?_⟩
      walk_at "go"
      refine i_dec (fun e => ?_) (fun e => ?_)
      · walk_at "go"
        exact q2 H (stand_no hp fun o => by have : w.g = 0 := o.1; omega) Keep.rfl
      · have g0 := ok.g0
        walk_at "go"
        unfold EVX.tMethS
        walk_at "ge"
        refine ⟨_, _, _, rfl, ep, rfl, ?_⟩
        walk_at "ge"
        refine i_ixL (SqL.of ha) rfl ?_
        walk_at "ge"
        by_cases o : (Ln.pt x).ok w
        · obtain ⟨o1, o2, o3, o4⟩ := o
          refine .inl ⟨p, l, d, w, x, rfl, hw, o2, o3, o4, fun H' h1 h2 => ?_⟩
          walk_at "go"
          exact q1 (.pt x) H' (stand_of hp ⟨o1, o2, o3, o4⟩) h1 h2
        · have bad : ∃ r, NpB K H w (.str x) r ∧ r.1 ∈ tkE := by
            cases hn : isNm x with
            | false => exact ⟨rf "BadName", .inl (.inl ⟨.inl ⟨x, rfl, hlx, hn⟩, rfl⟩), by decide⟩
            | true =>
              by_cases hx : x ∈ w.ps
              · exact ⟨rf "Twice", .inl (.inr ⟨x, rfl, hn, hx, rfl⟩), by decide⟩
              · exact ⟨rf "TooMany", .inr ⟨x, rfl, hn, hx, Nat.le_of_not_lt fun c => o ⟨by omega, hx, hn, c⟩, rfl⟩, by decide⟩
          obtain ⟨r, b1, b2⟩ := bad
          exact .inr ⟨p, l, d, w, _, r, rfl, hw, b1, q3 H r (stand_no hp o) Keep.rfl b2⟩
    · walk_at "go"
      exact q2 H (stand_none (parse_pt0 (.inl rfl) fun c => e (by simp [c]))) Keep.rfl
theorem okx_put_tie_words (T : Tx K mg) (J : Js P w K mg base) : FnOk P w K mg base (CX P w) 8 (He.ga K "_put_tie_words") T.fd_put_tie_words ["web", "words"] (sp_take K (fun z => z = "tie" ∨ z = "way")) := by
  refine T.F_put_tie_words.ok sc_put_tie_words (fun vs H Q E h => ?_) (fun cdv A outer s H vs Q E hr h => ?_)
  · obtain ⟨_, _, _, _, _, _, _, rfl, _⟩ := h
    rfl
  · obtain ⟨p, l, d, w, a, z, ws, rfl, hw, ok, n1, n2, n3, ha, hl, hz, ⟨q1, q2⟩, q3⟩ := h
    obtain ⟨dx, ep⟩ := hw.self
    have hg0 := ok.g0
    have hm := most_lt
    refine ⟨_, (pss_cons (ps_if (pt_cmpR op_ne (pe_callB x_lenL (by rfl) T.b_len (by decide +kernel) (pa_cons (pv 1) pa_nil)) pe_int (nomark _)) (PSs.nox (pss_one (ps_ret pe_bl))) pss_nil)
      (pss_cons (ps_set (i := 2) sc_put_tie_words.nd rfl (Or.inl rfl) (pe_call (ok_number_of T) (hr.mono (by decide)) (by rfl) T.g_number_of T.F_number_of.kp T.k_number_of .nil pass0 (pa_cons (pe_ix ix_list (pv 1) pe_int (fun _ _ => rfl)) pa_nil)))
      (pss_cons (ps_set (i := 3) sc_put_tie_words.nd rfl (Or.inl rfl) (pe_call (ok_number_of T) (hr.mono (by decide)) (by rfl) T.g_number_of T.F_number_of.kp T.k_number_of .nil pass0 (pa_cons (pe_ix ix_list (pv 1) pe_int (fun _ _ => rfl)) pa_nil)))
      (pss_cons (ps_if (PW.pt (pw_or (pt_cmpR op_isN1 (pv 2) pe_non (nomark _)) (pw_or (pt_cmpR op_isN1 (pv 3) pe_non (nomark _)) (pw_or1 (pt_not (pt_chain op_lt op_le (pe_meth0 (pv 0) T.cl_Web T.m_Web_given (ok_Web_given T) (hr.mono (by decide)) T.k_Web_given .nil pass0) (pv 2) (pe_glob (v := .int 1000000000000000000000000000000000000000000000000000000000000) rfl (T.c_MOST).choose_spec ⟨_, rfl⟩))))))) (PSs.nox (pss_one (ps_ret pe_bl))) pss_nil)
      (pss_cons (ps_fld (pv 0) (pe_op op_sub (pv 2) pe_int) rfl)
      (pss_cons (ps_expr (EVX.pe_methS (pv 0) T.cl_Web T.m_Web_put_tie (okb_Web_put_tie T J) (hr.mono (by decide)) (T.k_Web_put_tie_2).choose_spec.2 (T.k_Web_put_tie_2).choose_spec.1 (passAt (takes_of rfl rfl rfl rfl)) (pa_cons (pe_ix ix_list (pv 1) pe_int (fun _ _ => rfl)) (pa_cons (pe_ix ix_list (pv 1) pe_int (fun _ _ => rfl)) (pa_cons (pv 3) (pa_cons (pe_cmpR op_eq (pe_ix ix_list (pv 1) pe_int (fun _ _ => rfl)) pe_str (nomark _)) pa_nil))))))
      (PSs.nox (pss_one (ps_ret pe_bl))))))))), ?_⟩
    have c1 := T.cl_Web
    have c4 := T.na_Web_given
    walk_at "go"
    refine i_lenL (SqL.of ha) ?_
    walk_at "go"
    refine i_dec (fun e => ?_) (fun e => ?_)
    · have hx : ∃ n t h c, ws = [n, t, h, c] := by
        match ws, e with
        | [], e => simp at e
        | [_], e => simp at e
        | [_, _], e => simp at e
        | [_, _, _], e => simp at e
        | [n, t, h, c], _ => exact ⟨n, t, h, c, rfl⟩
        | _ :: _ :: _ :: _ :: _ :: _, e => simp at e; omega
      obtain ⟨n, t, h, c, rfl⟩ := hx
      have hln := hl n (by simp)
      have hlt := hl t (by simp)
      have hlh := hl h (by simp)
      have hlc := hl c (by simp)
      have no : (numV n = .non ∨ numV c = .non) → stand w [z, n, t, h, c] = none := fun hh => by
        exact stand_none (parse_tie0 hh)
      walk_at "go"
      refine i_ixL (SqL.of ha) rfl ?_
      walk_at "go"
      refine ⟨n, rfl, by omega, ?_⟩
      walk_at "go"
      refine i_ixL (SqL.of ha) rfl ?_
      walk_at "go"
      refine ⟨c, rfl, by omega, ?_⟩
      walk_at "go"
      rcases numV_cases n with en | ⟨i, en⟩
      · rw [en]
        refine i_dec (fun _ => ?_) (fun e => absurd rfl e)
        walk_at "go"
        exact q2 H (no (.inl en)) Keep.rfl
      rw [en]
      refine i_dec (fun e => (by cases e)) (fun _ => ?_)
      walk_at "go"
      rcases numV_cases c with ec | ⟨j, ec⟩
      · rw [ec]
        refine i_dec (fun _ => ?_) (fun e => absurd rfl e)
        walk_at "go"
        exact q2 H (no (.inr ec)) Keep.rfl
      rw [ec]
      refine i_dec (fun e => (by cases e)) (fun _ => ?_)
      have hp := parse_tie (t := t) (h := h) hz en ec
      walk_at "go"
      refine i_kMethC ep rfl ?_
      walk_at "go"
      refine ⟨p, l, d, w, rfl, hw, ?_⟩
      walk_at "go"
      refine i_dec (fun o1 => ?_) (fun e => ?_)
      · walk_at "go"
        refine i_dec (fun o2 => ?_) (fun e => ?_)
        · walk_at "go"
          rw [pf_given]
          obtain ⟨g1, g2⟩ := hw.setGiven (Same.refl H) (dx := dx) (g := i - 1)
          have ha1 : (upd H p (.ins (He.ga K "Web") dx (webFs l d (i - 1)))) a = some (.lst ([z, n, t, h, c].map V.str)) := (upd_ne n1).trans ha
          generalize upd H p (.ins (He.ga K "Web") dx (webFs l d (i - 1))) = H1 at g1 g2 ha1 ⊢
          obtain ⟨dx1, ep1⟩ := g1.self
          have ok1 : Wok { w with g := i - 1 } := ⟨ok.nd, ok.nm, ok.le, ok.tl, ok.rise, fun m t ht => have o := ok.ok m t ht; { o with hi := by have := o.hi; show m ≤ i - 1; omega }, by show 0 ≤ i - 1; omega⟩
          walk_at "go"
          unfold EVX.tMethS
          walk_at "ge"
          refine ⟨_, _, _, rfl, ep1, rfl, ?_⟩
          walk_at "ge"
          refine i_ixL (SqL.of ha1) rfl ?_
          walk_at "ge"
          refine i_ixL (SqL.of ha1) rfl ?_
          walk_at "ge"
          refine i_ixL (SqL.of ha1) rfl ?_
          walk_at "ge"
          have i0 := (num_forth ec).2
          by_cases o : (Ln.tie i ⟨t, h, j, decide (z = "way")⟩).ok w
          · obtain ⟨_, _, o3, o4, o5, o6, o7, o8⟩ := id o
            refine .inl ⟨p, l, d, _, ⟨t, h, j, decide (z = "way")⟩, rfl, g1, ok1, o3, o4, o5, o6, o7, o8, fun H' h1 h2 => ?_⟩
            walk_at "go"
            refine q1 _ H' (stand_of hp o) ?_ (g2.trans h2 (.inl rfl))
            have e : ({ w with g := i - 1 } : Wb).tie ⟨t, h, j, decide (z = "way")⟩ = (Ln.tie i ⟨t, h, j, decide (z = "way")⟩).does w := by
              show (⟨w.ps, w.ts ++ [(i - 1 + 1, _)], i - 1 + 1⟩ : Wb) = ⟨w.ps, w.ts ++ [(i, _)], i⟩
              rw [Int.sub_add_cancel]
            rw [← e]
            exact h1
          · have bad : ∃ r, PtTB K H1 { w with g := i - 1 } (.str t) (.str h) (.int j) (.bl (decide (z = "way"))) r ∧ r.1 ∈ tkE := by
              by_cases a1 : t ∈ w.ps
              · by_cases a2 : h ∈ w.ps
                · by_cases a3 : t = h
                  · exact ⟨rf "BadTie", .inr ⟨t, rfl, a1, .inr ⟨h, rfl, a2, .inl ⟨a3, rfl⟩⟩⟩, by decide⟩
                  · by_cases a4 : j ≤ most
                    · exact ⟨rf "TooMany", .inr ⟨t, rfl, a1, .inr ⟨h, rfl, a2, .inr ⟨a3, .inr ⟨_, rfl, .inr ⟨j, rfl, i0, a4, by
                        have := ok.tl
                        have c : ¬ w.ts.length < 48 := fun c => o ⟨o1, o2, a1, a2, a3, i0, a4, c⟩
                        show w.ts.length = 48
                        omega, rfl⟩⟩⟩⟩⟩, by decide⟩
                    · exact ⟨rf "BadLoad", .inr ⟨t, rfl, a1, .inr ⟨h, rfl, a2, .inr ⟨a3, .inr ⟨_, rfl, .inl ⟨.inl ⟨j, rfl, fun c => a4 c.2⟩, rfl⟩⟩⟩⟩⟩, by decide⟩
                · exact ⟨rfv "NoPoint" "name" (.str h), .inr ⟨t, rfl, a1, .inl ⟨.inl ⟨h, rfl, hlh, a2⟩, rfl⟩⟩, (by decide : ("NoPoint" : Str) ∈ tkE)⟩
              · exact ⟨rfv "NoPoint" "name" (.str t), .inl ⟨.inl ⟨t, rfl, hlt, a1⟩, rfl⟩, (by decide : ("NoPoint" : Str) ∈ tkE)⟩
            obtain ⟨r, b1, b2⟩ := bad
            exact .inr ⟨p, l, d, _, _, _, _, _, r, rfl, g1, ok1, b1, q3 H1 r (stand_no hp o) g2 b2⟩
        · walk_at "go"
          exact q2 H (stand_no hp fun o => e o.2.1) Keep.rfl
      · walk_at "go"
        exact q2 H (stand_no hp fun o => e o.1) Keep.rfl
    · walk_at "go"
      exact q2 H (stand_none (parse_tieN hz fun c => e (by simp [c]))) Keep.rfl
theorem ok_set_given_words (T : Tx K mg) : FnOk P w K mg base CX0 3 (He.ga K "_set_given_words") T.fd_set_given_words ["web", "words"] (sp_takeG K (· = "given")) := by
  refine T.F_set_given_words.ok sc_set_given_words (fun vs H Q E h => ?_) (fun cdv A outer s H vs Q E hr h => ?_)
  · obtain ⟨_, _, _, _, _, _, _, rfl, _⟩ := h
    rfl
  · obtain ⟨p, l, d, w, a, z, ws, rfl, hw, ok, n1, n2, n3, ha, hl, rfl, q1, q2⟩ := h
    obtain ⟨dx, ep⟩ := hw.self
    have hg0 := ok.g0
    have hm := most_lt
    refine ⟨_, PSs.nox (pss_cons (ps_if (pt_cmpR op_ne (pe_callB x_lenL (by rfl) T.b_len (by decide +kernel) (pa_cons (pv 1) pa_nil)) pe_int (nomark _)) (pss_one (ps_ret pe_bl)) pss_nil)
      (pss_cons (ps_set (i := 2) sc_set_given_words.nd rfl (Or.inl rfl) (pe_call (ok_number_of T) (hr.mono (by decide)) (by rfl) T.g_number_of T.F_number_of.kp T.k_number_of .nil pass0 (pa_cons (pe_ix ix_list (pv 1) pe_int (fun _ _ => rfl)) pa_nil)))
      (pss_cons (ps_if (PW.pt (pw_or (pt_cmpR op_isN1 (pv 2) pe_non (nomark _)) (pw_or1 (pt_not (pt_chain op_le op_le (pe_meth0 (pv 0) T.cl_Web T.m_Web_given (ok_Web_given T) (hr.mono (by decide)) T.k_Web_given .nil pass0) (pv 2) (pe_glob (v := .int 1000000000000000000000000000000000000000000000000000000000000) rfl (T.c_MOST).choose_spec ⟨_, rfl⟩)))))) (pss_one (ps_ret pe_bl)) pss_nil)
      (pss_cons (ps_fld (pv 0) (pv 2) rfl)
      (pss_one (ps_ret pe_bl)))))), ?_⟩
    have c1 := T.cl_Web
    have c4 := T.na_Web_given
    walk_at "go"
    refine i_lenL (SqL.of ha) ?_
    walk_at "go"
    refine i_dec (fun e => ?_) (fun e => ?_)
    · have hx : ∃ x, ws = [x] := by
        match ws, e with
        | [], e => simp at e
        | [x], _ => exact ⟨x, rfl⟩
        | _ :: _ :: _, e => simp at e; omega
      obtain ⟨x, rfl⟩ := hx
      have hlx := hl x (by simp)
      walk_at "go"
      refine i_ixL (SqL.of ha) rfl ?_
      walk_at "go"
      refine ⟨x, rfl, by omega, ?_⟩
      walk_at "go"
      rcases numV_cases x with en | ⟨g, en⟩
      · rw [en]
        refine i_dec (fun _ => ?_) (fun e => absurd rfl e)
        walk_at "go"
        exact q2 H (stand_none (parse_gv0 en)) Keep.rfl
      rw [en]
      have hp := parse_gv en
      refine i_dec (fun e => (by cases e)) (fun _ => ?_)
      walk_at "go"
      refine i_kMethC ep rfl ?_
      walk_at "go"
      refine ⟨p, l, d, w, rfl, hw, ?_⟩
      walk_at "go"
      refine i_dec (fun o1 => ?_) (fun e => ?_)
      · walk_at "go"
        refine i_dec (fun o2 => ?_) (fun e => ?_)
        · walk_at "go"
          rw [pf_given]
          obtain ⟨g1, g2⟩ := hw.setGiven (Same.refl H) (dx := dx) (g := g)
          exact q1 (.gv g) _ (stand_of hp ⟨o1, o2⟩) g1 g2
        · walk_at "go"
          exact q2 H (stand_no hp fun o => e o.2) Keep.rfl
      · walk_at "go"
        exact q2 H (stand_no hp fun o => e o.1) Keep.rfl
    · walk_at "go"
      exact q2 H (stand_none (parse_pt0 (.inr rfl) fun c => e (by simp [c]))) Keep.rfl
theorem okx_take_words (T : Tx K mg) (J : Js P w K mg base) : FnOk P w K mg base (CX P w) 10 (He.ga K "_take_words") T.fd_take_words ["web", "words"] (sp_take K (fun _ => True)) := by
  refine T.F_take_words.ok sc_take_words (fun vs H Q E h => ?_) (fun cdv A outer s H vs Q E hr h => ?_)
  · obtain ⟨_, _, _, _, _, _, _, rfl, _⟩ := h
    rfl
  · obtain ⟨p, l, d, w, a, z, ws, rfl, hw, ok, n1, n2, n3, ha, hl, _, ⟨q1, q2⟩, q3⟩ := h
    refine ⟨_, (pss_cons (ps_if (pt_cmpR op_eq (pe_ix ix_list (pv 1) pe_int (fun _ _ => rfl)) pe_str (nomark _)) (pss_one (ps_ret (pe_callSD (okx_put_point_words T J) (hr.mono (by decide)) (by rfl) T.g_put_point_words T.F_put_point_words.kp T.k_put_point_words .nil (passAt (takes_of rfl rfl rfl rfl)) (pa_cons (pv 0) (pa_cons (pv 1) pa_nil))))) pss_nil)
      (pss_cons (ps_if (pt_cmpR op_in_seq (pe_ix ix_list (pv 1) pe_int (fun _ _ => rfl)) (pe_tup (pa_cons pe_str (pa_cons pe_str pa_nil))) (by rfl)) (pss_one (ps_ret (pe_callSD (okx_put_tie_words T J) (hr.mono (by decide)) (by rfl) T.g_put_tie_words T.F_put_tie_words.kp T.k_put_tie_words .nil (passAt (takes_of rfl rfl rfl rfl)) (pa_cons (pv 0) (pa_cons (pv 1) pa_nil))))) pss_nil)
      (PSs.nox (pss_one (ps_ret (pe_and (pe_cmpR op_eq (pe_ix ix_list (pv 1) pe_int (fun _ _ => rfl)) pe_str (nomark _)) (pe_one (pe_call (ok_set_given_words T) (hr.mono (by decide)) (by rfl) T.g_set_given_words T.F_set_given_words.kp T.k_set_given_words .nil pass0 (pa_cons (pv 0) (pa_cons (pv 1) pa_nil)))))))))), ?_⟩
    walk_at "go"
    refine i_ixL (SqL.of ha) (atI_nat (j := 0) rfl) ?_
    have hlz := hl z (by simp)
    walk_at "go"
    refine i_dec (fun e => ?_) (fun e => ?_)
    · walk_at "go"
      unfold tCallSD
      walk_at "go"
      exact ⟨p, l, d, w, a, z, ws, rfl, hw, ok, n1, n2, n3, ha, hl, e, ⟨q1, q2⟩, q3⟩
    walk_at "go"
    refine i_ixL (SqL.of ha) (atI_nat (j := 0) rfl) ?_
    walk_at "go"
    refine ⟨by walk_at "sz", fun p3 hp3 => ?_⟩
    refine i_inT (ys := ["tie", "way"]) (SqT.of upd_same) ?_
    have s3 : Same H (upd H p3 (.tup ((["tie", "way"] : List Str).map V.str))) := Same.new hp3
    have kk : ∀ H', Keep (upd H p3 (.tup ((["tie", "way"] : List Str).map V.str))) H' p l d → Keep H H' p l d := fun H' k => (Keep.of s3).trans k (.inl rfl)
    by_cases hk : z ∈ (["tie", "way"] : List Str)
    · rw [decide_eq_true hk]
      show kB _ (.bl true) _
      walk_at "go"
      unfold tCallSD
      walk_at "go"
      exact ⟨p, l, d, w, a, z, ws, rfl, hw.same s3, ok, n1, n2, n3, s3 _ _ ha, hl, by simpa using hk, ⟨fun ln H' a1 a2 a3 => q1 ln H' a1 a2 (kk H' a3), fun H' a1 a2 => q2 H' a1 (kk H' a2)⟩, fun H' r a1 a2 a3 => q3 H' r a1 (kk H' a2) a3⟩
    · rw [decide_eq_false hk]
      show kB _ (.bl false) _
      have ha1 := s3 _ _ ha
      walk_at "go"
      refine i_ixL (SqL.of ha1) (atI_nat (j := 0) rfl) ?_
      walk_at "go"
      refine i_dec (fun e2 => ?_) (fun e2 => ?_)
      · walk_at "go"
        exact ⟨p, l, d, w, a, z, ws, rfl, hw.same s3, ok, n1, n2, n3, ha1, hl, e2, fun ln H' a1 a2 a3 => q1 ln H' a1 a2 (kk H' a3), fun H' a1 a2 => q2 H' a1 (kk H' a2)⟩
      · walk_at "go"
        exact q2 _ (stand_none (parse_other e e2 (fun c => hk (by simpa using c)))) (Keep.of s3)
def sp_standsW (K : PySem.W.Frag) : Sp := fun vs H Q _ => ∃ p v, vs = [.ref p, v] ∧ ((v = .non ∧ Q (.bl false) H) ∨
  ∃ l d w a z ws, v = .ref a ∧ WebAt K H p l d w ∧ Wok w ∧ a ≠ p ∧ a ≠ l ∧ a ≠ d ∧ H a = some (.lst ((z :: ws).map V.str)) ∧ (∀ y ∈ z :: ws, y.length ≤ 1000) ∧ Tk K H p l d w (z :: ws) Q)
theorem xm_tk (T : Tx K mg) {D : Str} (h : D ∈ tkE) : PySem.W.exmOne K (.ref (He.ga K D)) (.ref (He.ga K "WebError")) = some true := by
  unfold tkE at h
  simp only [List.mem_cons, List.not_mem_nil, or_false] at h
  rcases h with rfl | rfl | rfl | rfl | rfl | rfl
  · exact T.xm_BadName
  · exact T.xm_Twice
  · exact T.xm_TooMany
  · exact T.xm_NoPoint
  · exact T.xm_BadTie
  · exact T.xm_BadLoad
theorem ok_stands (T : Tx K mg) (J : Js P w K mg base) : FnOk P w K mg base CX0 11 (He.ga K "_stands") T.fd_stands ["web", "words"] (sp_standsW K) := by
  refine T.F_stands.ok sc_stands (fun vs H Q E h => ?_) (fun cdv A outer s H vs Q E hr h => ?_)
  · obtain ⟨_, _, rfl, _⟩ := h
    rfl
  · obtain ⟨p, v, rfl, h⟩ := h
    have hu := hu_of hr
    refine ⟨_, (pss_cons (ps_if (pt_cmpR op_isN1 (pv 1) pe_non (nomark _)) (PSs.nox (pss_one (ps_ret pe_bl))) pss_nil)
      (pss_one (ps_try_only rfl rfl ⟨by rfl, by rfl, .inl T.g_WebError⟩ EVX.takes_no (fun W pn xe tk hp => (pss_one (ps_ret (pe_callSD (okx_take_words T J) (hr.mono (by decide)) (by rfl) T.g_take_words T.F_take_words.kp T.k_take_words .nil (passAt tk) (pa_cons (pv 0) (pa_cons (pv 1) pa_nil))))))
      (fun a oe cls d pn hz hf => (pss_one (ps_ret pe_bl)))))), ?_⟩
    walk_at "go"
    rcases h with ⟨rfl, q⟩ | ⟨l, d, w, a, z, ws, rfl, hw, ok, n1, n2, n3, ha, hl, q1, q2⟩
    · refine i_dec (fun _ => ?_) (fun e => absurd rfl e)
      walk_at "go"
      exact q
    · refine i_dec (fun e => (by cases e)) (fun _ => ?_)
      walk_at "go"
      unfold tCallSD
      walk_at "go"
      refine ⟨p, l, d, w, a, z, ws, rfl, hw, ok, n1, n2, n3, ha, hl, trivial, ⟨q1, q2⟩, fun H' r st k hr2 => ?_⟩
      obtain ⟨D, o⟩ := r
      cases o with
      | none =>
        unfold Raise
        refine ⟨true, xm_tk T hr2, fun _ b hb => ?_, fun e => by cases e⟩
        walk_at "go"
        exact q2 _ st k
      | some fv =>
        obtain ⟨f, v0⟩ := fv
        unfold Raise
        intro dd hd
        refine ⟨true, xm_tk T hr2, fun _ b hb => ?_, fun e => by cases e⟩
        walk_at "go"
        exact q2 _ st (k.trans (Keep.of (Same.new hd)) (.inl rfl))
end
end K04

set_option Elab.async false
set_option linter.all false
set_option maxRecDepth 100000
set_option maxHeartbeats 4000000
namespace K04
open PySem PySem.Spec PyProof.Rows L2 HX WB
local macro_rules | `(tactic| walk_at "side") => `(tactic| first
  | assumption
  | rfl
  | (show (0 : Int) < _; omega)
  | (unfold CDiv; omega)
  | (unfold CMul; omega)
  | (unfold CPow; omega)
  | (rw [sizeLine_eq]; omega)
  | omega)
local macro_rules | `(tactic| walk_at "e") => `(tactic| first
  | ((with_reducible apply i_var); exact rfl)
  | (with_reducible apply i_c)
  | (with_reducible apply i_op)
  | (with_reducible apply i_un)
  | (with_reducible apply i_rI0)
  | ((with_reducible apply i_rI); (case c => walk_at "side"))
  | (with_reducible apply i_rGe)
  | (with_reducible apply i_rGt)
  | (with_reducible apply i_rU)
  | (with_reducible apply i_rEqI)
  | (with_reducible apply i_rNeI)
  | (with_reducible apply i_rEqS)
  | (with_reducible apply i_rNeS)
  | (with_reducible apply i_rEqB)
  | (with_reducible apply i_rNeB)
  | (with_reducible apply i_rIsN)
  | (with_reducible apply i_rNotN)
  | (with_reducible apply i_rInS)
  | (with_reducible apply i_rNotInS)
  | ((with_reducible apply i_catS); (case c => walk_at "side"))
  | (with_reducible apply i_tcb)
  | (with_reducible apply i_nil)
  | (with_reducible apply i_cons)
  | ((with_reducible apply i_lenS); (case c => walk_at "side"))
  | ((with_reducible apply i_lenL); assumption)
  | (with_reducible apply i_abs)
  | (with_reducible apply i_max2)
  | (with_reducible apply i_min2)
  | ((with_reducible apply i_strI); (case c => walk_at "side"))
  | (with_reducible apply i_intB)
  | (with_reducible apply i_test)
  | (with_reducible apply i_tB)
  | (with_reducible apply i_kB)
  | (with_reducible apply i_and)
  | (with_reducible apply i_or)
  | (with_reducible apply i_not)
  | (with_reducible apply i_if)
  | (with_reducible apply i_andV)
  | (with_reducible apply i_orV)
  | (with_reducible apply i_notV)
  | (with_reducible apply i_kAndV)
  | (with_reducible apply i_kOrV)
  | (with_reducible apply i_kNotV)
  | (with_reducible apply i_chain)
  | (with_reducible apply i_kChain)
  | (with_reducible apply i_drop)
  | (with_reducible apply i_ret)
  | (with_reducible apply i_retN)
  | (with_reducible apply i_ifS)
  | (with_reducible apply i_asg)
  | (with_reducible apply i_gName)
  | (with_reducible apply i_for)
  | (with_reducible apply i_lc)
  | (with_reducible apply i_iList)
  | (with_reducible apply i_iTup)
  | (with_reducible apply i_iStr)
  | (with_reducible apply i_kStrI)
  | (with_reducible apply i_lst)
  | (with_reducible apply i_tup)
  | (with_reducible apply i_call)
  | (with_reducible apply i_m1)
  | (with_reducible apply i_kStr)
  | (with_reducible apply i_bm)
  | (with_reducible apply i_bm0)
  | (with_reducible apply i_part)
  | (with_reducible apply i_kInt)
  | (with_reducible apply i_noPart)
  | (with_reducible apply i_sl)
  | (with_reducible apply i_range1)
  | (with_reducible apply i_range2)
  | ((with_reducible apply i_kRng1); (case c => walk_at "side"))
  | ((with_reducible apply i_kRng2); (case c => walk_at "side"))
  | (with_reducible apply i_gCons)
  | (with_reducible apply i_gNil)
  | (with_reducible apply i_gSub)
  | (with_reducible apply i_iZip)
  | (with_reducible apply i_yes)
  | (with_reducible apply i_ift)
  | (with_reducible apply i_iff)
  | (with_reducible apply i_nb))
local macro_rules | `(tactic| walk_at "go") => `(tactic| repeat (first | (with_reducible apply i_seq) | (with_reducible apply i_next) | walk_at "e"))
local macro_rules | `(tactic| walk_at "ge") => `(tactic| repeat walk_at "e")
local macro_rules | `(tactic| walk_at "sz") => `(tactic| first | decide | (rw [sizeLine_eq]; simp; done) | (rw [sizeLine_eq]; omega))
local macro_rules | `(tactic| walk_at "side") => `(tactic| (with_reducible exact WB.most_pos))
local macro_rules | `(tactic| walk_at "e") => `(tactic| first
  | ((with_reducible apply i_isT (b := true)); exact rfl)
  | ((with_reducible apply i_isT (b := false)); exact rfl)
  | (with_reducible apply i_fld)
  | ((with_reducible apply i_kFld); (case h => assumption); (case c1 => assumption); (case c2 => assumption); (case e => first | exact lk_number | exact lk_tail | exact lk_head | exact lk_load | exact lk_oneway | exact lk_points | exact lk_ties | exact lk_given))
  | (with_reducible apply i_sfld)
  | ((with_reducible apply i_kSFld); (case h => first | assumption | exact upd_same); (case c1 => assumption); (case c2 => assumption); (case e => exact Nat.le_of_ble_eq_true rfl))
  | (with_reducible apply i_methC)
  | (with_reducible apply i_make)
  | (with_reducible apply i_fldaug)
  | (with_reducible apply i_vals)
  | (with_reducible apply i_items)
  | (with_reducible apply i_dget)
  | (with_reducible apply i_dput)
  | (with_reducible apply i_din)
  | (with_reducible apply i_dnotin)
  | (with_reducible apply i_ddel)
  | (with_reducible apply i_dc)
  | (with_reducible apply i_enum)
  | (with_reducible apply i_ckw))
section
variable {P : Program} {w : World} {K : PySem.W.Frag} {mg : Str → Option Value} {base : Heap}
theorem wb_free {H : Hp} {p l d q : Addr} {w : Wb} (h : WebAt K H p l d w) (e : H q = none) : q ≠ p ∧ q ≠ l ∧ q ≠ d := by
  refine ⟨?_, ?_, ?_⟩
  · rintro rfl
    obtain ⟨_, e2⟩ := h.self
    rw [e2] at e; cases e
  · rintro rfl
    have e2 := h.pts
    rw [e2] at e; cases e
  · rintro rfl
    obtain ⟨_, e2, _⟩ := h.ties
    rw [e2] at e; cases e
/-- lines, or what is none, and what is read -/
def LinesAt (K : PySem.W.Frag) (H : Hp) (v : V) (R : Nat ⊕ Wb) : Prop :=
  (∃ a xs, v = .ref a ∧ H a = some (.lst xs) ∧ (∀ x ∈ xs, LineAt K H x) ∧ xs.length ≤ 100 ∧ R = readV wb0 false 0 xs) ∨ ((∃ n, EVV.HasTy K H v n ∧ kitB n "list" = some false) ∧ R = .inl 0)
theorem LinesAt.same {H H' : Hp} {v : V} {R : Nat ⊕ Wb} (h : LinesAt K H v R) (m : Same H H') : LinesAt K H' v R := by
  rcases h with ⟨a, xs, e, ha, hx, hl, er⟩ | ⟨⟨n, h1, h2⟩, e⟩
  · exact .inl ⟨a, xs, e, m _ _ ha, fun x q => (hx x q).same m, hl, er⟩
  · exact .inr ⟨⟨n, EVV.ty_same h1 m, h2⟩, e⟩
def sp_web_of (K : PySem.W.Frag) : Sp := fun vs H Q E => ∃ v R, vs = [v] ∧ LinesAt K H v R ∧
  (∀ w p l d H', R = .inr w → Same H H' → H p = none → H l = none → H d = none → WebAt K H' p l d w → Wok w → Q (.ref p) H') ∧ (∀ (i : Nat) H', R = .inl i → Same H H' → Raise K (rfv "BadLine" "place" (.int (i : Int))) H' E)
theorem okx_web_of (T : Tx K mg) (J : Js P w K mg base) : FnOk P w K mg base (CX P w) 15 (He.ga K "web_of") T.fd_web_of ["lines"] (sp_web_of K) := by
  refine T.F_web_of.ok sc_web_of (fun vs H Q E h => ?_) (fun cdv A outer s H vs Q E hr h => ?_)
  · obtain ⟨_, _, rfl, _⟩ := h
    rfl
  · obtain ⟨v, R, rfl, hv, q1, q2⟩ := h
    have hu := hu_of hr
    refine ⟨_, (pss_cons (ps_if (pt_not (pt_val (pe_callB call_isi (by rfl) T.b_isinstance (by decide +kernel) (pa_cons (pv 0) (pa_cons (pe_bltn (v := .ty "list") rfl T.b_list (by decide +kernel) rfl) pa_nil))))) (pss_one (ps_raise rfl (takes_of rfl rfl rfl rfl) (EVX.pmk_ini J.i_BadLine (hr.mono (by decide)) (by rfl) T.g_BadLine (pa_cons pe_int pa_nil)))) pss_nil)
      (pss_cons (ps_set (i := 1) sc_web_of.nd rfl (Or.inl rfl) (pe_make0 T.mk_Web (ok_Web_init T) (hr.mono (by decide)) (by rfl) T.g_Web T.k_Web_init .nil pass0))
      (pss_cons (ps_set (i := 2) sc_web_of.nd rfl (Or.inl rfl) pe_bl)
      (pss_cons (ps_for (passes_of rfl) rfl (pi_enum (by rfl) T.b_enumerate (pa_cons (pv 0) pa_nil)) (pg_tup rfl (pgs_cons (pg_name (i := 3) sc_web_of.nd rfl (Or.inl rfl)) (pgs_cons (pg_name (i := 4) sc_web_of.nd rfl (Or.inl rfl)) pgs_nil)))
      (pss_cons (ps_set (i := 5) sc_web_of.nd rfl (Or.inl rfl) (pe_call (ok_words_of T) (hr.mono (by decide)) (by rfl) T.g_words_of T.F_words_of.kp T.k_words_of .nil pass0 (pa_cons (pv 4) pa_nil)))
      (pss_cons (ps_if (PW.pt (pw_or (pt_val (pv 2)) (pw_or1 (pt_not (pt_val (pe_call (ok_stands T J) (hr.mono (by decide)) (by rfl) T.g_stands T.F_stands.kp T.k_stands .nil pass0 (pa_cons (pv 1) (pa_cons (pv 5) pa_nil)))))))) (pss_one (ps_raise rfl (takes_of rfl rfl rfl rfl) (EVX.pmk_ini J.i_BadLine (hr.mono (by decide)) (by rfl) T.g_BadLine (pa_cons (pv 3) pa_nil)))) pss_nil)
      (PSs.nox (pss_one (ps_set (i := 2) sc_web_of.nd rfl (Or.inl rfl) (pe_cmpR op_eq (pe_ix ix_list (pv 5) pe_int (fun _ _ => rfl)) pe_str (nomark _))))))))
      (pss_cons (ps_if (pt_not (pt_val (pv 2))) (pss_one (ps_raise rfl (takes_of rfl rfl rfl rfl) (EVX.pmk_ini J.i_BadLine (hr.mono (by decide)) (by rfl) T.g_BadLine (pa_cons (pe_callB x_lenL (by rfl) T.b_len (by decide +kernel) (pa_cons (pv 0) pa_nil)) pa_nil)))) pss_nil)
      (PSs.nox (pss_one (ps_ret (pv 1))))))))), ?_⟩
    walk_at "go"
    rcases hv with ⟨a, xs, rfl, ha, hx, hlen, rfl⟩ | ⟨⟨tn, tv, tk⟩, rfl⟩
    rotate_left
    · refine EVV.HasTy.isi (n := tn) tv tk ?_
      walk_at "go"
      unfold tMkO
      walk_at "ge"
      exact EVX.i_ini (q2 0 H rfl (Same.refl H))
    refine i_isL ha ?_
    walk_at "go"
    intro x dx hx0 hdx hne
    refine ⟨x, dx, rfl, upd_same, fun l d hl0 hd0 n0 => ?_⟩
    have s1 : Same H (upd (upd H dx (.own x)) x (.ins (He.ga K "Web") dx [])) := Same.mut (Same.new hdx) hx0
    have s2 : Same H (upd (upd (upd (upd (upd H dx (.own x)) x (.ins (He.ga K "Web") dx [])) l (.lst [])) d (.dK [])) x (.ins (He.ga K "Web") dx (webFs l d 0))) := Same.mut (Same.mut (Same.mut s1 (s1.free hl0)) (s1.free hd0)) hx0
    have b0 : WebAt K (upd (upd (upd (upd (upd H dx (.own x)) x (.ins (He.ga K "Web") dx [])) l (.lst [])) d (.dK [])) x (.ins (He.ga K "Web") dx (webFs l d 0))) x l d wb0 := by
      have nl : l ≠ x := fun e => by rw [e, upd_same] at hl0; cases hl0
      have nd : d ≠ x := fun e => by rw [e, upd_same] at hd0; cases hd0
      exact ⟨⟨dx, upd_same⟩, (upd_ne nl).trans ((upd_ne n0).trans upd_same), ⟨[], (upd_ne nd).trans upd_same, .nil⟩⟩
    have fl := s1.free hl0
    have fd := s1.free hd0
    generalize upd (upd (upd (upd (upd H dx (.own x)) x (.ins (He.ga K "Web") dx [])) l (.lst [])) d (.dK [])) x (.ins (He.ga K "Web") dx (webFs l d 0)) = H1 at s2 b0 ⊢
    refine ⟨rfl, ?_⟩
    walk_at "go"
    have ha1 := s2 _ _ ha
    obtain ⟨na1, na2, na3⟩ : a ≠ x ∧ a ≠ l ∧ a ≠ d := ⟨fun e => (by rw [← e, ha] at hx0; cases hx0), fun e => (by rw [← e, ha] at fl; cases fl), fun e => (by rw [← e, ha] at fd; cases fd)⟩
    have back : ∀ {H' : Hp}, Keep H1 H' x l d → Same H H' := fun k' b o e => k' b o (ne_of_none e hx0) (ne_of_none e fl) (ne_of_none e fd) (s2 b o e)
    refine i_kEnum (SqL.of ha1) ?_
    refine for_it walk_enum (fun i σ H' => ∃ w' b, WebAt K H' x l d w' ∧ Wok w' ∧ Keep H1 H' x l d ∧ readV w' b i (xs.drop i) = readV wb0 false 0 xs ∧ ∃ v3 v4 v5, σ = [some (.ref a), some (.ref x), some (.bl b), v3, v4, v5])
      ⟨wb0, false, b0, wok0, Keep.rfl, by rw [List.drop_zero], none, none, none, rfl⟩ (fun i σ H' _ h => by
        obtain ⟨_, _, _, _, k, _⟩ := h
        exact SqL.of (k _ _ na1 na2 na3 ha1)) ?_ ?_
    · rintro i v σ H2 H3 hi ⟨w', b, hw', ok', k', rd, v3, v4, v5, rfl⟩ ⟨T0, u1, u2, rfl, hT, rfl, hu1, hu2⟩
      have hu1 : some (V.int ((i : Nat) : Int)) = some u1 := hu1
      have hu2 : xs[i]? = some u2 := hu2
      rw [List.getElem?_eq_getElem hi] at hu2
      cases hu1; cases hu2
      rw [List.drop_eq_getElem_cons hi] at rd
      have hxi := (hx _ (List.getElem_mem hi)).same (back k')
      generalize xs[i] = u at rd hxi ⊢
      have sT : Same H2 (upd H2 T0 (.tup [.int (i : Nat), u])) := Same.new hT
      walk_at "go"
      refine i_gTup (SqT.of upd_same) rfl ?_
      generalize upd H2 T0 (.tup [.int (i : Nat), u]) = H3 at sT ⊢
      have hw3 := hw'.same sT
      have bad : ∀ H', Keep H1 H' x l d → readV w' b i (u :: xs.drop (i + 1)) = .inl i → Raise K (rfv "BadLine" "place" (.int (i : Int))) H' _ := fun H' k hr' => q2 i H' (rd.symm.trans hr') (back k)
      walk_at "go"
      refine ⟨u, rfl, hxi.same sT, fun H4 wn s4 => ?_, fun ws q0 we hq0 => ?_⟩
      · have k4 : Keep H1 H4 x l d := k'.trans (Keep.of (sT.trans s4)) (.inl rfl)
        cases b with
        | true =>
          walk_at "go"
          unfold tMkO
          walk_at "ge"
          exact EVX.i_ini (bad H4 k4 read_over)
        | false =>
          walk_at "go"
          refine ⟨x, .non, rfl, .inl ⟨rfl, ?_⟩⟩
          walk_at "go"
          unfold tMkO
          walk_at "ge"
          exact EVX.i_ini (bad H4 k4 (read_bad (by unfold stepV; rw [wn])))
      · obtain ⟨f1, f2, f3⟩ := wb_free hw3 hq0
        have s4 : Same H3 (upd H3 q0 (.lst (ws.map V.str))) := Same.new hq0
        have hw4 := hw3.same s4
        have eq4 : (upd H3 q0 (.lst (ws.map V.str))) q0 = some (.lst (ws.map V.str)) := upd_same
        generalize upd H3 q0 (.lst (ws.map V.str)) = H4 at s4 hw4 eq4 ⊢
        have k4 : Keep H1 H4 x l d := k'.trans (Keep.of (sT.trans s4)) (.inl rfl)
        cases b with
        | true =>
          walk_at "go"
          unfold tMkO
          walk_at "ge"
          exact EVX.i_ini (bad H4 k4 read_over)
        | false =>
          obtain ⟨z, rst, ez, hl⟩ : ∃ z rst, ws = z :: rst ∧ ∀ y ∈ ws, y.length ≤ 1000 := by
            rcases hxi with ⟨t, rfl, _, lt⟩ | ⟨nz, _⟩
            · have we : (if ("" : Str) ∈ Txt.split t " " then none else some (Txt.split t " ")) = some ws := we
              split at we
              · cases we
              · cases we
                cases q : Txt.split t " " with
                | nil => exact absurd q (split_ne t)
                | cons z rst => exact ⟨z, rst, rfl, fun y hy => Nat.le_trans (split_len (q ▸ hy)) lt⟩
            · rw [wordsV_no nz] at we
              cases we
          subst ez
          walk_at "go"
          refine ⟨x, _, rfl, .inr ⟨l, d, w', q0, z, rst, rfl, hw4, ok', f1, f2, f3, eq4, hl, fun ln H5 st h5 k5 => ?_, fun H5 st k5 => ?_⟩⟩
          · have eq5 := k5 _ _ f1 f2 f3 eq4
            have stp : stepV w' u = some (ln.does w', ln.isGv) := by
              unfold stepV
              rw [we]
              show (stand w' (z :: rst)).map _ = _
              rw [st]
              rfl
            have eg : decide (z = "given") = ln.isGv := by
              have e := (stand_some st).1
              cases ln with
              | pt y => rw [← (List.cons.inj e).1]; exact show decide (("point" : Str) = "given") = false by decide +kernel
              | tie n u => rw [← (List.cons.inj e).1]; exact show decide (kindS u.o = "given") = false by cases u.o <;> decide +kernel
              | gv g => rw [← (List.cons.inj e).1]; exact show decide (("given" : Str) = "given") = true by decide +kernel
            have o := (stand_some st).2.1
            walk_at "go"
            refine i_ixL (SqL.of eq5) (atI_nat (j := 0) rfl) ?_
            have hlz := hl z (by simp)
            walk_at "go"
            rw [eg]
            exact ⟨ln.does w', ln.isGv, h5, Ln.does_ok ok' o, k4.trans k5 (.inl rfl), (read_next stp).symm.trans rd, _, _, _, rfl⟩
          · walk_at "go"
            unfold tMkO
            walk_at "ge"
            refine EVX.i_ini (bad H5 (k4.trans k5 (.inl rfl)) (read_bad ?_))
            unfold stepV
            rw [we]
            show (stand w' (z :: rst)).map _ = _
            rw [st]
            rfl
    · rintro σ H2 ⟨w', b, hw', ok', k', rd, v3, v4, v5, rfl⟩
      rw [List.drop_length] at rd
      have ha2 := k' _ _ na1 na2 na3 ha1
      cases b with
      | false =>
        walk_at "go"
        unfold tMkO
        walk_at "ge"
        refine i_lenL (SqL.of ha2) ?_
        walk_at "ge"
        exact EVX.i_ini (q2 _ H2 (rd.symm.trans read_short) (back k'))
      | true =>
        walk_at "go"
        exact q1 w' x l d H2 (rd.symm.trans read_end) (back k') hx0 fl fd hw' ok'
end
end K04

set_option Elab.async false
set_option linter.all false
set_option maxRecDepth 100000
set_option maxHeartbeats 4000000
namespace K04
open PySem PySem.Spec PyProof.Rows L2 HX WB
local macro_rules | `(tactic| walk_at "side") => `(tactic| first
  | assumption
  | rfl
  | (show (0 : Int) < _; omega)
  | (unfold CDiv; omega)
  | (unfold CMul; omega)
  | (unfold CPow; omega)
  | (rw [sizeLine_eq]; omega)
  | omega)
local macro_rules | `(tactic| walk_at "e") => `(tactic| first
  | ((with_reducible apply i_var); exact rfl)
  | (with_reducible apply i_c)
  | (with_reducible apply i_op)
  | (with_reducible apply i_un)
  | (with_reducible apply i_rI0)
  | ((with_reducible apply i_rI); (case c => walk_at "side"))
  | (with_reducible apply i_rGe)
  | (with_reducible apply i_rGt)
  | (with_reducible apply i_rU)
  | (with_reducible apply i_rEqI)
  | (with_reducible apply i_rNeI)
  | (with_reducible apply i_rEqS)
  | (with_reducible apply i_rNeS)
  | (with_reducible apply i_rEqB)
  | (with_reducible apply i_rNeB)
  | (with_reducible apply i_rIsN)
  | (with_reducible apply i_rNotN)
  | (with_reducible apply i_rInS)
  | (with_reducible apply i_rNotInS)
  | ((with_reducible apply i_catS); (case c => walk_at "side"))
  | (with_reducible apply i_tcb)
  | (with_reducible apply i_nil)
  | (with_reducible apply i_cons)
  | ((with_reducible apply i_lenS); (case c => walk_at "side"))
  | ((with_reducible apply i_lenL); assumption)
  | (with_reducible apply i_abs)
  | (with_reducible apply i_max2)
  | (with_reducible apply i_min2)
  | ((with_reducible apply i_strI); (case c => walk_at "side"))
  | (with_reducible apply i_intB)
  | (with_reducible apply i_test)
  | (with_reducible apply i_tB)
  | (with_reducible apply i_kB)
  | (with_reducible apply i_and)
  | (with_reducible apply i_or)
  | (with_reducible apply i_not)
  | (with_reducible apply i_if)
  | (with_reducible apply i_andV)
  | (with_reducible apply i_orV)
  | (with_reducible apply i_notV)
  | (with_reducible apply i_kAndV)
  | (with_reducible apply i_kOrV)
  | (with_reducible apply i_kNotV)
  | (with_reducible apply i_chain)
  | (with_reducible apply i_kChain)
  | (with_reducible apply i_drop)
  | (with_reducible apply i_ret)
  | (with_reducible apply i_retN)
  | (with_reducible apply i_ifS)
  | (with_reducible apply i_asg)
  | (with_reducible apply i_gName)
  | (with_reducible apply i_for)
  | (with_reducible apply i_lc)
  | (with_reducible apply i_iList)
  | (with_reducible apply i_iTup)
  | (with_reducible apply i_iStr)
  | (with_reducible apply i_kStrI)
  | (with_reducible apply i_lst)
  | (with_reducible apply i_tup)
  | (with_reducible apply i_call)
  | (with_reducible apply i_m1)
  | (with_reducible apply i_kStr)
  | (with_reducible apply i_bm)
  | (with_reducible apply i_bm0)
  | (with_reducible apply i_part)
  | (with_reducible apply i_kInt)
  | (with_reducible apply i_noPart)
  | (with_reducible apply i_sl)
  | (with_reducible apply i_range1)
  | (with_reducible apply i_range2)
  | ((with_reducible apply i_kRng1); (case c => walk_at "side"))
  | ((with_reducible apply i_kRng2); (case c => walk_at "side"))
  | (with_reducible apply i_gCons)
  | (with_reducible apply i_gNil)
  | (with_reducible apply i_gSub)
  | (with_reducible apply i_iZip)
  | (with_reducible apply i_yes)
  | (with_reducible apply i_ift)
  | (with_reducible apply i_iff)
  | (with_reducible apply i_nb))
local macro_rules | `(tactic| walk_at "go") => `(tactic| repeat (first | (with_reducible apply i_seq) | (with_reducible apply i_next) | walk_at "e"))
local macro_rules | `(tactic| walk_at "ge") => `(tactic| repeat walk_at "e")
local macro_rules | `(tactic| walk_at "sz") => `(tactic| first | decide | (rw [sizeLine_eq]; simp; done) | (rw [sizeLine_eq]; omega))
local macro_rules | `(tactic| walk_at "side") => `(tactic| (with_reducible exact WB.most_pos))
local macro_rules | `(tactic| walk_at "e") => `(tactic| first
  | ((with_reducible apply i_isT (b := true)); exact rfl)
  | ((with_reducible apply i_isT (b := false)); exact rfl)
  | (with_reducible apply i_fld)
  | ((with_reducible apply i_kFld); (case h => assumption); (case c1 => assumption); (case c2 => assumption); (case e => first | exact lk_number | exact lk_tail | exact lk_head | exact lk_load | exact lk_oneway | exact lk_points | exact lk_ties | exact lk_given))
  | (with_reducible apply i_sfld)
  | ((with_reducible apply i_kSFld); (case h => first | assumption | exact upd_same); (case c1 => assumption); (case c2 => assumption); (case e => exact Nat.le_of_ble_eq_true rfl))
  | (with_reducible apply i_methC)
  | (with_reducible apply i_make)
  | (with_reducible apply i_fldaug)
  | (with_reducible apply i_vals)
  | (with_reducible apply i_items)
  | (with_reducible apply i_dget)
  | (with_reducible apply i_dput)
  | (with_reducible apply i_din)
  | (with_reducible apply i_dnotin)
  | (with_reducible apply i_ddel)
  | (with_reducible apply i_dc)
  | (with_reducible apply i_enum)
  | (with_reducible apply i_ckw))
/-- the errors that may be met, by their names -/
def isEr (D : Str) : Prop := D ∈ rcs
structure ErrAt (K : PySem.W.Frag) (H : Hp) (a : Addr) (D : Str) (d : Option Addr) : Prop where
  at_ : H a = some (EVV.ErrO (.ref (He.ga K D)) d a)
  dict : EVV.DictOk H d
theorem kinds {K : PySem.W.Frag} (h : errs K = true) {D : Str} (hD : isEr D) : EVV.Kind K D ecs := by
  unfold errs at h
  rw [Bool.and_eq_true] at h
  have := List.all_eq_true.mp h.1 D hD
  rw [Bool.and_eq_true] at this
  exact EVV.kind_ok this.1 this.2
theorem i_isErr {K : PySem.W.Frag} {H : Hp} {Q : VK} {a : Addr} {D c : Str} {d : Option Addr} (e : ErrAt K H a D d) (k : EVV.Kind K D ecs) (hc : c ∈ ecs) (q : Q (.bl (decide (c = D))) H) : EVV.rIsE K [.ref a, .ref (He.ga K c)] H Q :=
  EVV.i_isEv (.own _) e.at_ e.dict k.C (k.own c hc) q
theorem i_isVal {K : PySem.W.Frag} {H : Hp} {Q : VK} {a : Addr} {D : Str} {d : Option Addr} (e : ErrAt K H a D d) (k : EVV.Kind K D ecs) (q : Q (.bl true) H) : EVV.rIsE K [.ref a, .ty "ValueError"] H Q :=
  EVV.i_isEv (.ty _) e.at_ e.dict k.C k.ve q
theorem ErrAt.same {K : PySem.W.Frag} {H H' : Hp} {a : Addr} {D : Str} {d : Option Addr} (h : ErrAt K H a D d) (m : Same H H') : ErrAt K H' a D d := ⟨m _ _ h.at_, by
  have := h.dict
  cases d with
  | none => trivial
  | some dd =>
    obtain ⟨fs, e⟩ := this
    exact ⟨fs, m _ _ e⟩⟩
structure WdL (H : Hp) (D : Str) (l : Addr) (ws : List (Str × Str)) : Prop where
  ex : ∃ as : List Addr, H l = some (.lst (as.map V.ref)) ∧ Two (fun a (w : Str × Str) => H a = some (.tup [.str w.1, .bl (decide (w.2 = D))])) as ws
theorem WdL.same {H H' : Hp} {D : Str} {l : Addr} {ws : List (Str × Str)} (h : WdL H D l ws) (m : Same H H') : WdL H' D l ws := by
  obtain ⟨as, e, t⟩ := h.ex
  exact ⟨as, m _ _ e, Two.mono t fun _ _ e => m _ _ e⟩
theorem WdL.cat {H : Hp} {D : Str} {l b : Addr} {ws us : List (Str × Str)} {Q : VK} (h : WdL H D l ws) (g : WdL H D b us) (c : ws.length + us.length ≤ 100)
    (q : ∀ p, H p = none → ∀ H', Same H H' → WdL H' D p (ws ++ us) → Q (.ref p) H') : rCat (.ref l) (.ref b) H Q := by
  obtain ⟨as, e, t⟩ := h.ex
  obtain ⟨bs, e2, t2⟩ := g.ex
  have l1 := Two.len t
  have l2 := Two.len t2
  refine i_cat e e2 (by rw [List.length_map, List.length_map, sizeLine_eq]; omega) fun p hp => ?_
  have s : Same H (upd H p (.lst (as.map V.ref ++ bs.map V.ref))) := Same.new hp
  exact q p hp _ s ⟨as ++ bs, by rw [upd_same, List.map_append], Two.app (Two.mono t fun _ _ e => s _ _ e) (Two.mono t2 fun _ _ e => s _ _ e)⟩
def wsE : List (Str × Str) := [("name", "BadName"), ("twice", "Twice"), ("many", "TooMany"), ("point", "NoPoint"), ("tie", "BadTie"), ("load", "BadLoad"), ("no tie", "NoTie"), ("ties", "HasTies"), ("line", "BadLine"), ("same", "SamePoint"), ("text", "BadText"), ("bundle", "BadBundle"), ("state", "NoState"), ("deed", "NoDeed"), ("forest", "BadForest")]
def wordE (D : Str) : Str := ((wsE.find? fun w => decide (w.2 = D)).map (·.1)).getD ""
theorem word_one {D : Str} (h : isEr D) : (wsE.filter fun w => decide (w.2 = D)) = [(wordE D, D)] := by
  unfold isEr rcs at h
  simp only [List.mem_cons, List.not_mem_nil, or_false] at h
  subst h
  decide +kernel
section
variable {P : Program} {w : World} {K : PySem.W.Frag} {mg : Str → Option Value} {base : Heap}
def sp_word (K : PySem.W.Frag) : Sp := fun vs H Q _ => ∃ a D d, vs = [.ref a] ∧ isEr D ∧ ErrAt K H a D d ∧ errs K = true ∧ ∀ H', Same H H' → Q (.str (wordE D)) H'
theorem ok_law_word (T : Tx K mg) : FnOk P w K mg base CX0 1 (He.ga K "_law_word") T.fd_law_word ["_law_e"] (sp_word K) := by
  refine T.F_law_word.ok sc_law_word (fun vs H Q E h => ?_) (fun cdv A outer s H vs Q E hr h => ?_)
  · obtain ⟨_, _, _, rfl, _⟩ := h
    rfl
  · obtain ⟨a, D, d, rfl, hD, ea, he, q⟩ := h
    have k := kinds he hD
    refine ⟨_, PSs.nox (pss_cons (ps_set (i := 1) sc_law_word.nd rfl (Or.inl rfl) (pe_lst (pa_cons (pe_tup (pa_cons pe_str (pa_cons (pe_callB EVV.call_isE (by rfl) T.b_isinstance (by decide +kernel) (pa_cons (pv 0) (pa_cons (pe_glob (v := .ref (He.ga K "BadName")) rfl T.g_BadName rfl) pa_nil))) pa_nil))) (pa_cons (pe_tup (pa_cons pe_str (pa_cons (pe_callB EVV.call_isE (by rfl) T.b_isinstance (by decide +kernel) (pa_cons (pv 0) (pa_cons (pe_glob (v := .ref (He.ga K "Twice")) rfl T.g_Twice rfl) pa_nil))) pa_nil))) (pa_cons (pe_tup (pa_cons pe_str (pa_cons (pe_callB EVV.call_isE (by rfl) T.b_isinstance (by decide +kernel) (pa_cons (pv 0) (pa_cons (pe_glob (v := .ref (He.ga K "TooMany")) rfl T.g_TooMany rfl) pa_nil))) pa_nil))) pa_nil)))))
      (pss_cons (ps_set (i := 1) sc_law_word.nd rfl (Or.inl rfl) (pe_op op_cat (pv 1) (pe_lst (pa_cons (pe_tup (pa_cons pe_str (pa_cons (pe_callB EVV.call_isE (by rfl) T.b_isinstance (by decide +kernel) (pa_cons (pv 0) (pa_cons (pe_glob (v := .ref (He.ga K "NoPoint")) rfl T.g_NoPoint rfl) pa_nil))) pa_nil))) (pa_cons (pe_tup (pa_cons pe_str (pa_cons (pe_callB EVV.call_isE (by rfl) T.b_isinstance (by decide +kernel) (pa_cons (pv 0) (pa_cons (pe_glob (v := .ref (He.ga K "BadTie")) rfl T.g_BadTie rfl) pa_nil))) pa_nil))) pa_nil)))))
      (pss_cons (ps_set (i := 1) sc_law_word.nd rfl (Or.inl rfl) (pe_op op_cat (pv 1) (pe_lst (pa_cons (pe_tup (pa_cons pe_str (pa_cons (pe_callB EVV.call_isE (by rfl) T.b_isinstance (by decide +kernel) (pa_cons (pv 0) (pa_cons (pe_glob (v := .ref (He.ga K "BadLoad")) rfl T.g_BadLoad rfl) pa_nil))) pa_nil))) (pa_cons (pe_tup (pa_cons pe_str (pa_cons (pe_callB EVV.call_isE (by rfl) T.b_isinstance (by decide +kernel) (pa_cons (pv 0) (pa_cons (pe_glob (v := .ref (He.ga K "NoTie")) rfl T.g_NoTie rfl) pa_nil))) pa_nil))) pa_nil)))))
      (pss_cons (ps_set (i := 1) sc_law_word.nd rfl (Or.inl rfl) (pe_op op_cat (pv 1) (pe_lst (pa_cons (pe_tup (pa_cons pe_str (pa_cons (pe_callB EVV.call_isE (by rfl) T.b_isinstance (by decide +kernel) (pa_cons (pv 0) (pa_cons (pe_glob (v := .ref (He.ga K "HasTies")) rfl T.g_HasTies rfl) pa_nil))) pa_nil))) (pa_cons (pe_tup (pa_cons pe_str (pa_cons (pe_callB EVV.call_isE (by rfl) T.b_isinstance (by decide +kernel) (pa_cons (pv 0) (pa_cons (pe_glob (v := .ref (He.ga K "BadLine")) rfl T.g_BadLine rfl) pa_nil))) pa_nil))) pa_nil)))))
      (pss_cons (ps_set (i := 1) sc_law_word.nd rfl (Or.inl rfl) (pe_op op_cat (pv 1) (pe_lst (pa_cons (pe_tup (pa_cons pe_str (pa_cons (pe_callB EVV.call_isE (by rfl) T.b_isinstance (by decide +kernel) (pa_cons (pv 0) (pa_cons (pe_glob (v := .ref (He.ga K "SamePoint")) rfl T.g_SamePoint rfl) pa_nil))) pa_nil))) (pa_cons (pe_tup (pa_cons pe_str (pa_cons (pe_callB EVV.call_isE (by rfl) T.b_isinstance (by decide +kernel) (pa_cons (pv 0) (pa_cons (pe_glob (v := .ref (He.ga K "BadText")) rfl T.g_BadText rfl) pa_nil))) pa_nil))) pa_nil)))))
      (pss_cons (ps_set (i := 1) sc_law_word.nd rfl (Or.inl rfl) (pe_op op_cat (pv 1) (pe_lst (pa_cons (pe_tup (pa_cons pe_str (pa_cons (pe_callB EVV.call_isE (by rfl) T.b_isinstance (by decide +kernel) (pa_cons (pv 0) (pa_cons (pe_glob (v := .ref (He.ga K "BadBundle")) rfl T.g_BadBundle rfl) pa_nil))) pa_nil))) (pa_cons (pe_tup (pa_cons pe_str (pa_cons (pe_callB EVV.call_isE (by rfl) T.b_isinstance (by decide +kernel) (pa_cons (pv 0) (pa_cons (pe_glob (v := .ref (He.ga K "NoState")) rfl T.g_NoState rfl) pa_nil))) pa_nil))) pa_nil)))))
      (pss_cons (ps_set (i := 1) sc_law_word.nd rfl (Or.inl rfl) (pe_op op_cat (pv 1) (pe_lst (pa_cons (pe_tup (pa_cons pe_str (pa_cons (pe_callB EVV.call_isE (by rfl) T.b_isinstance (by decide +kernel) (pa_cons (pv 0) (pa_cons (pe_glob (v := .ref (He.ga K "NoDeed")) rfl T.g_NoDeed rfl) pa_nil))) pa_nil))) (pa_cons (pe_tup (pa_cons pe_str (pa_cons (pe_callB EVV.call_isE (by rfl) T.b_isinstance (by decide +kernel) (pa_cons (pv 0) (pa_cons (pe_glob (v := .ref (He.ga K "BadForest")) rfl T.g_BadForest rfl) pa_nil))) pa_nil))) pa_nil)))))
      (pss_cons (ps_setLc (i := 2) (own := [("_law_word_here", 3), ("_law_good_here", 4)]) (by rfl) sc_law_word.nd rfl rfl (sw_true rfl rfl rfl (by decide +kernel)) (pi_list (pv 1)) (blkOk_by (own := [("_law_word_here", 3), ("_law_good_here", 4)]) (N := N_law_word) (sc := defScope s_law_word) (by decide +kernel)) (fun _ _ _ _ _ => (pg_tupK (n := 2) K rfl rfl (pgs_cons (pg_name (i := 3) sc_law_word.nd rfl (Or.inl rfl)) (pgs_cons (pg_name (i := 4) sc_law_word.nd rfl (Or.inl rfl)) pgs_nil)))) (fun _ _ _ _ _ => (pts_one (pt_val (pv 4)))) (fun _ _ _ _ _ => (pv 3)))
      (pss_cons (ps_if (pt_cmpR op_isN1 (pv 0) pe_non (nomark _)) (pss_one (ps_ret pe_str)) pss_nil)
      (pss_one (ps_ret (pe_ifExp (PW.pt (pw_and (pt_cmpR op_eq (pe_callB x_lenL (by rfl) T.b_len (by decide +kernel) (pa_cons (pv 2) pa_nil)) pe_int (nomark _)) (pw_and1 (pt_val (pe_callB EVV.call_isE (by rfl) T.b_isinstance (by decide +kernel) (pa_cons (pv 0) (pa_cons (pe_bltn (v := .ty "ValueError") rfl T.b_ValueError (by decide +kernel) rfl) pa_nil))))))) (pe_ix ix_list (pv 2) pe_int (fun _ _ => rfl)) pe_str)))))))))))), ?_⟩
    walk_at "go"
    refine i_isErr ea k (by decide) ?_
    walk_at "go"
    refine ⟨by walk_at "sz", fun t1 ht1 => ?_⟩
    have s1 : Same H (upd H t1 (.tup [.str "name", .bl (decide (("BadName" : Str) = D))])) := Same.new ht1
    have e1 : (upd H t1 (.tup [.str "name", .bl (decide (("BadName" : Str) = D))])) t1 = some (.tup [.str "name", .bl (decide (("BadName" : Str) = D))]) := upd_same
    generalize upd H t1 (.tup [.str "name", .bl (decide (("BadName" : Str) = D))]) = G1 at s1 e1 ⊢
    have ea := ea.same s1
    have sa := s1
    walk_at "go"
    refine i_isErr ea k (by decide) ?_
    walk_at "go"
    refine ⟨by walk_at "sz", fun t2 ht2 => ?_⟩
    have s2 : Same G1 (upd G1 t2 (.tup [.str "twice", .bl (decide (("Twice" : Str) = D))])) := Same.new ht2
    have e2 : (upd G1 t2 (.tup [.str "twice", .bl (decide (("Twice" : Str) = D))])) t2 = some (.tup [.str "twice", .bl (decide (("Twice" : Str) = D))]) := upd_same
    generalize upd G1 t2 (.tup [.str "twice", .bl (decide (("Twice" : Str) = D))]) = G2 at s2 e2 ⊢
    have e1 := s2 _ _ e1
    have ea := ea.same s2
    have sa := sa.trans s2
    walk_at "go"
    refine i_isErr ea k (by decide) ?_
    walk_at "go"
    refine ⟨by walk_at "sz", fun t3 ht3 => ?_⟩
    have s3 : Same G2 (upd G2 t3 (.tup [.str "many", .bl (decide (("TooMany" : Str) = D))])) := Same.new ht3
    have e3 : (upd G2 t3 (.tup [.str "many", .bl (decide (("TooMany" : Str) = D))])) t3 = some (.tup [.str "many", .bl (decide (("TooMany" : Str) = D))]) := upd_same
    generalize upd G2 t3 (.tup [.str "many", .bl (decide (("TooMany" : Str) = D))]) = G3 at s3 e3 ⊢
    have e1 := s3 _ _ e1
    have e2 := s3 _ _ e2
    have ea := ea.same s3
    have sa := sa.trans s3
    walk_at "go"
    refine ⟨by walk_at "sz", fun l4 hl4 => ?_⟩
    have s4 : Same G3 (upd G3 l4 (.lst [.ref t1, .ref t2, .ref t3])) := Same.new hl4
    have nw : WdL (upd G3 l4 (.lst [.ref t1, .ref t2, .ref t3])) D l4 [("name", "BadName"), ("twice", "Twice"), ("many", "TooMany")] := ⟨[t1, t2, t3], upd_same, .cons (s4 _ _ e1) (.cons (s4 _ _ e2) (.cons (s4 _ _ e3) .nil))⟩
    generalize upd G3 l4 (.lst [.ref t1, .ref t2, .ref t3]) = G4 at s4 nw ⊢
    have ea := ea.same s4
    have sa := sa.trans s4
    have wd := nw
    walk_at "go"
    refine i_isErr ea k (by decide) ?_
    walk_at "go"
    refine ⟨by walk_at "sz", fun t5 ht5 => ?_⟩
    have s5 : Same G4 (upd G4 t5 (.tup [.str "point", .bl (decide (("NoPoint" : Str) = D))])) := Same.new ht5
    have e5 : (upd G4 t5 (.tup [.str "point", .bl (decide (("NoPoint" : Str) = D))])) t5 = some (.tup [.str "point", .bl (decide (("NoPoint" : Str) = D))]) := upd_same
    generalize upd G4 t5 (.tup [.str "point", .bl (decide (("NoPoint" : Str) = D))]) = G5 at s5 e5 ⊢
    have wd := wd.same s5
    have ea := ea.same s5
    have sa := sa.trans s5
    walk_at "go"
    refine i_isErr ea k (by decide) ?_
    walk_at "go"
    refine ⟨by walk_at "sz", fun t6 ht6 => ?_⟩
    have s6 : Same G5 (upd G5 t6 (.tup [.str "tie", .bl (decide (("BadTie" : Str) = D))])) := Same.new ht6
    have e6 : (upd G5 t6 (.tup [.str "tie", .bl (decide (("BadTie" : Str) = D))])) t6 = some (.tup [.str "tie", .bl (decide (("BadTie" : Str) = D))]) := upd_same
    generalize upd G5 t6 (.tup [.str "tie", .bl (decide (("BadTie" : Str) = D))]) = G6 at s6 e6 ⊢
    have e5 := s6 _ _ e5
    have wd := wd.same s6
    have ea := ea.same s6
    have sa := sa.trans s6
    walk_at "go"
    refine ⟨by walk_at "sz", fun l7 hl7 => ?_⟩
    have s7 : Same G6 (upd G6 l7 (.lst [.ref t5, .ref t6])) := Same.new hl7
    have nw : WdL (upd G6 l7 (.lst [.ref t5, .ref t6])) D l7 [("point", "NoPoint"), ("tie", "BadTie")] := ⟨[t5, t6], upd_same, .cons (s7 _ _ e5) (.cons (s7 _ _ e6) .nil)⟩
    generalize upd G6 l7 (.lst [.ref t5, .ref t6]) = G7 at s7 nw ⊢
    have wd := wd.same s7
    have ea := ea.same s7
    have sa := sa.trans s7
    walk_at "go"
    refine wd.cat nw (by decide) fun l8 hl8 G8 s8 nw2 => ?_
    have wd := nw2
    have ea := ea.same s8
    have sa := sa.trans s8
    walk_at "go"
    refine i_isErr ea k (by decide) ?_
    walk_at "go"
    refine ⟨by walk_at "sz", fun t9 ht9 => ?_⟩
    have s9 : Same G8 (upd G8 t9 (.tup [.str "load", .bl (decide (("BadLoad" : Str) = D))])) := Same.new ht9
    have e9 : (upd G8 t9 (.tup [.str "load", .bl (decide (("BadLoad" : Str) = D))])) t9 = some (.tup [.str "load", .bl (decide (("BadLoad" : Str) = D))]) := upd_same
    generalize upd G8 t9 (.tup [.str "load", .bl (decide (("BadLoad" : Str) = D))]) = G9 at s9 e9 ⊢
    have wd := wd.same s9
    have ea := ea.same s9
    have sa := sa.trans s9
    walk_at "go"
    refine i_isErr ea k (by decide) ?_
    walk_at "go"
    refine ⟨by walk_at "sz", fun t10 ht10 => ?_⟩
    have s10 : Same G9 (upd G9 t10 (.tup [.str "no tie", .bl (decide (("NoTie" : Str) = D))])) := Same.new ht10
    have e10 : (upd G9 t10 (.tup [.str "no tie", .bl (decide (("NoTie" : Str) = D))])) t10 = some (.tup [.str "no tie", .bl (decide (("NoTie" : Str) = D))]) := upd_same
    generalize upd G9 t10 (.tup [.str "no tie", .bl (decide (("NoTie" : Str) = D))]) = G10 at s10 e10 ⊢
    have e9 := s10 _ _ e9
    have wd := wd.same s10
    have ea := ea.same s10
    have sa := sa.trans s10
    walk_at "go"
    refine ⟨by walk_at "sz", fun l11 hl11 => ?_⟩
    have s11 : Same G10 (upd G10 l11 (.lst [.ref t9, .ref t10])) := Same.new hl11
    have nw : WdL (upd G10 l11 (.lst [.ref t9, .ref t10])) D l11 [("load", "BadLoad"), ("no tie", "NoTie")] := ⟨[t9, t10], upd_same, .cons (s11 _ _ e9) (.cons (s11 _ _ e10) .nil)⟩
    generalize upd G10 l11 (.lst [.ref t9, .ref t10]) = G11 at s11 nw ⊢
    have wd := wd.same s11
    have ea := ea.same s11
    have sa := sa.trans s11
    walk_at "go"
    refine wd.cat nw (by decide) fun l12 hl12 G12 s12 nw2 => ?_
    have wd := nw2
    have ea := ea.same s12
    have sa := sa.trans s12
    walk_at "go"
    refine i_isErr ea k (by decide) ?_
    walk_at "go"
    refine ⟨by walk_at "sz", fun t13 ht13 => ?_⟩
    have s13 : Same G12 (upd G12 t13 (.tup [.str "ties", .bl (decide (("HasTies" : Str) = D))])) := Same.new ht13
    have e13 : (upd G12 t13 (.tup [.str "ties", .bl (decide (("HasTies" : Str) = D))])) t13 = some (.tup [.str "ties", .bl (decide (("HasTies" : Str) = D))]) := upd_same
    generalize upd G12 t13 (.tup [.str "ties", .bl (decide (("HasTies" : Str) = D))]) = G13 at s13 e13 ⊢
    have wd := wd.same s13
    have ea := ea.same s13
    have sa := sa.trans s13
    walk_at "go"
    refine i_isErr ea k (by decide) ?_
    walk_at "go"
    refine ⟨by walk_at "sz", fun t14 ht14 => ?_⟩
    have s14 : Same G13 (upd G13 t14 (.tup [.str "line", .bl (decide (("BadLine" : Str) = D))])) := Same.new ht14
    have e14 : (upd G13 t14 (.tup [.str "line", .bl (decide (("BadLine" : Str) = D))])) t14 = some (.tup [.str "line", .bl (decide (("BadLine" : Str) = D))]) := upd_same
    generalize upd G13 t14 (.tup [.str "line", .bl (decide (("BadLine" : Str) = D))]) = G14 at s14 e14 ⊢
    have e13 := s14 _ _ e13
    have wd := wd.same s14
    have ea := ea.same s14
    have sa := sa.trans s14
    walk_at "go"
    refine ⟨by walk_at "sz", fun l15 hl15 => ?_⟩
    have s15 : Same G14 (upd G14 l15 (.lst [.ref t13, .ref t14])) := Same.new hl15
    have nw : WdL (upd G14 l15 (.lst [.ref t13, .ref t14])) D l15 [("ties", "HasTies"), ("line", "BadLine")] := ⟨[t13, t14], upd_same, .cons (s15 _ _ e13) (.cons (s15 _ _ e14) .nil)⟩
    generalize upd G14 l15 (.lst [.ref t13, .ref t14]) = G15 at s15 nw ⊢
    have wd := wd.same s15
    have ea := ea.same s15
    have sa := sa.trans s15
    walk_at "go"
    refine wd.cat nw (by decide) fun l16 hl16 G16 s16 nw2 => ?_
    have wd := nw2
    have ea := ea.same s16
    have sa := sa.trans s16
    walk_at "go"
    refine i_isErr ea k (by decide) ?_
    walk_at "go"
    refine ⟨by walk_at "sz", fun t17 ht17 => ?_⟩
    have s17 : Same G16 (upd G16 t17 (.tup [.str "same", .bl (decide (("SamePoint" : Str) = D))])) := Same.new ht17
    have e17 : (upd G16 t17 (.tup [.str "same", .bl (decide (("SamePoint" : Str) = D))])) t17 = some (.tup [.str "same", .bl (decide (("SamePoint" : Str) = D))]) := upd_same
    generalize upd G16 t17 (.tup [.str "same", .bl (decide (("SamePoint" : Str) = D))]) = G17 at s17 e17 ⊢
    have wd := wd.same s17
    have ea := ea.same s17
    have sa := sa.trans s17
    walk_at "go"
    refine i_isErr ea k (by decide) ?_
    walk_at "go"
    refine ⟨by walk_at "sz", fun t18 ht18 => ?_⟩
    have s18 : Same G17 (upd G17 t18 (.tup [.str "text", .bl (decide (("BadText" : Str) = D))])) := Same.new ht18
    have e18 : (upd G17 t18 (.tup [.str "text", .bl (decide (("BadText" : Str) = D))])) t18 = some (.tup [.str "text", .bl (decide (("BadText" : Str) = D))]) := upd_same
    generalize upd G17 t18 (.tup [.str "text", .bl (decide (("BadText" : Str) = D))]) = G18 at s18 e18 ⊢
    have e17 := s18 _ _ e17
    have wd := wd.same s18
    have ea := ea.same s18
    have sa := sa.trans s18
    walk_at "go"
    refine ⟨by walk_at "sz", fun l19 hl19 => ?_⟩
    have s19 : Same G18 (upd G18 l19 (.lst [.ref t17, .ref t18])) := Same.new hl19
    have nw : WdL (upd G18 l19 (.lst [.ref t17, .ref t18])) D l19 [("same", "SamePoint"), ("text", "BadText")] := ⟨[t17, t18], upd_same, .cons (s19 _ _ e17) (.cons (s19 _ _ e18) .nil)⟩
    generalize upd G18 l19 (.lst [.ref t17, .ref t18]) = G19 at s19 nw ⊢
    have wd := wd.same s19
    have ea := ea.same s19
    have sa := sa.trans s19
    walk_at "go"
    refine wd.cat nw (by decide) fun l20 hl20 G20 s20 nw2 => ?_
    have wd := nw2
    have ea := ea.same s20
    have sa := sa.trans s20
    walk_at "go"
    refine i_isErr ea k (by decide) ?_
    walk_at "go"
    refine ⟨by walk_at "sz", fun t21 ht21 => ?_⟩
    have s21 : Same G20 (upd G20 t21 (.tup [.str "bundle", .bl (decide (("BadBundle" : Str) = D))])) := Same.new ht21
    have e21 : (upd G20 t21 (.tup [.str "bundle", .bl (decide (("BadBundle" : Str) = D))])) t21 = some (.tup [.str "bundle", .bl (decide (("BadBundle" : Str) = D))]) := upd_same
    generalize upd G20 t21 (.tup [.str "bundle", .bl (decide (("BadBundle" : Str) = D))]) = G21 at s21 e21 ⊢
    have wd := wd.same s21
    have ea := ea.same s21
    have sa := sa.trans s21
    walk_at "go"
    refine i_isErr ea k (by decide) ?_
    walk_at "go"
    refine ⟨by walk_at "sz", fun t22 ht22 => ?_⟩
    have s22 : Same G21 (upd G21 t22 (.tup [.str "state", .bl (decide (("NoState" : Str) = D))])) := Same.new ht22
    have e22 : (upd G21 t22 (.tup [.str "state", .bl (decide (("NoState" : Str) = D))])) t22 = some (.tup [.str "state", .bl (decide (("NoState" : Str) = D))]) := upd_same
    generalize upd G21 t22 (.tup [.str "state", .bl (decide (("NoState" : Str) = D))]) = G22 at s22 e22 ⊢
    have e21 := s22 _ _ e21
    have wd := wd.same s22
    have ea := ea.same s22
    have sa := sa.trans s22
    walk_at "go"
    refine ⟨by walk_at "sz", fun l23 hl23 => ?_⟩
    have s23 : Same G22 (upd G22 l23 (.lst [.ref t21, .ref t22])) := Same.new hl23
    have nw : WdL (upd G22 l23 (.lst [.ref t21, .ref t22])) D l23 [("bundle", "BadBundle"), ("state", "NoState")] := ⟨[t21, t22], upd_same, .cons (s23 _ _ e21) (.cons (s23 _ _ e22) .nil)⟩
    generalize upd G22 l23 (.lst [.ref t21, .ref t22]) = G23 at s23 nw ⊢
    have wd := wd.same s23
    have ea := ea.same s23
    have sa := sa.trans s23
    walk_at "go"
    refine wd.cat nw (by decide) fun l24 hl24 G24 s24 nw2 => ?_
    have wd := nw2
    have ea := ea.same s24
    have sa := sa.trans s24
    walk_at "go"
    refine i_isErr ea k (by decide) ?_
    walk_at "go"
    refine ⟨by walk_at "sz", fun t25 ht25 => ?_⟩
    have s25 : Same G24 (upd G24 t25 (.tup [.str "deed", .bl (decide (("NoDeed" : Str) = D))])) := Same.new ht25
    have e25 : (upd G24 t25 (.tup [.str "deed", .bl (decide (("NoDeed" : Str) = D))])) t25 = some (.tup [.str "deed", .bl (decide (("NoDeed" : Str) = D))]) := upd_same
    generalize upd G24 t25 (.tup [.str "deed", .bl (decide (("NoDeed" : Str) = D))]) = G25 at s25 e25 ⊢
    have wd := wd.same s25
    have ea := ea.same s25
    have sa := sa.trans s25
    walk_at "go"
    refine i_isErr ea k (by decide) ?_
    walk_at "go"
    refine ⟨by walk_at "sz", fun t26 ht26 => ?_⟩
    have s26 : Same G25 (upd G25 t26 (.tup [.str "forest", .bl (decide (("BadForest" : Str) = D))])) := Same.new ht26
    have e26 : (upd G25 t26 (.tup [.str "forest", .bl (decide (("BadForest" : Str) = D))])) t26 = some (.tup [.str "forest", .bl (decide (("BadForest" : Str) = D))]) := upd_same
    generalize upd G25 t26 (.tup [.str "forest", .bl (decide (("BadForest" : Str) = D))]) = G26 at s26 e26 ⊢
    have e25 := s26 _ _ e25
    have wd := wd.same s26
    have ea := ea.same s26
    have sa := sa.trans s26
    walk_at "go"
    refine ⟨by walk_at "sz", fun l27 hl27 => ?_⟩
    have s27 : Same G26 (upd G26 l27 (.lst [.ref t25, .ref t26])) := Same.new hl27
    have nw : WdL (upd G26 l27 (.lst [.ref t25, .ref t26])) D l27 [("deed", "NoDeed"), ("forest", "BadForest")] := ⟨[t25, t26], upd_same, .cons (s27 _ _ e25) (.cons (s27 _ _ e26) .nil)⟩
    generalize upd G26 l27 (.lst [.ref t25, .ref t26]) = G27 at s27 nw ⊢
    have wd := wd.same s27
    have ea := ea.same s27
    have sa := sa.trans s27
    walk_at "go"
    refine wd.cat nw (by decide) fun l28 hl28 G28 s28 nw2 => ?_
    have wd := nw2
    have ea := ea.same s28
    have sa := sa.trans s28
    have wd : WdL G28 D l28 wsE := wd
    obtain ⟨as, e, t⟩ := wd.ex
    have al := Two.len t
    walk_at "go"
    refine i_kListI (SqL.of e) ?_
    intro LD hLD
    refine lc_it walk_list (fun i H' => Same G28 H' ∧ H' LD = some (.lst (((wsE.take i).filter fun w => decide (w.2 = D)).map fun w => V.str w.1)))
      ⟨Same.new hLD, by rw [upd_same]; rfl⟩ (fun i H' _ h => SqL.of (h.1 _ _ e)) ?_ ?_
    · rintro i v H2 H3 hi ⟨s2, eD⟩ ⟨rfl, hv⟩
      rw [List.length_map] at hi
      rw [List.getElem?_map, List.getElem?_eq_getElem hi] at hv
      cases hv
      obtain ⟨⟨wd1, c1⟩, ew, et⟩ := Two.get t (List.getElem?_eq_getElem hi)
      have tk : wsE.take (i + 1) = wsE.take i ++ [(wd1, c1)] := by rw [List.take_add_one, ew]; rfl
      have fl : ((wsE.take i).filter fun w => decide (w.2 = D)).length ≤ 15 := Nat.le_trans (List.length_filter_le _ _) (Nat.le_trans (List.length_take_le' _ _) (by decide))
      rw [tk, List.filter_append]
      generalize as[i] = ai at et ⊢
      walk_at "go"
      refine i_gTup (SqT.of (s2 _ _ et)) rfl ?_
      walk_at "go"
      refine ⟨rfl, ?_⟩
      walk_at "go"
      refine i_dec (fun c => ?_) (fun c => ?_)
      · walk_at "go"
        refine ⟨_, eD, by rw [List.length_map, sizeLine_eq]; omega, Same.mut s2 hLD, ?_⟩
        rw [upd_same, List.map_append, List.filter_cons, if_pos (decide_eq_true c)]; rfl
      · walk_at "go"
        refine ⟨s2, ?_⟩
        rw [List.filter_cons, if_neg (by simpa using c), List.filter_nil, List.append_nil]
        exact eD
    · rintro H2 ⟨s2, eD⟩
      rw [List.length_map, al, List.take_length] at eD
      have one : (wsE.filter fun w => decide (w.2 = D)) = [(wordE D, D)] := word_one hD
      rw [one] at eD
      have eD : H2 LD = some (.lst [.str (wordE D)]) := eD
      walk_at "go"
      refine i_dec (fun c => by cases c) (fun _ => ?_)
      walk_at "go"
      refine i_lenL (SqL.of eD) ?_
      walk_at "go"
      refine i_dec (fun _ => ?_) (fun c => absurd rfl c)
      walk_at "go"
      refine i_isVal (ea.same s2) k ?_
      walk_at "go"
      refine i_ixL (SqL.of eD) (j := 0) (v := .str (wordE D)) rfl ?_
      exact q H2 (sa.trans s2)
end
end K04

set_option Elab.async false
set_option linter.all false
set_option maxRecDepth 100000
set_option maxHeartbeats 4000000
namespace K04
open PySem PySem.Spec PyProof.Rows L2 HX WB
local macro_rules | `(tactic| walk_at "side") => `(tactic| first
  | assumption
  | rfl
  | (show (0 : Int) < _; omega)
  | (unfold CDiv; omega)
  | (unfold CMul; omega)
  | (unfold CPow; omega)
  | (rw [sizeLine_eq]; omega)
  | omega)
local macro_rules | `(tactic| walk_at "e") => `(tactic| first
  | ((with_reducible apply i_var); exact rfl)
  | (with_reducible apply i_c)
  | (with_reducible apply i_op)
  | (with_reducible apply i_un)
  | (with_reducible apply i_rI0)
  | ((with_reducible apply i_rI); (case c => walk_at "side"))
  | (with_reducible apply i_rGe)
  | (with_reducible apply i_rGt)
  | (with_reducible apply i_rU)
  | (with_reducible apply i_rEqI)
  | (with_reducible apply i_rNeI)
  | (with_reducible apply i_rEqS)
  | (with_reducible apply i_rNeS)
  | (with_reducible apply i_rEqB)
  | (with_reducible apply i_rNeB)
  | (with_reducible apply i_rIsN)
  | (with_reducible apply i_rNotN)
  | (with_reducible apply i_rInS)
  | (with_reducible apply i_rNotInS)
  | ((with_reducible apply i_catS); (case c => walk_at "side"))
  | (with_reducible apply i_tcb)
  | (with_reducible apply i_nil)
  | (with_reducible apply i_cons)
  | ((with_reducible apply i_lenS); (case c => walk_at "side"))
  | ((with_reducible apply i_lenL); assumption)
  | (with_reducible apply i_abs)
  | (with_reducible apply i_max2)
  | (with_reducible apply i_min2)
  | ((with_reducible apply i_strI); (case c => walk_at "side"))
  | (with_reducible apply i_intB)
  | (with_reducible apply i_test)
  | (with_reducible apply i_tB)
  | (with_reducible apply i_kB)
  | (with_reducible apply i_and)
  | (with_reducible apply i_or)
  | (with_reducible apply i_not)
  | (with_reducible apply i_if)
  | (with_reducible apply i_andV)
  | (with_reducible apply i_orV)
  | (with_reducible apply i_notV)
  | (with_reducible apply i_kAndV)
  | (with_reducible apply i_kOrV)
  | (with_reducible apply i_kNotV)
  | (with_reducible apply i_chain)
  | (with_reducible apply i_kChain)
  | (with_reducible apply i_drop)
  | (with_reducible apply i_ret)
  | (with_reducible apply i_retN)
  | (with_reducible apply i_ifS)
  | (with_reducible apply i_asg)
  | (with_reducible apply i_gName)
  | (with_reducible apply i_for)
  | (with_reducible apply i_lc)
  | (with_reducible apply i_iList)
  | (with_reducible apply i_iTup)
  | (with_reducible apply i_iStr)
  | (with_reducible apply i_kStrI)
  | (with_reducible apply i_lst)
  | (with_reducible apply i_tup)
  | (with_reducible apply i_call)
  | (with_reducible apply i_m1)
  | (with_reducible apply i_kStr)
  | (with_reducible apply i_bm)
  | (with_reducible apply i_bm0)
  | (with_reducible apply i_part)
  | (with_reducible apply i_kInt)
  | (with_reducible apply i_noPart)
  | (with_reducible apply i_sl)
  | (with_reducible apply i_range1)
  | (with_reducible apply i_range2)
  | ((with_reducible apply i_kRng1); (case c => walk_at "side"))
  | ((with_reducible apply i_kRng2); (case c => walk_at "side"))
  | (with_reducible apply i_gCons)
  | (with_reducible apply i_gNil)
  | (with_reducible apply i_gSub)
  | (with_reducible apply i_iZip)
  | (with_reducible apply i_yes)
  | (with_reducible apply i_ift)
  | (with_reducible apply i_iff)
  | (with_reducible apply i_nb))
local macro_rules | `(tactic| walk_at "go") => `(tactic| repeat (first | (with_reducible apply i_seq) | (with_reducible apply i_next) | walk_at "e"))
local macro_rules | `(tactic| walk_at "ge") => `(tactic| repeat walk_at "e")
local macro_rules | `(tactic| walk_at "sz") => `(tactic| first | decide | (rw [sizeLine_eq]; simp; done) | (rw [sizeLine_eq]; omega))
local macro_rules | `(tactic| walk_at "side") => `(tactic| (with_reducible exact WB.most_pos))
local macro_rules | `(tactic| walk_at "e") => `(tactic| first
  | ((with_reducible apply i_isT (b := true)); exact rfl)
  | ((with_reducible apply i_isT (b := false)); exact rfl)
  | (with_reducible apply i_fld)
  | ((with_reducible apply i_kFld); (case h => assumption); (case c1 => assumption); (case c2 => assumption); (case e => first | exact lk_number | exact lk_tail | exact lk_head | exact lk_load | exact lk_oneway | exact lk_points | exact lk_ties | exact lk_given))
  | (with_reducible apply i_sfld)
  | ((with_reducible apply i_kSFld); (case h => first | assumption | exact upd_same); (case c1 => assumption); (case c2 => assumption); (case e => exact Nat.le_of_ble_eq_true rfl))
  | (with_reducible apply i_methC)
  | (with_reducible apply i_make)
  | (with_reducible apply i_fldaug)
  | (with_reducible apply i_vals)
  | (with_reducible apply i_items)
  | (with_reducible apply i_dget)
  | (with_reducible apply i_dput)
  | (with_reducible apply i_din)
  | (with_reducible apply i_dnotin)
  | (with_reducible apply i_ddel)
  | (with_reducible apply i_dc)
  | (with_reducible apply i_enum)
  | (with_reducible apply i_ckw))
section
variable {P : Program} {w : World} {K : PySem.W.Frag} {mg : Str → Option Value} {base : Heap}
def sp_tried (K : PySem.W.Frag) : Sp := fun vs H Q _ => ∃ v R, vs = [v] ∧ LinesAt K H v R ∧
  (∀ w t p l d H', R = .inr w → Same H H' → H t = none → H p = none → H l = none → H d = none → WebAt K H' p l d w → Wok w → H' t = some (.tup [.ref p, .non]) → Q (.ref t) H') ∧
  (∀ (i : Nat) t b dd H', R = .inl i → Same H H' → H t = none → H' t = some (.tup [.non, .ref b]) → ErrAt K H' b "BadLine" (some dd) → H' dd = some (.xd [("place", .int (i : Int))]) → Q (.ref t) H')
theorem ok_law_tried (T : Tx K mg) (J : Js P w K mg base) : FnOk P w K mg base CX0 19 (He.ga K "_law_tried") T.fd_law_tried ["_law_lines_here"] (sp_tried K) := by
  refine T.F_law_tried.ok sc_law_tried (fun vs H Q E h => ?_) (fun cdv A outer s H vs Q E hr h => ?_)
  · obtain ⟨_, _, rfl, _⟩ := h
    rfl
  · obtain ⟨v, R, rfl, hv, q1, q2⟩ := h
    have hu := hu_of hr
    refine ⟨_, (pss_cons (ps_set (i := 1) sc_law_tried.nd rfl (Or.inl rfl) pe_non)
      (pss_cons (ps_set (i := 2) sc_law_tried.nd rfl (Or.inl rfl) pe_non)
      (pss_cons (EVV.ps_try_keep (i := 3) (j := 2) rfl rfl rfl sc_law_tried.nd rfl rfl rfl rfl ⟨by rfl, by rfl, .inl T.g_WebError⟩ EVX.takes_no rfl rfl (fun W pn xe tk hp => (pss_one (ps_set (i := 1) sc_law_tried.nd rfl (Or.inl rfl) (pe_callSD (okx_web_of T J) (hr.mono (by decide)) (by rfl) T.g_web_of T.F_web_of.kp T.k_web_of .nil (passAt tk) (pa_cons (pv 0) pa_nil))))))
      (PSs.nox (pss_one (ps_ret (pe_tup (pa_cons (pv 1) (pa_cons (pv 2) pa_nil))))))))), ?_⟩
    walk_at "go"
    unfold tCallSD
    walk_at "go"
    refine ⟨v, R, rfl, hv, fun w p l d H1 e s1 n1 n2 n3 hw ok => ?_, fun i H1 e s1 => ?_⟩
    · walk_at "go"
      refine ⟨by walk_at "sz", fun t ht => ?_⟩
      exact q1 w t p l d _ e (Same.mut s1 (s1.free ht)) (s1.free ht) n1 n2 n3 (hw.same (Same.new ht)) ok upd_same
    · show Raise K (rfv "BadLine" "place" (.int (i : Int))) H1 _
      intro dd hd
      refine ⟨true, T.xm_BadLine, fun _ a ha => ?_, fun e => by cases e⟩
      have nd : a ≠ dd := fun e => by rw [e, upd_same] at ha; cases ha
      have s2 : Same H1 (upd (upd H1 dd (.xd [("place", .int (i : Int))])) a (EVV.ErrO (.ref (He.ga K "BadLine")) (some dd) a)) := (Same.new hd).trans (Same.new ha)
      have ed : (upd (upd H1 dd (.xd [("place", .int (i : Int))])) a (EVV.ErrO (.ref (He.ga K "BadLine")) (some dd) a)) dd = some (.xd [("place", .int (i : Int))]) := (upd_ne nd.symm).trans upd_same
      have ea : ErrAt K (upd (upd H1 dd (.xd [("place", .int (i : Int))])) a (EVV.ErrO (.ref (He.ga K "BadLine")) (some dd) a)) a "BadLine" (some dd) := ⟨upd_same, _, ed⟩
      generalize upd (upd H1 dd (.xd [("place", .int (i : Int))])) a (EVV.ErrO (.ref (He.ga K "BadLine")) (some dd) a) = H2 at s2 ed ea ⊢
      walk_at "go"
      refine ⟨by walk_at "sz", fun t ht => ?_⟩
      have s3 : Same H2 (upd H2 t (.tup [.non, .ref a])) := Same.new ht
      exact q2 i t a dd _ e ((s1.trans s2).trans s3) ((s1.trans s2).free ht) upd_same (ea.same s3) (s3 _ _ ed)
end
end K04

set_option Elab.async false
set_option linter.all false
set_option maxRecDepth 100000
set_option maxHeartbeats 4000000
namespace K04
open PySem PySem.Spec PyProof.Rows L2 HX WB
local macro_rules | `(tactic| walk_at "side") => `(tactic| first
  | assumption
  | rfl
  | (show (0 : Int) < _; omega)
  | (unfold CDiv; omega)
  | (unfold CMul; omega)
  | (unfold CPow; omega)
  | (rw [sizeLine_eq]; omega)
  | omega)
local macro_rules | `(tactic| walk_at "e") => `(tactic| first
  | ((with_reducible apply i_var); exact rfl)
  | (with_reducible apply i_c)
  | (with_reducible apply i_op)
  | (with_reducible apply i_un)
  | (with_reducible apply i_rI0)
  | ((with_reducible apply i_rI); (case c => walk_at "side"))
  | (with_reducible apply i_rGe)
  | (with_reducible apply i_rGt)
  | (with_reducible apply i_rU)
  | (with_reducible apply i_rEqI)
  | (with_reducible apply i_rNeI)
  | (with_reducible apply i_rEqS)
  | (with_reducible apply i_rNeS)
  | (with_reducible apply i_rEqB)
  | (with_reducible apply i_rNeB)
  | (with_reducible apply i_rIsN)
  | (with_reducible apply i_rNotN)
  | (with_reducible apply i_rInS)
  | (with_reducible apply i_rNotInS)
  | ((with_reducible apply i_catS); (case c => walk_at "side"))
  | (with_reducible apply i_tcb)
  | (with_reducible apply i_nil)
  | (with_reducible apply i_cons)
  | ((with_reducible apply i_lenS); (case c => walk_at "side"))
  | ((with_reducible apply i_lenL); assumption)
  | (with_reducible apply i_abs)
  | (with_reducible apply i_max2)
  | (with_reducible apply i_min2)
  | ((with_reducible apply i_strI); (case c => walk_at "side"))
  | (with_reducible apply i_intB)
  | (with_reducible apply i_test)
  | (with_reducible apply i_tB)
  | (with_reducible apply i_kB)
  | (with_reducible apply i_and)
  | (with_reducible apply i_or)
  | (with_reducible apply i_not)
  | (with_reducible apply i_if)
  | (with_reducible apply i_andV)
  | (with_reducible apply i_orV)
  | (with_reducible apply i_notV)
  | (with_reducible apply i_kAndV)
  | (with_reducible apply i_kOrV)
  | (with_reducible apply i_kNotV)
  | (with_reducible apply i_chain)
  | (with_reducible apply i_kChain)
  | (with_reducible apply i_drop)
  | (with_reducible apply i_ret)
  | (with_reducible apply i_retN)
  | (with_reducible apply i_ifS)
  | (with_reducible apply i_asg)
  | (with_reducible apply i_gName)
  | (with_reducible apply i_for)
  | (with_reducible apply i_lc)
  | (with_reducible apply i_iList)
  | (with_reducible apply i_iTup)
  | (with_reducible apply i_iStr)
  | (with_reducible apply i_kStrI)
  | (with_reducible apply i_lst)
  | (with_reducible apply i_tup)
  | (with_reducible apply i_call)
  | (with_reducible apply i_m1)
  | (with_reducible apply i_kStr)
  | (with_reducible apply i_bm)
  | (with_reducible apply i_bm0)
  | (with_reducible apply i_part)
  | (with_reducible apply i_kInt)
  | (with_reducible apply i_noPart)
  | (with_reducible apply i_sl)
  | (with_reducible apply i_range1)
  | (with_reducible apply i_range2)
  | ((with_reducible apply i_kRng1); (case c => walk_at "side"))
  | ((with_reducible apply i_kRng2); (case c => walk_at "side"))
  | (with_reducible apply i_gCons)
  | (with_reducible apply i_gNil)
  | (with_reducible apply i_gSub)
  | (with_reducible apply i_iZip)
  | (with_reducible apply i_yes)
  | (with_reducible apply i_ift)
  | (with_reducible apply i_iff)
  | (with_reducible apply i_nb))
local macro_rules | `(tactic| walk_at "go") => `(tactic| repeat (first | (with_reducible apply i_seq) | (with_reducible apply i_next) | walk_at "e"))
local macro_rules | `(tactic| walk_at "ge") => `(tactic| repeat walk_at "e")
local macro_rules | `(tactic| walk_at "sz") => `(tactic| first | decide | (rw [sizeLine_eq]; simp; done) | (rw [sizeLine_eq]; omega))
local macro_rules | `(tactic| walk_at "side") => `(tactic| (with_reducible exact WB.most_pos))
local macro_rules | `(tactic| walk_at "e") => `(tactic| first
  | ((with_reducible apply i_isT (b := true)); exact rfl)
  | ((with_reducible apply i_isT (b := false)); exact rfl)
  | (with_reducible apply i_fld)
  | ((with_reducible apply i_kFld); (case h => assumption); (case c1 => assumption); (case c2 => assumption); (case e => first | exact lk_number | exact lk_tail | exact lk_head | exact lk_load | exact lk_oneway | exact lk_points | exact lk_ties | exact lk_given))
  | (with_reducible apply i_sfld)
  | ((with_reducible apply i_kSFld); (case h => first | assumption | exact upd_same); (case c1 => assumption); (case c2 => assumption); (case e => exact Nat.le_of_ble_eq_true rfl))
  | (with_reducible apply i_methC)
  | (with_reducible apply i_make)
  | (with_reducible apply i_fldaug)
  | (with_reducible apply i_vals)
  | (with_reducible apply i_items)
  | (with_reducible apply i_dget)
  | (with_reducible apply i_dput)
  | (with_reducible apply i_din)
  | (with_reducible apply i_dnotin)
  | (with_reducible apply i_ddel)
  | (with_reducible apply i_dc)
  | (with_reducible apply i_enum)
  | (with_reducible apply i_ckw))
local macro_rules | `(tactic| walk_at "jz") => `(tactic| (rw [sizeLine_eq]; (try simp only [TX.len_app, len_e, len_b, len_p, len_g]); omega))
local macro_rules | `(tactic| walk_at "e") => `(tactic| first
  | (with_reducible apply i_tJoin)
  | (with_reducible apply i_tJsC)
  | (with_reducible apply i_tFmt)
  | ((with_reducible apply i_kJ); (case c => walk_at "jz"))
  | ((with_reducible apply i_kFS); (case c => walk_at "jz"))
  | (with_reducible apply i_tJsN))
local macro_rules | `(tactic| walk_at "e") => `(tactic| first
  | ((with_reducible apply i_kDGetS); (case h => assumption); (case e => first | exact md_names | exact md_ties | exact md_given)))
local macro_rules | `(tactic| walk_at "e") => `(tactic| first
  | ((with_reducible apply i_kDGetS); (case h => assumption); (case e => assumption)))
/-- a text that may stand as a line -/
def Gd (y : Str) : Prop := okS y = true ∧ y.length ≤ 1000
/-- a line, or what is none, as data -/
inductive LnD (H : Hp) : V → PyData → Prop where
  | str {z : Str} (h : Gd z) : LnD H (.str z) (.str z)
  | non : LnD H .non .none
  | int (i : Int) : LnD H (.int i) (.int i)
  | bl (b : Bool) : LnD H (.bl b) (.bool b)
  | lst {a : Addr} {z : Str} (h : H a = some (.lst [.str z])) (o : okS z = true) : LnD H (.ref a) (.list [.str z])
def Items (H : Hp) (xs : List V) (ds : List PyData) : Prop := Two (LnD H) xs ds
section
variable {K : PySem.W.Frag} {H H' : Hp} {xs ys : List V} {ds es : List PyData} {v : V} {d : PyData}
theorem LnD.same (h : LnD H v d) (m : Same H H') : LnD H' v d := by
  cases h with
  | str h => exact .str h
  | non => exact .non
  | int i => exact .int i
  | bl b => exact .bl b
  | lst h o => exact .lst (m _ _ h) o
theorem Items.same (h : Items H xs ds) (m : Same H H') : Items H' xs ds := Two.mono h fun _ _ r => r.same m
theorem LnD.dp (h : LnD H v d) : Dp K H v d := by
  cases h with
  | str h => exact .str _
  | non => exact .non
  | int i => exact .int i
  | bl b => exact .bl b
  | lst h o => exact .lst (SqL.of h) (.cons (.str _) .nil)
theorem Items.dp (h : Items H xs ds) : DpAll K H xs ds := by
  induction h with
  | nil => exact .nil
  | cons h _ ih => exact .cons h.dp ih
theorem LnD.lay (h : LnD H v d) : PyData.canLay0 d = true ∧ PyData.depth d ≤ 1 := by
  cases h with
  | str h => exact ⟨by rw [PyData.canLay0]; exact h.1, by simp [PyData.depth]⟩
  | non => exact ⟨by simp [PyData.canLay0], by simp [PyData.depth]⟩
  | int i => exact ⟨by simp [PyData.canLay0], by simp [PyData.depth]⟩
  | bl b => exact ⟨by simp [PyData.canLay0], by simp [PyData.depth]⟩
  | lst h o => exact ⟨by simp only [PyData.canLay0, PyData.canLayAll0, Bool.and_true]; exact o, by simp [PyData.depth, PyData.depthAll]⟩
theorem Items.lay (h : Items H xs ds) : PyData.canLayAll0 ds = true ∧ PyData.depthAll ds ≤ 1 := by
  induction h with
  | nil => exact ⟨by simp [PyData.canLayAll0], by simp [PyData.depthAll]⟩
  | cons h _ ih =>
    obtain ⟨h1, h2⟩ := h.lay
    exact ⟨by rw [PyData.canLayAll0, h1, ih.1]; rfl, by rw [PyData.depthAll]; omega⟩
theorem Items.ne {a b : Addr} {Q : VK} (h : Items H xs ds) (ha : H a = some (.lst xs)) (hb : H b = some (.lst xs)) (q : Q (.bl false) H) : rNeD K (.ref a) (.ref b) H Q := by
  obtain ⟨h1, h2⟩ := h.lay
  have sh : SeqAt.shaped (.list ds) = true := by
    unfold SeqAt.shaped
    rw [PyData.canLay0, h1, PyData.depth]
    exact decide_eq_true (by omega)
  exact ⟨_, _, .lst (SqL.of ha) h.dp, .lst (SqL.of hb) h.dp, sh, sh, by rw [SeqAt.eqv_refl _ (by rw [PyData.canLay0]; exact h1)]; exact q⟩
theorem LnD.line (h : LnD H v d) : LineAt K H v := by
  cases h with
  | str h => exact .inl ⟨_, rfl, h.1, h.2⟩
  | non => exact .inr ⟨(fun _ e => by cases e), "NoneType", .base .non, by decide +kernel⟩
  | int i => exact .inr ⟨(fun _ e => by cases e), "int", .base (.int i), by decide +kernel⟩
  | bl b => exact .inr ⟨(fun _ e => by cases e), "bool", .base (.bl b), by decide +kernel⟩
  | lst h o => exact .inr ⟨(fun _ e => by cases e), "list", .base (.lst h), by decide +kernel⟩
theorem Items.lines (h : Items H xs ds) : ∀ x ∈ xs, LineAt K H x := by
  induction h with
  | nil => intro x hx; simp at hx
  | cons h _ ih =>
    intro x hx
    rcases List.mem_cons.mp hx with rfl | hx
    · exact h.line
    · exact ih x hx
theorem items_strs {zs : List Str} (h : ∀ z ∈ zs, Gd z) : Items H (zs.map V.str) (zs.map PyData.str) := by
  induction zs with
  | nil => exact .nil
  | cons z r ih => exact .cons (.str (h z (by simp))) (ih fun y hy => h y (by simp [hy]))
end
section
variable {P : Program} {w : World} {K : PySem.W.Frag} {mg : Str → Option Value} {base : Heap}
def sp_lgood (K : PySem.W.Frag) : Sp := fun vs H Q _ => ∃ a xs ds, vs = [.ref a] ∧ H a = some (.lst xs) ∧ Items H xs ds ∧ xs.length ≤ 100 ∧ errs K = true ∧ ∀ H', Same H H' → Q (.bl true) H'
theorem errs_of (h : errs K = true) : (XfC K (He.ga K "BadLine") ∧ PySem.W.findIn K (.ref (He.ga K "BadLine")) "place" = some none) ∧ isA K "Web" = true ∧ PySem.W.specialIn K (.builtin "object.__class__") "__get__" = some (some (.builtin "getset_descriptor.__get__")) ∧ PySem.W.takesIn K (.builtin "object.__class__") = some true ∧ isTo K "Web" "Web" true = true := by
  unfold errs wbs at h
  simp only [Bool.and_eq_true, decide_eq_true_eq] at h
  exact ⟨EVV.fldB_ok h.2.1, h.2.2⟩
theorem i_isTo {H : Hp} {a dx : Addr} {fs : List (Str × V)} {Q : VK} {x y : Str} {b : Bool} (h1 : isA K x = true) (h2 : PySem.W.specialIn K (.builtin "object.__class__") "__get__" = some (some (.builtin "getset_descriptor.__get__")))
    (h3 : PySem.W.takesIn K (.builtin "object.__class__") = some true) (h4 : isTo K x y b = true) (c : Cls K (He.ga K x)) (h : H a = some (.ins (He.ga K x) dx fs)) (q : Q (.bl b) H) : rIsi K [.ref a, .ref (He.ga K y)] H Q := by
  unfold isA at h1
  unfold isTo at h4
  simp only [Bool.and_eq_true, decide_eq_true_eq] at h1 h4
  exact ⟨_, _, _, _, _, rfl, .own _, .base (.ins h c h1.1 h2 h3 h1.2), h4, q⟩
theorem ok_law_good (T : Tx K mg) (J : Js P w K mg base) : FnOk P w K mg base CX0 23 (He.ga K "_law_good") T.fd_law_good ["_law_lines_here"] (sp_lgood K) := by
  refine T.F_law_good.ok sc_law_good (fun vs H Q E h => ?_) (fun cdv A outer s H vs Q E hr h => ?_)
  · obtain ⟨_, _, _, rfl, _⟩ := h
    rfl
  · obtain ⟨a, xs, ds, rfl, ha, hit, hlen, he, q⟩ := h
    have hu := hu_of hr
    refine ⟨_, PSs.nox (pss_cons (ps_set (i := 1) sc_law_good.nd rfl (Or.inl rfl) (pe_call (ok_law_read T) (hr.mono (by decide)) (by rfl) T.g_law_read T.F_law_read.kp T.k_law_read .nil pass0 (pa_cons (pv 0) pa_nil)))
      (pss_cons (ps_set (i := 2) sc_law_good.nd rfl (Or.inl rfl) (pe_callTy x_list (by rfl) T.b_list (by decide +kernel) (pa_cons (pv 0) pa_nil)))
      (pss_cons (ps_asg (pe_call (ok_law_tried T J) (hr.mono (by decide)) (by rfl) T.g_law_tried T.F_law_tried.kp T.k_law_tried .nil pass0 (pa_cons (pv 2) pa_nil)) (pg_tup rfl (pgs_cons (pg_name (i := 3) sc_law_good.nd rfl (Or.inl rfl)) (pgs_cons (pg_name (i := 4) sc_law_good.nd rfl (Or.inl rfl)) pgs_nil))))
      (pss_cons (ps_if (pt_cmpR (op_neD hr.units) (pv 2) (pv 0) (nomark _)) (pss_one (ps_ret pe_bl)) pss_nil)
      (pss_cons (ps_expr (pe_bm0 PySem.F.plainAttrs_list PySem.F.slot_list_clear PySem.F.type_list_clear mt_clear (pv 2)))
      (pss_cons (ps_if (pt_val (pe_callB call_isi (by rfl) T.b_isinstance (by decide +kernel) (pa_cons (pv 1) (pa_cons (pe_bltn (v := .ty "int") rfl T.b_int (by decide +kernel) rfl) pa_nil)))) (pss_one (ps_ret (pe_and (pe_cmpR op_eq (pe_call (ok_law_word T) (hr.mono (by decide)) (by rfl) T.g_law_word T.F_law_word.kp T.k_law_word .nil pass0 (pa_cons (pv 4) pa_nil)) pe_str (nomark _)) (pe_one (pe_call (ok_law_whole T) (hr.mono (by decide)) (by rfl) T.g_law_whole T.F_law_whole.kp T.k_law_whole .nil pass0 (pa_cons (EVV.pe_errF (pv 4)) (pa_cons (pv 1) pa_nil))))))) pss_nil)
      (pss_one (ps_ret (pe_and (pe_cmpR op_isN1 (pv 4) pe_non (nomark _)) (pe_and (pe_callB call_isi (by rfl) T.b_isinstance (by decide +kernel) (pa_cons (pv 3) (pa_cons (pe_glob (v := .ref (He.ga K "Web")) rfl T.g_Web rfl) pa_nil))) (pe_one (pe_call (ok_law_stands T) (hr.mono (by decide)) (by rfl) T.g_law_stands T.F_law_stands.kp T.k_law_stands .nil pass0 (pa_cons (pv 3) (pa_cons (pv 1) pa_nil)))))))))))))), ?_⟩
    obtain ⟨fp, wa, wb, wc, wd⟩ := errs_of he
    walk_at "go"
    refine ⟨a, xs, rfl, ha, hit.lines, hlen, fun i H1 er s1 => ?_, fun w m nl td H1 er s1 hm ok => ?_⟩
    · have ha1 := s1 _ _ ha
      have hit1 := hit.same s1
      walk_at "go"
      refine ⟨a, xs, rfl, .inl (SqL.of ha1), fun hd hhd => ?_⟩
      have s2 : Same H1 (upd H1 hd (.lst xs)) := Same.new hhd
      have hd0 : H hd = none := s1.free hhd
      have e2 : (upd H1 hd (.lst xs)) hd = some (.lst xs) := upd_same
      generalize upd H1 hd (.lst xs) = H2 at s2 e2 ⊢
      walk_at "go"
      refine ⟨.ref hd, _, rfl, .inl ⟨hd, xs, rfl, e2, (hit1.same s2).lines, hlen, rfl⟩, fun w t p l d H3 er2 _ _ _ _ _ _ _ _ => ?_, fun j t b dd H3 er2 s3 ht et ea ed => ?_⟩
      · rw [er] at er2
        cases er2
      rw [er] at er2
      cases er2
      walk_at "go"
      refine i_gTup (SqT.of et) rfl ?_
      walk_at "go"
      refine (hit1.same (s2.trans s3)).ne (s3 _ _ e2) ((s2.trans s3) _ _ ha1) ?_
      walk_at "go"
      refine i_kTyL (SqL.of (s3 _ _ e2)) ?_
      refine ⟨hd, xs, rfl, rfl, s3 _ _ e2, ?_⟩
      have s123 : Same H H3 := (s1.trans s2).trans s3
      have s4 : Same H (upd H3 hd (.lst [])) := Same.mut s123 hd0
      have nb : b ≠ hd := fun e => by
        have := ea.at_
        rw [e, s3 _ _ e2] at this
        cases this
      have nd : dd ≠ hd := fun e => by
        rw [e, s3 _ _ e2] at ed
        cases ed
      have ea4 : ErrAt K (upd H3 hd (.lst [])) b "BadLine" (some dd) := ⟨(upd_ne nb).trans ea.at_, _, (upd_ne nd).trans ed⟩
      have ed4 : (upd H3 hd (.lst [])) dd = some (.xd [("place", .int (i : Int))]) := (upd_ne nd).trans ed
      generalize upd H3 hd (.lst []) = H4 at s4 ea4 ed4 ⊢
      walk_at "go"
      refine ⟨b, "BadLine", some dd, rfl, (by unfold isEr rcs; simp), ea4, he, fun H5 s5 => ?_⟩
      rw [show wordE "BadLine" = ("line" : Str) from by decide +kernel]
      walk_at "go"
      refine i_dec (fun _ => ?_) (fun c => absurd rfl c)
      walk_at "go"
      refine EVV.i_errF ?_
      walk_at "go"
      refine EVV.i_kErrF (s5 _ _ ea4.at_) fp (s5 _ _ ed4) ?_
      walk_at "go"
      refine ⟨_, _, rfl, ?_⟩
      rw [decide_eq_true rfl]
      exact q H5 (s4.trans s5)
    · have ha1 := s1 _ _ ha
      have hit1 := hit.same s1
      walk_at "go"
      refine ⟨a, xs, rfl, .inl (SqL.of ha1), fun hd hhd => ?_⟩
      have s2 : Same H1 (upd H1 hd (.lst xs)) := Same.new hhd
      have hd0 : H hd = none := s1.free hhd
      have e2 : (upd H1 hd (.lst xs)) hd = some (.lst xs) := upd_same
      generalize upd H1 hd (.lst xs) = H2 at s2 e2 ⊢
      have hm2 := hm.same s2
      walk_at "go"
      refine ⟨.ref hd, _, rfl, .inl ⟨hd, xs, rfl, e2, (hit1.same s2).lines, hlen, rfl⟩, fun w2 t p l d H3 er2 s3 ht fp' fl fd hw ok2 et => ?_, fun j t b dd H3 er2 _ _ _ _ _ => ?_⟩
      rotate_left
      · rw [er] at er2
        cases er2
      rw [er] at er2
      cases er2
      walk_at "go"
      refine i_gTup (SqT.of et) rfl ?_
      walk_at "go"
      refine (hit1.same (s2.trans s3)).ne (s3 _ _ e2) ((s2.trans s3) _ _ ha1) ?_
      walk_at "go"
      refine i_kTyL (SqL.of (s3 _ _ e2)) ?_
      refine ⟨hd, xs, rfl, rfl, s3 _ _ e2, ?_⟩
      have s123 : Same H H3 := (s1.trans s2).trans s3
      have s4 : Same H (upd H3 hd (.lst [])) := Same.mut s123 hd0
      have k4 : ∀ {b : Addr} {o : HO}, b ≠ hd → H3 b = some o → upd H3 hd (.lst []) b = some o := fun n e => (upd_ne n).trans e
      have nhd : ∀ {b : Addr}, H2 b = none → b ≠ hd := fun e z => by rw [z, e2] at e; cases e
      have hm3 := hm2.same s3
      have m4 : Mod4 (upd H3 hd (.lst [])) m nl td w true := by
        have n1 : nl ≠ hd := fun e => by
          have := hm.pts
          rw [e, hhd] at this
          cases this
        have n2 : m ≠ hd := fun e => by
          have := hm.self
          rw [e, hhd] at this
          cases this
        have n3 : td ≠ hd := fun e => by
          obtain ⟨_, this, _⟩ := hm.ties
          rw [e, hhd] at this
          cases this
        obtain ⟨kvs, e3, c⟩ := hm3.ties
        exact ⟨k4 n2 hm3.self, k4 n1 hm3.pts, ⟨kvs, k4 n3 e3, c.mono fun _ _ _ r => r.other (r.ne (s3 _ _ e2) (fun _ => by simp))⟩⟩
      have w4 : WebAt K (upd H3 hd (.lst [])) p l d w := by
        obtain ⟨dx, ep⟩ := hw.self
        obtain ⟨kvs, e3, c⟩ := hw.ties
        exact ⟨⟨dx, k4 (nhd fp') ep⟩, k4 (nhd fl) hw.pts, ⟨kvs, k4 (nhd fd) e3, c.mono fun _ _ _ r => r.other (r.ne (s3 _ _ e2) (fun _ _ _ _ => by simp))⟩⟩
      generalize upd H3 hd (.lst []) = H4 at s4 m4 w4 ⊢
      obtain ⟨dx4, ep4⟩ := w4.self
      have em4 := m4.self
      walk_at "go"
      refine EVV.HasTy.isi (n := "dict") (b := false) (.base (.dK em4)) (by decide +kernel) ?_
      walk_at "go"
      refine i_dec (fun _ => ?_) (fun c => absurd rfl c)
      walk_at "go"
      refine i_isTo wa wb wc wd T.cl_Web ep4 ?_
      walk_at "go"
      exact ⟨p, l, d, m, nl, td, w, rfl, w4, m4.view, ok, fun H5 s5 => q H5 (s4.trans s5)⟩
end
end K04

set_option Elab.async false
set_option linter.all false
set_option maxRecDepth 100000
set_option maxHeartbeats 4000000
namespace K04
open PySem PySem.Spec PyProof.Rows L2 HX WB
local macro_rules | `(tactic| walk_at "side") => `(tactic| first
  | assumption
  | rfl
  | (show (0 : Int) < _; omega)
  | (unfold CDiv; omega)
  | (unfold CMul; omega)
  | (unfold CPow; omega)
  | (rw [sizeLine_eq]; omega)
  | omega)
local macro_rules | `(tactic| walk_at "e") => `(tactic| first
  | ((with_reducible apply i_var); exact rfl)
  | (with_reducible apply i_c)
  | (with_reducible apply i_op)
  | (with_reducible apply i_un)
  | (with_reducible apply i_rI0)
  | ((with_reducible apply i_rI); (case c => walk_at "side"))
  | (with_reducible apply i_rGe)
  | (with_reducible apply i_rGt)
  | (with_reducible apply i_rU)
  | (with_reducible apply i_rEqI)
  | (with_reducible apply i_rNeI)
  | (with_reducible apply i_rEqS)
  | (with_reducible apply i_rNeS)
  | (with_reducible apply i_rEqB)
  | (with_reducible apply i_rNeB)
  | (with_reducible apply i_rIsN)
  | (with_reducible apply i_rNotN)
  | (with_reducible apply i_rInS)
  | (with_reducible apply i_rNotInS)
  | ((with_reducible apply i_catS); (case c => walk_at "side"))
  | (with_reducible apply i_tcb)
  | (with_reducible apply i_nil)
  | (with_reducible apply i_cons)
  | ((with_reducible apply i_lenS); (case c => walk_at "side"))
  | ((with_reducible apply i_lenL); assumption)
  | (with_reducible apply i_abs)
  | (with_reducible apply i_max2)
  | (with_reducible apply i_min2)
  | ((with_reducible apply i_strI); (case c => walk_at "side"))
  | (with_reducible apply i_intB)
  | (with_reducible apply i_test)
  | (with_reducible apply i_tB)
  | (with_reducible apply i_kB)
  | (with_reducible apply i_and)
  | (with_reducible apply i_or)
  | (with_reducible apply i_not)
  | (with_reducible apply i_if)
  | (with_reducible apply i_andV)
  | (with_reducible apply i_orV)
  | (with_reducible apply i_notV)
  | (with_reducible apply i_kAndV)
  | (with_reducible apply i_kOrV)
  | (with_reducible apply i_kNotV)
  | (with_reducible apply i_chain)
  | (with_reducible apply i_kChain)
  | (with_reducible apply i_drop)
  | (with_reducible apply i_ret)
  | (with_reducible apply i_retN)
  | (with_reducible apply i_ifS)
  | (with_reducible apply i_asg)
  | (with_reducible apply i_gName)
  | (with_reducible apply i_for)
  | (with_reducible apply i_lc)
  | (with_reducible apply i_iList)
  | (with_reducible apply i_iTup)
  | (with_reducible apply i_iStr)
  | (with_reducible apply i_kStrI)
  | (with_reducible apply i_lst)
  | (with_reducible apply i_tup)
  | (with_reducible apply i_call)
  | (with_reducible apply i_m1)
  | (with_reducible apply i_kStr)
  | (with_reducible apply i_bm)
  | (with_reducible apply i_bm0)
  | (with_reducible apply i_part)
  | (with_reducible apply i_kInt)
  | (with_reducible apply i_noPart)
  | (with_reducible apply i_sl)
  | (with_reducible apply i_range1)
  | (with_reducible apply i_range2)
  | ((with_reducible apply i_kRng1); (case c => walk_at "side"))
  | ((with_reducible apply i_kRng2); (case c => walk_at "side"))
  | (with_reducible apply i_gCons)
  | (with_reducible apply i_gNil)
  | (with_reducible apply i_gSub)
  | (with_reducible apply i_iZip)
  | (with_reducible apply i_yes)
  | (with_reducible apply i_ift)
  | (with_reducible apply i_iff)
  | (with_reducible apply i_nb))
local macro_rules | `(tactic| walk_at "go") => `(tactic| repeat (first | (with_reducible apply i_seq) | (with_reducible apply i_next) | walk_at "e"))
local macro_rules | `(tactic| walk_at "ge") => `(tactic| repeat walk_at "e")
local macro_rules | `(tactic| walk_at "sz") => `(tactic| first | decide | (rw [sizeLine_eq]; simp; done) | (rw [sizeLine_eq]; omega))
local macro_rules | `(tactic| walk_at "side") => `(tactic| (with_reducible exact WB.most_pos))
local macro_rules | `(tactic| walk_at "e") => `(tactic| first
  | ((with_reducible apply i_isT (b := true)); exact rfl)
  | ((with_reducible apply i_isT (b := false)); exact rfl)
  | (with_reducible apply i_fld)
  | ((with_reducible apply i_kFld); (case h => assumption); (case c1 => assumption); (case c2 => assumption); (case e => first | exact lk_number | exact lk_tail | exact lk_head | exact lk_load | exact lk_oneway | exact lk_points | exact lk_ties | exact lk_given))
  | (with_reducible apply i_sfld)
  | ((with_reducible apply i_kSFld); (case h => first | assumption | exact upd_same); (case c1 => assumption); (case c2 => assumption); (case e => exact Nat.le_of_ble_eq_true rfl))
  | (with_reducible apply i_methC)
  | (with_reducible apply i_make)
  | (with_reducible apply i_fldaug)
  | (with_reducible apply i_vals)
  | (with_reducible apply i_items)
  | (with_reducible apply i_dget)
  | (with_reducible apply i_dput)
  | (with_reducible apply i_din)
  | (with_reducible apply i_dnotin)
  | (with_reducible apply i_ddel)
  | (with_reducible apply i_dc)
  | (with_reducible apply i_enum)
  | (with_reducible apply i_ckw))
local macro_rules | `(tactic| walk_at "jz") => `(tactic| (rw [sizeLine_eq]; (try simp only [TX.len_app, len_e, len_b, len_p, len_g]); omega))
local macro_rules | `(tactic| walk_at "e") => `(tactic| first
  | (with_reducible apply i_tJoin)
  | (with_reducible apply i_tJsC)
  | (with_reducible apply i_tFmt)
  | ((with_reducible apply i_kJ); (case c => walk_at "jz"))
  | ((with_reducible apply i_kFS); (case c => walk_at "jz"))
  | (with_reducible apply i_tJsN))
local macro_rules | `(tactic| walk_at "e") => `(tactic| first
  | ((with_reducible apply i_kDGetS); (case h => assumption); (case e => first | exact md_names | exact md_ties | exact md_given)))
local macro_rules | `(tactic| walk_at "e") => `(tactic| first
  | ((with_reducible apply i_kDGetS); (case h => assumption); (case e => assumption)))
theorem gd_join {ws : List Str} (h : ∀ y ∈ ws, okS y = true ∧ y.length ≤ 62) (hl : ws.length ≤ 12) : Gd (Txt.join " " ws) ∧ (ws.map (·.length)).sum + ws.length * (" " : Str).length ≤ 16777216 := by
  have h1 := TX.sum_le (ys := ws) (k := 62) (fun y hy => (h y hy).2)
  have h2 : ws.length * 62 ≤ 12 * 62 := Nat.mul_le_mul_right _ hl
  have h3 := join_len " " ws
  rw [len_b1] at h3 ⊢
  exact ⟨⟨TX.okS_join (by decide +kernel) fun z hz => (h z hz).1, by omega⟩, by omega⟩
def Sm (y : Str) : Prop := okS y = true ∧ y.length ≤ 62
theorem i_slW {K : PySem.W.Frag} {H : Hp} {Q : VK} {a : Addr} {ws : List Str} {lo hi : Option Int} (h : H a = some (.lst (ws.map V.str))) (q : ∀ p us, H p = none → (∀ u ∈ us, u ∈ ws) → us.length ≤ ws.length → Q (.ref p) (upd H p (.lst ((us : List Str).map V.str)))) : rSlL K (.ref a) lo hi H Q := by
  obtain ⟨us, e, h1, h2⟩ := cut_sub (ws := ws) lo hi
  refine i_slL (SqL.of h) fun p hp => ?_
  rw [e]
  exact q p us hp h1 h2
theorem i_catW {H : Hp} {Q : VK} {a b : Addr} {us ws : List Str} (h1 : H a = some (.lst (us.map V.str))) (h2 : H b = some (.lst (ws.map V.str))) (c : us.length + ws.length ≤ 100) (q : ∀ p, H p = none → Q (.ref p) (upd H p (.lst ((us ++ ws).map V.str)))) : rCat (.ref a) (.ref b) H Q := by
  refine i_cat h1 h2 (by rw [List.length_map, List.length_map, sizeLine_eq]; omega) fun p hp => ?_
  rw [← List.map_append]
  exact q p hp
section
variable {P : Program} {w : World} {K : PySem.W.Frag} {mg : Str → Option Value} {base : Heap}
def sp_lbentl : Sp := fun vs H Q _ => ∃ (ln : Ln) (n : Int), vs = [.str ln.text, .int n] ∧ ln.fine ∧ 0 ≤ n ∧ ∀ y H', Same H H' → Gd y → Q (.str y) H'
theorem one_sm {v : Str} (h : Sm v) : ∀ y ∈ [v], Sm y := fun y hy => by rw [List.mem_singleton.mp hy]; exact h
theorem ok_law_line_bent (T : Tx K mg) : FnOk P w K mg base CX0 1 (He.ga K "_law_line_bent") T.fd_law_line_bent ["_law_line", "_law_n"] sp_lbentl := by
  refine T.F_law_line_bent.ok sc_law_line_bent (fun vs H Q E h => ?_) (fun cdv A outer s H vs Q E hr h => ?_)
  · obtain ⟨_, _, rfl, _⟩ := h
    rfl
  · obtain ⟨ln, n, rfl, hf, n0, q⟩ := h
    have hu := hu_of hr
    refine ⟨_, PSs.nox (pss_cons (ps_set (i := 2) sc_law_line_bent.nd rfl (Or.inl rfl) (x_split (pv 0) pe_str))
      (pss_cons (ps_set (i := 3) sc_law_line_bent.nd rfl (Or.inl rfl) (pe_op op_mod (pv 1) (pe_callB x_lenL (by rfl) T.b_len (by decide +kernel) (pa_cons (pv 2) pa_nil))))
      (pss_cons (ps_set (i := 4) sc_law_line_bent.nd rfl (Or.inl rfl) (pe_lst (pa_cons pe_str (pa_cons pe_str (pa_cons pe_str (pa_cons pe_str (pa_cons pe_str (pa_cons pe_str (pa_cons pe_str (pa_cons pe_str (pa_cons pe_str (pa_cons pe_str (pa_cons pe_str (pa_cons (pe_op x_catS pe_str (pe_op op_repS pe_str pe_int)) (pa_cons (pe_op x_catS pe_str (pe_op op_repS pe_str pe_int)) pa_nil)))))))))))))))
      (pss_cons (ps_set (i := 5) sc_law_line_bent.nd rfl (Or.inl rfl) (pe_ix ix_list (pe_op op_cat (pv 4) (pe_lst (pa_cons (pe_callTy x_strI (by rfl) T.b_str (by decide +kernel) (pa_cons (pe_op op_add (pe_op op_pow pe_int pe_int) pe_int) pa_nil)) (pa_cons (pe_ix ix_list (pv 2) (pe_op op_mod (pe_op op_fdiv (pv 1) pe_int) (pe_callB x_lenL (by rfl) T.b_len (by decide +kernel) (pa_cons (pv 2) pa_nil))) (fun _ _ => rfl)) (pa_cons (pe_op x_catS (pe_ix ix_list (pv 2) (pv 3) (fun _ _ => rfl)) pe_str) pa_nil))))) (pe_op op_mod (pe_op op_fdiv (pv 1) pe_int) pe_int) (fun _ _ => rfl)))
      (pss_cons (ps_if (pt_cmpR op_eq (pe_op op_mod (pe_op op_fdiv (pv 1) pe_int) pe_int) pe_int (nomark _)) (pss_one (ps_ret (x_join pe_str (pe_op op_cat (pe_slice sl_list (pv 2) po_none (po_some (pv 3))) (pe_slice sl_list (pv 2) (po_some (pe_op op_add (pv 3) pe_int)) po_none))))) pss_nil)
      (pss_cons (ps_if (pt_cmpR op_eq (pe_op op_mod (pe_op op_fdiv (pv 1) pe_int) pe_int) pe_int (nomark _)) (pss_one (ps_ret (x_join pe_str (pe_op op_cat (pe_op op_cat (pe_slice sl_list (pv 2) po_none (po_some (pv 3))) (pe_lst (pa_cons (pv 5) pa_nil))) (pe_slice sl_list (pv 2) (po_some (pv 3)) po_none))))) pss_nil)
      (pss_one (ps_ret (x_join pe_str (pe_op op_cat (pe_op op_cat (pe_slice sl_list (pv 2) po_none (po_some (pv 3))) (pe_lst (pa_cons (pv 5) pa_nil))) (pe_slice sl_list (pv 2) (po_some (pe_op op_add (pv 3) pe_int)) po_none))))))))))), ?_⟩
    have hz := Ln.text_len hf
    have hp := Ln.parts hf
    walk_at "go"
    refine i_split (fun pw hpw => ?_) (by decide +kernel) (by rw [sizeLine_eq]; omega)
    rw [hp]
    have s1 : Same H (upd H pw (.lst (ln.words.map V.str))) := Same.new hpw
    have e1 : (upd H pw (.lst (ln.words.map V.str))) pw = some (.lst (ln.words.map V.str)) := upd_same
    generalize upd H pw (.lst (ln.words.map V.str)) = H1 at s1 e1 ⊢
    have hl1 : 1 ≤ ln.words.length := by
      have := Ln.words_ne ln
      cases c : ln.words with
      | nil => exact absurd c this
      | cons _ _ => simp
    have hl5 := Ln.words_len ln
    have hw : ∀ y ∈ ln.words, Sm y := fun y hy => ⟨wd_ok (hf y hy), by have := (hf y hy).2.2; omega⟩
    have hw61 : ∀ y ∈ ln.words, y.length ≤ 61 := fun y hy => (hf y hy).2.2
    generalize ln.words = ws at e1 hl1 hl5 hw hw61
    walk_at "go"
    refine i_lenL (SqL.of e1) ?_
    rw [List.length_map]
    have hpos : (0 : Int) < (ws.length : Int) := by omega
    refine i_rI ?_ hpos
    have a0 : 0 ≤ n % (ws.length : Int) := Int.emod_nonneg _ (by omega)
    have a1 : n % (ws.length : Int) < (ws.length : Int) := Int.emod_lt_of_pos _ hpos
    obtain ⟨u, hu1, hu2, hu3⟩ := pick V.str a0 a1
    generalize n % (ws.length : Int) = at0 at a0 a1 hu1 hu3 ⊢
    walk_at "go"
    refine i_rRepS (by omega) (by omega) (by decide +kernel) (by decide +kernel) ?_
    have r60 : (repS "0" (60 : Int).toNat).length = 60 := by rw [repS_len]; decide +kernel
    have r61 : (repS "0" (61 : Int).toNat).length = 61 := by rw [repS_len]; decide +kernel
    have l1 : ("1" : Str).length = 1 := by decide +kernel
    walk_at "go"
    refine i_rRepS (by omega) (by omega) (by decide +kernel) (by decide +kernel) ?_
    walk_at "go"
    refine ⟨by walk_at "sz", fun p4 hp4 => ?_⟩
    generalize hG : upd H1 p4 _ = H2
    have s2 : Same H1 H2 := by rw [← hG]; exact Same.new hp4
    have e4 : H2 p4 = some (.lst ((["any", "0", "00", "-1", "point", "tie", "way", "given", "", "Z", "5", "1" ++ repS "0" (60 : Int).toNat, "1" ++ repS "0" (61 : Int).toNat] : List Str).map V.str)) := by rw [← hG, upd_same]; rfl
    clear hG
    have hS : ∀ y ∈ (["any", "0", "00", "-1", "point", "tie", "way", "given", "", "Z", "5", "1" ++ repS "0" (60 : Int).toNat, "1" ++ repS "0" (61 : Int).toNat] : List Str), Sm y := by
      intro y hy
      simp only [List.mem_cons, List.not_mem_nil, or_false] at hy
      have big : ∀ k, k ≤ 61 → Sm ("1" ++ repS "0" k) := fun k hk => ⟨TX.okS_app (by decide +kernel) okS_rep, by
        have l0 : ("0" : Str).length = 1 := by decide +kernel
        rw [TX.len_app, repS_len, l1, l0]; omega⟩
      rcases hy with rfl | rfl | rfl | rfl | rfl | rfl | rfl | rfl | rfl | rfl | rfl | rfl | rfl
      all_goals first | exact ⟨by decide +kernel, by decide +kernel⟩ | exact big _ (by decide)
    have hSl : (["any", "0", "00", "-1", "point", "tie", "way", "given", "", "Z", "5", "1" ++ repS "0" (60 : Int).toNat, "1" ++ repS "0" (61 : Int).toNat] : List Str).length = 13 := rfl
    generalize (["any", "0", "00", "-1", "point", "tie", "way", "given", "", "Z", "5", "1" ++ repS "0" (60 : Int).toNat, "1" ++ repS "0" (61 : Int).toNat] : List Str) = SS at e4 hS hSl
    have e2 := s2 _ _ e1
    have em : (10 : Int) ^ (60 : Int).toNat = most := by decide +kernel
    walk_at "go"
    rw [em]
    have mlt : most + 1 < 10 ^ 61 := by decide +kernel
    have m0 : 0 ≤ most + 1 := by decide +kernel
    have gm := nS_log m0 mlt
    have zm := nS_len m0 mlt
    have om := nS_ok m0
    generalize most + 1 = M1 at gm zm om ⊢
    clear em mlt m0
    walk_at "go"
    refine i_lenL (SqL.of e2) ?_
    rw [List.length_map]
    refine i_rI ?_ hpos
    obtain ⟨u2, hv1, hv2, hv3⟩ := pick V.str (xs := ws) (i := n / 7 % (ws.length : Int)) (Int.emod_nonneg _ (by omega)) (Int.emod_lt_of_pos _ hpos)
    refine i_ixL (SqL.of e2) hv3 ?_
    walk_at "go"
    refine i_ixL (SqL.of e2) hu3 ?_
    have hul := hw61 u hu2
    have la : ("a" : Str).length = 1 := by decide +kernel
    walk_at "go"
    refine ⟨by walk_at "sz", fun p5 hp5 => ?_⟩
    generalize hG : upd H2 p5 _ = H3
    have s3 : Same H2 H3 := by rw [← hG]; exact Same.new hp5
    have e5 : H3 p5 = some (.lst ([nS M1, u2, u ++ "a"].map V.str)) := by rw [← hG, upd_same]; rfl
    clear hG
    refine i_catW (s3 _ _ e4) e5 (by rw [hSl]; show 13 + 3 ≤ 100; decide) fun p6 hp6 => ?_
    have s4 : Same H3 (upd H3 p6 (.lst ((SS ++ [nS M1, u2, u ++ "a"]).map V.str))) := Same.new hp6
    have e6 : (upd H3 p6 (.lst ((SS ++ [nS M1, u2, u ++ "a"]).map V.str))) p6 = some (.lst ((SS ++ [nS M1, u2, u ++ "a"]).map V.str)) := upd_same
    generalize upd H3 p6 (.lst ((SS ++ [nS M1, u2, u ++ "a"]).map V.str)) = H4 at s4 e6 ⊢
    have hS2 : ∀ y ∈ SS ++ [nS M1, u2, u ++ "a"], Sm y := fun y hy => by
      rcases List.mem_append.mp hy with hy | hy
      · exact hS y hy
      · simp only [List.mem_cons, List.not_mem_nil, or_false] at hy
        rcases hy with rfl | rfl | rfl
        · exact ⟨om, by omega⟩
        · exact hw _ hv2
        · exact ⟨TX.okS_app (hw _ hu2).1 (by decide +kernel), by rw [TX.len_app, la]; omega⟩
    have hS2l : (SS ++ [nS M1, u2, u ++ "a"]).length = 16 := by rw [List.length_append, hSl]; rfl
    generalize SS ++ [nS M1, u2, u ++ "a"] = S2 at e6 hS2 hS2l
    walk_at "go"
    obtain ⟨v, hx1, hx2, hx3⟩ := pick V.str (xs := S2) (i := n / 30 % 16) (Int.emod_nonneg _ (by omega)) (by rw [hS2l]; exact Int.emod_lt_of_pos _ (by decide))
    refine i_ixL (SqL.of e6) hx3 ?_
    have hv := hS2 _ hx2
    have s14 : Same H H4 := ((s1.trans s2).trans s3).trans s4
    have e14 := (s3.trans s4) _ _ e2
    have sub : ∀ us : List Str, (∀ u ∈ us, u ∈ ws) → ∀ y ∈ us, Sm y := fun us hs y hy => hw y (hs y hy)
    have smapp : ∀ us vs : List Str, (∀ y ∈ us, Sm y) → (∀ y ∈ vs, Sm y) → ∀ y ∈ us ++ vs, Sm y := fun us vs h1 h2 y hy => (List.mem_append.mp hy).elim (h1 y) (h2 y)
    walk_at "go"
    refine i_dec (fun _ => ?_) (fun _ => ?_)
    · walk_at "go"
      refine i_slW e14 fun q1 us1 hq1 m1 l1 => ?_
      have t1 : Same H4 (upd H4 q1 (.lst (us1.map V.str))) := Same.new hq1
      have f1 : (upd H4 q1 (.lst (us1.map V.str))) q1 = some (.lst (us1.map V.str)) := upd_same
      generalize upd H4 q1 (.lst (us1.map V.str)) = H5 at t1 f1 ⊢
      walk_at "go"
      refine i_slW (t1 _ _ e14) fun q2 us2 hq2 m2 l2 => ?_
      have t2 : Same H5 (upd H5 q2 (.lst (us2.map V.str))) := Same.new hq2
      have f2 : (upd H5 q2 (.lst (us2.map V.str))) q2 = some (.lst (us2.map V.str)) := upd_same
      generalize upd H5 q2 (.lst (us2.map V.str)) = H6 at t2 f2 ⊢
      refine i_catW (t2 _ _ f1) f2 (by omega) fun q3 hq3 => ?_
      obtain ⟨g1, g2⟩ := gd_join (ws := us1 ++ us2) (smapp _ _ (sub _ m1) (sub _ m2)) (by rw [List.length_append]; omega)
      refine i_join (SqL.of upd_same) g2 ?_
      exact q _ _ (((s14.trans t1).trans t2).trans (Same.new hq3)) g1
    walk_at "go"
    have vs : [V.str v] = [v].map V.str := rfl
    refine i_dec (fun _ => ?_) (fun _ => ?_)
    · walk_at "go"
      refine i_slW e14 fun q1 us1 hq1 m1 l1 => ?_
      have t1 : Same H4 (upd H4 q1 (.lst (us1.map V.str))) := Same.new hq1
      have f1 : (upd H4 q1 (.lst (us1.map V.str))) q1 = some (.lst (us1.map V.str)) := upd_same
      generalize upd H4 q1 (.lst (us1.map V.str)) = H5 at t1 f1 ⊢
      walk_at "go"
      refine ⟨by walk_at "sz", fun q0 hq0 => ?_⟩
      have t0 : Same H5 (upd H5 q0 (.lst ([v].map V.str))) := Same.new hq0
      have f0 : (upd H5 q0 (.lst ([v].map V.str))) q0 = some (.lst ([v].map V.str)) := upd_same
      rw [vs]
      generalize upd H5 q0 (.lst ([v].map V.str)) = H6 at t0 f0 ⊢
      refine i_catW (t0 _ _ f1) f0 (by show us1.length + 1 ≤ _; omega) fun q3 hq3 => ?_
      have t3 : Same H6 (upd H6 q3 (.lst ((us1 ++ [v]).map V.str))) := Same.new hq3
      have f3 : (upd H6 q3 (.lst ((us1 ++ [v]).map V.str))) q3 = some (.lst ((us1 ++ [v]).map V.str)) := upd_same
      generalize upd H6 q3 (.lst ((us1 ++ [v]).map V.str)) = H7 at t3 f3 ⊢
      have t03 := (t1.trans t0).trans t3
      walk_at "go"
      refine i_slW (t03 _ _ e14) fun q4 us2 hq4 m2 l2 => ?_
      have t4 : Same H7 (upd H7 q4 (.lst (us2.map V.str))) := Same.new hq4
      have f4 : (upd H7 q4 (.lst (us2.map V.str))) q4 = some (.lst (us2.map V.str)) := upd_same
      generalize upd H7 q4 (.lst (us2.map V.str)) = H8 at t4 f4 ⊢
      refine i_catW (t4 _ _ f3) f4 (by rw [List.length_append, List.length_singleton]; omega) fun q5 hq5 => ?_
      obtain ⟨g1, g2⟩ := gd_join (ws := us1 ++ [v] ++ us2) (smapp _ _ (smapp _ _ (sub _ m1) (one_sm hv)) (sub _ m2)) (by rw [List.length_append, List.length_append, List.length_singleton]; omega)
      refine i_join (SqL.of upd_same) g2 ?_
      exact q _ _ (((s14.trans t03).trans t4).trans (Same.new hq5)) g1
    · walk_at "go"
      refine i_slW e14 fun q1 us1 hq1 m1 l1 => ?_
      have t1 : Same H4 (upd H4 q1 (.lst (us1.map V.str))) := Same.new hq1
      have f1 : (upd H4 q1 (.lst (us1.map V.str))) q1 = some (.lst (us1.map V.str)) := upd_same
      generalize upd H4 q1 (.lst (us1.map V.str)) = H5 at t1 f1 ⊢
      walk_at "go"
      refine ⟨by walk_at "sz", fun q0 hq0 => ?_⟩
      have t0 : Same H5 (upd H5 q0 (.lst ([v].map V.str))) := Same.new hq0
      have f0 : (upd H5 q0 (.lst ([v].map V.str))) q0 = some (.lst ([v].map V.str)) := upd_same
      rw [vs]
      generalize upd H5 q0 (.lst ([v].map V.str)) = H6 at t0 f0 ⊢
      refine i_catW (t0 _ _ f1) f0 (by show us1.length + 1 ≤ _; omega) fun q3 hq3 => ?_
      have t3 : Same H6 (upd H6 q3 (.lst ((us1 ++ [v]).map V.str))) := Same.new hq3
      have f3 : (upd H6 q3 (.lst ((us1 ++ [v]).map V.str))) q3 = some (.lst ((us1 ++ [v]).map V.str)) := upd_same
      generalize upd H6 q3 (.lst ((us1 ++ [v]).map V.str)) = H7 at t3 f3 ⊢
      have t03 := (t1.trans t0).trans t3
      walk_at "go"
      refine i_slW (t03 _ _ e14) fun q4 us2 hq4 m2 l2 => ?_
      have t4 : Same H7 (upd H7 q4 (.lst (us2.map V.str))) := Same.new hq4
      have f4 : (upd H7 q4 (.lst (us2.map V.str))) q4 = some (.lst (us2.map V.str)) := upd_same
      generalize upd H7 q4 (.lst (us2.map V.str)) = H8 at t4 f4 ⊢
      refine i_catW (t4 _ _ f3) f4 (by rw [List.length_append, List.length_singleton]; omega) fun q5 hq5 => ?_
      obtain ⟨g1, g2⟩ := gd_join (ws := us1 ++ [v] ++ us2) (smapp _ _ (smapp _ _ (sub _ m1) (one_sm hv)) (sub _ m2)) (by rw [List.length_append, List.length_append, List.length_singleton]; omega)
      refine i_join (SqL.of upd_same) g2 ?_
      exact q _ _ (((s14.trans t03).trans t4).trans (Same.new hq5)) g1
end
end K04

set_option Elab.async false
set_option linter.all false
set_option maxRecDepth 100000
set_option maxHeartbeats 4000000
namespace K04
open PySem PySem.Spec PyProof.Rows L2 HX WB
local macro_rules | `(tactic| walk_at "side") => `(tactic| first
  | assumption
  | rfl
  | (show (0 : Int) < _; omega)
  | (unfold CDiv; omega)
  | (unfold CMul; omega)
  | (unfold CPow; omega)
  | (rw [sizeLine_eq]; omega)
  | omega)
local macro_rules | `(tactic| walk_at "e") => `(tactic| first
  | ((with_reducible apply i_var); exact rfl)
  | (with_reducible apply i_c)
  | (with_reducible apply i_op)
  | (with_reducible apply i_un)
  | (with_reducible apply i_rI0)
  | ((with_reducible apply i_rI); (case c => walk_at "side"))
  | (with_reducible apply i_rGe)
  | (with_reducible apply i_rGt)
  | (with_reducible apply i_rU)
  | (with_reducible apply i_rEqI)
  | (with_reducible apply i_rNeI)
  | (with_reducible apply i_rEqS)
  | (with_reducible apply i_rNeS)
  | (with_reducible apply i_rEqB)
  | (with_reducible apply i_rNeB)
  | (with_reducible apply i_rIsN)
  | (with_reducible apply i_rNotN)
  | (with_reducible apply i_rInS)
  | (with_reducible apply i_rNotInS)
  | ((with_reducible apply i_catS); (case c => walk_at "side"))
  | (with_reducible apply i_tcb)
  | (with_reducible apply i_nil)
  | (with_reducible apply i_cons)
  | ((with_reducible apply i_lenS); (case c => walk_at "side"))
  | ((with_reducible apply i_lenL); assumption)
  | (with_reducible apply i_abs)
  | (with_reducible apply i_max2)
  | (with_reducible apply i_min2)
  | ((with_reducible apply i_strI); (case c => walk_at "side"))
  | (with_reducible apply i_intB)
  | (with_reducible apply i_test)
  | (with_reducible apply i_tB)
  | (with_reducible apply i_kB)
  | (with_reducible apply i_and)
  | (with_reducible apply i_or)
  | (with_reducible apply i_not)
  | (with_reducible apply i_if)
  | (with_reducible apply i_andV)
  | (with_reducible apply i_orV)
  | (with_reducible apply i_notV)
  | (with_reducible apply i_kAndV)
  | (with_reducible apply i_kOrV)
  | (with_reducible apply i_kNotV)
  | (with_reducible apply i_chain)
  | (with_reducible apply i_kChain)
  | (with_reducible apply i_drop)
  | (with_reducible apply i_ret)
  | (with_reducible apply i_retN)
  | (with_reducible apply i_ifS)
  | (with_reducible apply i_asg)
  | (with_reducible apply i_gName)
  | (with_reducible apply i_for)
  | (with_reducible apply i_lc)
  | (with_reducible apply i_iList)
  | (with_reducible apply i_iTup)
  | (with_reducible apply i_iStr)
  | (with_reducible apply i_kStrI)
  | (with_reducible apply i_lst)
  | (with_reducible apply i_tup)
  | (with_reducible apply i_call)
  | (with_reducible apply i_m1)
  | (with_reducible apply i_kStr)
  | (with_reducible apply i_bm)
  | (with_reducible apply i_bm0)
  | (with_reducible apply i_part)
  | (with_reducible apply i_kInt)
  | (with_reducible apply i_noPart)
  | (with_reducible apply i_sl)
  | (with_reducible apply i_range1)
  | (with_reducible apply i_range2)
  | ((with_reducible apply i_kRng1); (case c => walk_at "side"))
  | ((with_reducible apply i_kRng2); (case c => walk_at "side"))
  | (with_reducible apply i_gCons)
  | (with_reducible apply i_gNil)
  | (with_reducible apply i_gSub)
  | (with_reducible apply i_iZip)
  | (with_reducible apply i_yes)
  | (with_reducible apply i_ift)
  | (with_reducible apply i_iff)
  | (with_reducible apply i_nb))
local macro_rules | `(tactic| walk_at "go") => `(tactic| repeat (first | (with_reducible apply i_seq) | (with_reducible apply i_next) | walk_at "e"))
local macro_rules | `(tactic| walk_at "ge") => `(tactic| repeat walk_at "e")
local macro_rules | `(tactic| walk_at "sz") => `(tactic| first | decide | (rw [sizeLine_eq]; simp; done) | (rw [sizeLine_eq]; omega))
local macro_rules | `(tactic| walk_at "side") => `(tactic| (with_reducible exact WB.most_pos))
local macro_rules | `(tactic| walk_at "e") => `(tactic| first
  | ((with_reducible apply i_isT (b := true)); exact rfl)
  | ((with_reducible apply i_isT (b := false)); exact rfl)
  | (with_reducible apply i_fld)
  | ((with_reducible apply i_kFld); (case h => assumption); (case c1 => assumption); (case c2 => assumption); (case e => first | exact lk_number | exact lk_tail | exact lk_head | exact lk_load | exact lk_oneway | exact lk_points | exact lk_ties | exact lk_given))
  | (with_reducible apply i_sfld)
  | ((with_reducible apply i_kSFld); (case h => first | assumption | exact upd_same); (case c1 => assumption); (case c2 => assumption); (case e => exact Nat.le_of_ble_eq_true rfl))
  | (with_reducible apply i_methC)
  | (with_reducible apply i_make)
  | (with_reducible apply i_fldaug)
  | (with_reducible apply i_vals)
  | (with_reducible apply i_items)
  | (with_reducible apply i_dget)
  | (with_reducible apply i_dput)
  | (with_reducible apply i_din)
  | (with_reducible apply i_dnotin)
  | (with_reducible apply i_ddel)
  | (with_reducible apply i_dc)
  | (with_reducible apply i_enum)
  | (with_reducible apply i_ckw))
local macro_rules | `(tactic| walk_at "jz") => `(tactic| (rw [sizeLine_eq]; (try simp only [TX.len_app, len_e, len_b, len_p, len_g]); omega))
local macro_rules | `(tactic| walk_at "e") => `(tactic| first
  | (with_reducible apply i_tJoin)
  | (with_reducible apply i_tJsC)
  | (with_reducible apply i_tFmt)
  | ((with_reducible apply i_kJ); (case c => walk_at "jz"))
  | ((with_reducible apply i_kFS); (case c => walk_at "jz"))
  | (with_reducible apply i_tJsN))
local macro_rules | `(tactic| walk_at "e") => `(tactic| first
  | ((with_reducible apply i_kDGetS); (case h => assumption); (case e => first | exact md_names | exact md_ties | exact md_given)))
local macro_rules | `(tactic| walk_at "e") => `(tactic| first
  | ((with_reducible apply i_kDGetS); (case h => assumption); (case e => assumption)))
theorem i_par {i j : Nat} {ta : TA} {D : Ends} {σ : L2.St} {H : Hp} (q : ta σ H fun vs H1 => ∃ v w, vs = [v, w] ∧ D.nx ((σ.set i (some v)).set j (some w)) H1) : tPar i j ta D σ H := q
theorem gd_line {ln : Ln} (h : ln.fine) : Gd ln.text := ⟨Ln.text_ok h, by have := Ln.text_len h; omega⟩
/-- a list of lines, one of them bent or not -/
def Bd (H : Hp) (b : Addr) : Prop := ∃ xs ds, H b = some (.lst xs) ∧ Items H xs ds ∧ xs.length ≤ 66
theorem Bd.strs {H : Hp} {b : Addr} {zs : List Str} (e : H b = some (.lst (zs.map V.str))) (h : ∀ z ∈ zs, Gd z) (l : zs.length ≤ 66) : Bd H b := ⟨_, _, e, items_strs h, by rw [List.length_map]; exact l⟩
theorem ix_pick {α : Type} {xs : List α} {i : Int} (h0 : 0 ≤ i) (h1 : i < (xs.length : Int)) : ixN xs.length i = some i.toNat ∧ seqIndex? i xs.length = some i.toNat ∧ i.toNat < xs.length := by
  have e : ixN xs.length i = some i.toNat := by
    unfold ixN
    rw [if_pos h0, if_pos h1]
  exact ⟨e, (ixN_seq e).1, (ixN_seq e).2.1⟩
theorem map_erase {α β : Type} (f : α → β) : ∀ (xs : List α) (i : Nat), (xs.map f).eraseIdx i = (xs.eraseIdx i).map f
  | [], _ => rfl
  | _ :: _, 0 => rfl
  | a :: r, i + 1 => by
    show f a :: (r.map f).eraseIdx i = f a :: (r.eraseIdx i).map f
    rw [map_erase f r i]
theorem bd_ins {H : Hp} {f : Addr} {zs : List Str} {v : V} {d : PyData} {i : Nat} (h : ∀ z ∈ zs, Gd z) (l : zs.length ≤ 65) (e : H f = some (.lst ((zs.map V.str).take i ++ [v] ++ (zs.map V.str).drop i))) (hv : LnD H v d) : Bd H f := by
  rw [← List.map_take, ← List.map_drop] at e
  refine ⟨_, (zs.take i).map PyData.str ++ [d] ++ (zs.drop i).map PyData.str, e, Two.app (Two.app (items_strs fun z hz => h z (List.mem_of_mem_take hz)) (.cons hv .nil)) (items_strs fun z hz => h z (List.mem_of_mem_drop hz)), ?_⟩
  rw [List.length_append, List.length_append, List.length_map, List.length_map, List.length_take, List.length_drop, List.length_singleton]
  omega
section
variable {P : Program} {w : World} {K : PySem.W.Frag} {mg : Str → Option Value} {base : Heap}
def sp_lbent : Sp := fun vs H Q _ => ∃ (a : Addr) (lns : List Ln) (c k : Int), vs = [.ref a, .int c, .int k] ∧ H a = some (.lst ((lns.map Ln.text).map V.str)) ∧ (∀ l ∈ lns, l.fine) ∧ 1 ≤ lns.length ∧ lns.length ≤ 65 ∧ 0 ≤ k ∧ k ≤ 1000 ∧ ∀ b H', Same H H' → Bd H' b → Q (.ref b) H'
theorem ok_law_bent (T : Tx K mg) : FnOk P w K mg base CX0 2 (He.ga K "_law_bent") T.fd_law_bent ["_law_lines_here", "_law_cell", "_law_k"] sp_lbent := by
  refine T.F_law_bent.ok sc_law_bent (fun vs H Q E h => ?_) (fun cdv A outer s H vs Q E hr h => ?_)
  · obtain ⟨_, _, _, _, rfl, _⟩ := h
    rfl
  · obtain ⟨a, lns, c, k, rfl, ha, hf, hl1, hl65, k0, k1, q⟩ := h
    have hu := hu_of hr
    refine ⟨_, PSs.nox (pss_cons (ps_set (i := 3) sc_law_bent.nd rfl (Or.inl rfl) (pe_call (ok_law_draw T) (hr.mono (by decide)) (by rfl) T.g_law_draw T.F_law_draw.kp T.k_law_draw .nil pass0 (pa_cons (pv 1) (pa_cons (pv 2) (pa_cons pe_int pa_nil)))))
      (pss_cons (ps_set (i := 4) sc_law_bent.nd rfl (Or.inl rfl) (pe_op op_mod (pe_op op_fdiv (pv 3) pe_int) (pe_callB x_lenL (by rfl) T.b_len (by decide +kernel) (pa_cons (pv 0) pa_nil))))
      (pss_cons (ps_set (i := 5) sc_law_bent.nd rfl (Or.inl rfl) (pe_op op_mod (pe_op op_fdiv (pv 3) pe_int) (pe_callB x_lenL (by rfl) T.b_len (by decide +kernel) (pa_cons (pv 0) pa_nil))))
      (pss_cons (ps_set (i := 6) sc_law_bent.nd rfl (Or.inl rfl) (pe_callTy x_list (by rfl) T.b_list (by decide +kernel) (pa_cons (pv 0) pa_nil)))
      (C8.pss_cut (ps_if (pt_cmpR op_lt (pe_op op_mod (pv 3) pe_int) pe_int (nomark _)) (pss_one (ps_asg (pe_call (ok_law_line_bent T) (hr.mono (by decide)) (by rfl) T.g_law_line_bent T.F_law_line_bent.kp T.k_law_line_bent .nil pass0 (pa_cons (pe_ix ix_list (pv 6) (pv 4) (fun _ _ => rfl)) (pa_cons (pe_call (ok_law_draw T) (hr.mono (by decide)) (by rfl) T.g_law_draw T.F_law_draw.kp T.k_law_draw .nil pass0 (pa_cons (pv 1) (pa_cons (pv 2) (pa_cons pe_int pa_nil)))) pa_nil))) (pg_sub (pv 6) (pv 4) set_list))) (pss_one (ps_if (pt_cmpR op_eq (pe_op op_mod (pv 3) pe_int) pe_int (nomark _)) (pss_one (ps_expr (pe_bm PySem.F.plainAttrs_list PySem.F.slot_list_pop PySem.F.type_list_pop mt_popAt (pv 6) (pa_cons (pv 4) pa_nil)))) (pss_one (ps_if (pt_cmpR op_eq (pe_op op_mod (pv 3) pe_int) pe_int (nomark _)) (pss_one (ps_expr (pe_bm PySem.F.plainAttrs_list PySem.F.slot_list_insert PySem.F.type_list_insert mt_insert (pv 6) (pa_cons (pv 5) (pa_cons (pe_ix ix_list (pv 6) (pv 4) (fun _ _ => rfl)) pa_nil))))) (pss_one (ps_if (pt_cmpR op_eq (pe_op op_mod (pv 3) pe_int) pe_int (nomark _)) (pss_one (ps_asg (pe_tup (pa_cons (pe_ix ix_list (pv 6) (pv 5) (fun _ _ => rfl)) (pa_cons (pe_ix ix_list (pv 6) (pv 4) (fun _ _ => rfl)) pa_nil))) (pg_tup rfl (pgs_cons (pg_sub (pv 6) (pv 4) set_list) (pgs_cons (pg_sub (pv 6) (pv 5) set_list) pgs_nil))))) (pss_one (ps_if (pt_cmpR op_eq (pe_op op_mod (pv 3) pe_int) pe_int (nomark _)) (pss_one (ps_expr (pe_bm PySem.F.plainAttrs_list PySem.F.slot_list_insert PySem.F.type_list_insert mt_insert (pv 6) (pa_cons (pv 5) (pa_cons (pe_bm PySem.F.plainAttrs_list PySem.F.slot_list_pop PySem.F.type_list_pop mt_popAt (pv 6) (pa_cons (pv 4) pa_nil)) pa_nil))))) (pss_one (ps_expr (pe_bm PySem.F.plainAttrs_list PySem.F.slot_list_insert PySem.F.type_list_insert mt_insert (pv 6) (pa_cons (pv 5) (pa_cons (pe_ix ix_list (pe_lst (pa_cons pe_non (pa_cons pe_int (pa_cons pe_str (pa_cons pe_str (pa_cons (pe_lst (pa_cons pe_str pa_nil)) (pa_cons pe_str (pa_cons pe_str (pa_cons pe_bl pa_nil))))))))) (pe_op op_mod (pe_op op_fdiv (pv 3) pe_int) pe_int) (fun _ _ => rfl)) pa_nil))))))))))))))
      (pss_one (ps_ret (pv 6)))))))), ?_⟩
    have hgd : ∀ z ∈ lns.map Ln.text, Gd z := fun z hz => by
      obtain ⟨l, hl, rfl⟩ := List.mem_map.mp hz
      exact gd_line (hf l hl)
    have hL : (lns.map Ln.text).length = lns.length := List.length_map _
    walk_at "go"
    refine ⟨c, k, 40, rfl, k0, k1, by decide, by decide, fun n n0 n1 => ?_⟩
    have hpos : (0 : Int) < ((lns.length : Nat) : Int) := by omega
    walk_at "go"
    refine i_lenL (SqL.of ha) ?_
    rw [List.length_map, hL]
    refine i_rI ?_ hpos
    have a0 : 0 ≤ n / 8 % (lns.length : Int) := Int.emod_nonneg _ (by omega)
    have a1 : n / 8 % (lns.length : Int) < (lns.length : Int) := Int.emod_lt_of_pos _ hpos
    generalize n / 8 % (lns.length : Int) = at0 at a0 a1 ⊢
    walk_at "go"
    refine i_lenL (SqL.of ha) ?_
    rw [List.length_map, hL]
    refine i_rI ?_ hpos
    have b0 : 0 ≤ n / 800 % (lns.length : Int) := Int.emod_nonneg _ (by omega)
    have b1 : n / 800 % (lns.length : Int) < (lns.length : Int) := Int.emod_lt_of_pos _ hpos
    generalize n / 800 % (lns.length : Int) = to0 at b0 b1 ⊢
    walk_at "go"
    refine ⟨a, _, rfl, .inl (SqL.of ha), fun f hf0 => ?_⟩
    have s1 : Same H (upd H f (.lst ((lns.map Ln.text).map V.str))) := Same.new hf0
    have e1 : (upd H f (.lst ((lns.map Ln.text).map V.str))) f = some (.lst ((lns.map Ln.text).map V.str)) := upd_same
    generalize upd H f (.lst ((lns.map Ln.text).map V.str)) = H1 at s1 e1 ⊢
    walk_at "go"
    refine ⟨fun σ' H' => σ' = [some (.ref a), some (.int c), some (.int k), some (.int n), some (.int at0), some (.int to0), some (.ref f)] ∧ Same H H' ∧ Bd H' f, ?_, ?_⟩
    rotate_left
    · rintro σ' H' ⟨rfl, s, b⟩
      walk_at "go"
      exact q f H' s b
    have fin : ∀ {zs : List Str}, (∀ z ∈ zs, Gd z) → zs.length ≤ 66 → Same H (upd H1 f (.lst (zs.map V.str))) ∧ Bd (upd H1 f (.lst (zs.map V.str))) f := fun h l => ⟨Same.mut s1 hf0, .strs upd_same h l⟩
    obtain ⟨x, hx1, hx2, hx3⟩ := pick V.str (xs := lns.map Ln.text) (i := at0) a0 (by rw [hL]; exact a1)
    obtain ⟨y, hy1, hy2, hy3⟩ := pick V.str (xs := lns.map Ln.text) (i := to0) b0 (by rw [hL]; exact b1)
    obtain ⟨i1, i2, i3⟩ := ix_pick (xs := (lns.map Ln.text).map V.str) (i := at0) a0 (by rw [List.length_map, hL]; exact a1)
    obtain ⟨j1, j2, j3⟩ := ix_pick (xs := (lns.map Ln.text).map V.str) (i := to0) b0 (by rw [List.length_map, hL]; exact b1)
    obtain ⟨ln, hln1, hln2⟩ := List.mem_map.mp hx2
    walk_at "go"
    refine i_dec (fun _ => ?_) (fun _ => ?_)
    · walk_at "go"
      refine i_ixL (SqL.of e1) hx3 ?_
      walk_at "go"
      refine ⟨c, k, 41, rfl, k0, k1, by decide, by decide, fun n2 n20 n21 => ?_⟩
      walk_at "go"
      refine ⟨ln, n2, by rw [hln2]; rfl, hf _ hln1, n20, fun z H2 s2 gz => ?_⟩
      walk_at "go"
      refine i_setL (s2 _ _ e1) i1 ?_
      refine ⟨rfl, Same.mut (s1.trans s2) hf0, ?_⟩
      rw [← List.map_set]
      refine .strs upd_same (fun u hu => ?_) (by rw [List.length_set, hL]; omega)
      rcases List.mem_or_eq_of_mem_set hu with h | rfl
      · exact hgd u h
      · exact gz
    walk_at "go"
    refine i_dec (fun _ => ?_) (fun _ => ?_)
    · walk_at "go"
      refine i_kTyL (SqL.of e1) ?_
      walk_at "go"
      refine ⟨f, _, at0, at0.toNat, .str x, rfl, rfl, e1, by omega, by omega, i2, by rw [List.getElem?_map, hx1]; rfl, ?_⟩
      refine ⟨rfl, Same.mut s1 hf0, ?_⟩
      rw [map_erase]
      exact .strs upd_same (fun u hu => hgd u (List.mem_of_mem_eraseIdx hu)) (by have := List.length_eraseIdx_le (lns.map Ln.text) at0.toNat; omega)
    walk_at "go"
    refine i_dec (fun _ => ?_) (fun _ => ?_)
    · walk_at "go"
      refine i_kTyL (SqL.of e1) ?_
      walk_at "go"
      refine i_ixL (SqL.of e1) hx3 ?_
      walk_at "go"
      refine ⟨f, _, to0, .str x, rfl, rfl, e1, by rw [List.length_map, hL, sizeLine_eq]; omega, b0, by omega, ?_⟩
      exact ⟨rfl, Same.mut s1 hf0, bd_ins hgd (by omega) upd_same (.str (hgd x hx2))⟩
    walk_at "go"
    refine i_dec (fun _ => ?_) (fun _ => ?_)
    · walk_at "go"
      refine i_ixL (SqL.of e1) hy3 ?_
      walk_at "go"
      refine i_ixL (SqL.of e1) hx3 ?_
      walk_at "go"
      refine ⟨by walk_at "sz", fun p3 hp3 => ?_⟩
      have s3 : Same H1 (upd H1 p3 (.tup [.str y, .str x])) := Same.new hp3
      have e3 : (upd H1 p3 (.tup [.str y, .str x])) p3 = some (.tup [.str y, .str x]) := upd_same
      generalize upd H1 p3 (.tup [.str y, .str x]) = H2 at s3 e3 ⊢
      walk_at "go"
      refine i_gTup (SqT.of e3) rfl ?_
      walk_at "go"
      refine i_setL (s3 _ _ e1) i1 ?_
      walk_at "go"
      refine i_setL upd_same (by rw [List.length_set]; exact j1) ?_
      walk_at "go"
      refine ⟨rfl, Same.mut (Same.mut (s1.trans s3) hf0) hf0, ?_⟩
      rw [← List.map_set, ← List.map_set]
      refine .strs upd_same (fun u hu => ?_) (by rw [List.length_set, List.length_set, hL]; omega)
      rcases List.mem_or_eq_of_mem_set hu with h | rfl
      · rcases List.mem_or_eq_of_mem_set h with h | rfl
        · exact hgd u h
        · exact hgd _ hy2
      · exact hgd _ hx2
    walk_at "go"
    refine i_dec (fun _ => ?_) (fun _ => ?_)
    · walk_at "go"
      refine i_kTyL (SqL.of e1) ?_
      walk_at "go"
      refine i_kTyL (SqL.of e1) ?_
      walk_at "go"
      refine ⟨f, _, at0, at0.toNat, .str x, rfl, rfl, e1, by omega, by omega, i2, by rw [List.getElem?_map, hx1]; rfl, ?_⟩
      have e2 : (upd H1 f (.lst (((lns.map Ln.text).map V.str).eraseIdx at0.toNat))) f = some (.lst (((lns.map Ln.text).eraseIdx at0.toNat).map V.str)) := by rw [upd_same, map_erase]
      have le := List.length_eraseIdx_le (lns.map Ln.text) at0.toNat
      have s2 : Same H (upd H1 f (.lst (((lns.map Ln.text).map V.str).eraseIdx at0.toNat))) := Same.mut s1 hf0
      generalize upd H1 f (.lst (((lns.map Ln.text).map V.str).eraseIdx at0.toNat)) = H2 at s2 e2 ⊢
      walk_at "go"
      refine ⟨f, _, to0, .str x, rfl, rfl, e2, by rw [List.length_map, sizeLine_eq]; omega, b0, by omega, ?_⟩
      exact ⟨rfl, Same.mut s2 hf0, bd_ins (fun z hz => hgd z (List.mem_of_mem_eraseIdx hz)) (by omega) upd_same (.str (hgd x hx2))⟩
    · walk_at "go"
      refine i_kTyL (SqL.of e1) ?_
      walk_at "go"
      refine ⟨by walk_at "sz", fun p3 hp3 => ?_⟩
      have s3 : Same H1 (upd H1 p3 (.lst [.str "given 0"])) := Same.new hp3
      have e3 : (upd H1 p3 (.lst [.str "given 0"])) p3 = some (.lst [.str "given 0"]) := upd_same
      generalize upd H1 p3 (.lst [.str "given 0"]) = H2 at s3 e3 ⊢
      walk_at "go"
      refine ⟨by walk_at "sz", fun p4 hp4 => ?_⟩
      generalize hG : upd H2 p4 _ = H3
      have s4 : Same H2 H3 := by rw [← hG]; exact Same.new hp4
      have e4 : H3 p4 = some (.lst [.non, .int 5, .str "", .str "point", .ref p3, .str "given 5", .str " given 0", .bl true]) := by rw [← hG, upd_same]
      clear hG
      walk_at "go"
      have g8 : 0 ≤ n / 9 % 8 ∧ n / 9 % 8 < 8 := by omega
      generalize n / 9 % 8 = r at g8 ⊢
      have gs : ∀ z : Str, okS z = true → z.length ≤ 1000 → Gd z := fun z a b => ⟨a, b⟩
      have n3 : p3 ≠ f := fun e => by rw [e, e1] at hp3; cases hp3
      have odd : ∃ v d, atI [V.non, .int 5, .str "", .str "point", .ref p3, .str "given 5", .str " given 0", .bl true] r = some v ∧ ∀ o, LnD (upd H3 f o) v d := by
        obtain ⟨j, rfl⟩ := Int.eq_ofNat_of_zero_le g8.1
        have hj : j < 8 := by omega
        have e3' := s4 _ _ e3
        match j, hj with
        | 0, _ => exact ⟨_, _, atI_nat rfl, fun _ => .non⟩
        | 1, _ => exact ⟨_, _, atI_nat rfl, fun _ => .int 5⟩
        | 2, _ => exact ⟨_, _, atI_nat rfl, fun _ => .str ⟨by decide +kernel, by decide +kernel⟩⟩
        | 3, _ => exact ⟨_, _, atI_nat rfl, fun _ => .str ⟨by decide +kernel, by decide +kernel⟩⟩
        | 4, _ => exact ⟨_, _, atI_nat rfl, fun o => .lst ((upd_ne n3).trans e3') (by decide +kernel)⟩
        | 5, _ => exact ⟨_, _, atI_nat rfl, fun _ => .str ⟨by decide +kernel, by decide +kernel⟩⟩
        | 6, _ => exact ⟨_, _, atI_nat rfl, fun _ => .str ⟨by decide +kernel, by decide +kernel⟩⟩
        | 7, _ => exact ⟨_, _, atI_nat rfl, fun _ => .bl true⟩
      obtain ⟨v, d, ev, hv⟩ := odd
      refine i_ixL (SqL.of e4) ev ?_
      walk_at "go"
      have e1' := (s3.trans s4) _ _ e1
      refine ⟨f, _, to0, v, rfl, rfl, e1', by rw [List.length_map, hL, sizeLine_eq]; omega, b0, by omega, ?_⟩
      exact ⟨rfl, Same.mut ((s1.trans s3).trans s4) hf0, bd_ins hgd (by omega) upd_same (hv _)⟩
end
end K04

set_option Elab.async false
set_option linter.all false
set_option maxRecDepth 100000
set_option maxHeartbeats 4000000
namespace K04
open PySem PySem.Spec PyProof.Rows L2 HX WB
local macro_rules | `(tactic| walk_at "side") => `(tactic| first
  | assumption
  | rfl
  | (show (0 : Int) < _; omega)
  | (unfold CDiv; omega)
  | (unfold CMul; omega)
  | (unfold CPow; omega)
  | (rw [sizeLine_eq]; omega)
  | omega)
local macro_rules | `(tactic| walk_at "e") => `(tactic| first
  | ((with_reducible apply i_var); exact rfl)
  | (with_reducible apply i_c)
  | (with_reducible apply i_op)
  | (with_reducible apply i_un)
  | (with_reducible apply i_rI0)
  | ((with_reducible apply i_rI); (case c => walk_at "side"))
  | (with_reducible apply i_rGe)
  | (with_reducible apply i_rGt)
  | (with_reducible apply i_rU)
  | (with_reducible apply i_rEqI)
  | (with_reducible apply i_rNeI)
  | (with_reducible apply i_rEqS)
  | (with_reducible apply i_rNeS)
  | (with_reducible apply i_rEqB)
  | (with_reducible apply i_rNeB)
  | (with_reducible apply i_rIsN)
  | (with_reducible apply i_rNotN)
  | (with_reducible apply i_rInS)
  | (with_reducible apply i_rNotInS)
  | ((with_reducible apply i_catS); (case c => walk_at "side"))
  | (with_reducible apply i_tcb)
  | (with_reducible apply i_nil)
  | (with_reducible apply i_cons)
  | ((with_reducible apply i_lenS); (case c => walk_at "side"))
  | ((with_reducible apply i_lenL); assumption)
  | (with_reducible apply i_abs)
  | (with_reducible apply i_max2)
  | (with_reducible apply i_min2)
  | ((with_reducible apply i_strI); (case c => walk_at "side"))
  | (with_reducible apply i_intB)
  | (with_reducible apply i_test)
  | (with_reducible apply i_tB)
  | (with_reducible apply i_kB)
  | (with_reducible apply i_and)
  | (with_reducible apply i_or)
  | (with_reducible apply i_not)
  | (with_reducible apply i_if)
  | (with_reducible apply i_andV)
  | (with_reducible apply i_orV)
  | (with_reducible apply i_notV)
  | (with_reducible apply i_kAndV)
  | (with_reducible apply i_kOrV)
  | (with_reducible apply i_kNotV)
  | (with_reducible apply i_chain)
  | (with_reducible apply i_kChain)
  | (with_reducible apply i_drop)
  | (with_reducible apply i_ret)
  | (with_reducible apply i_retN)
  | (with_reducible apply i_ifS)
  | (with_reducible apply i_asg)
  | (with_reducible apply i_gName)
  | (with_reducible apply i_for)
  | (with_reducible apply i_lc)
  | (with_reducible apply i_iList)
  | (with_reducible apply i_iTup)
  | (with_reducible apply i_iStr)
  | (with_reducible apply i_kStrI)
  | (with_reducible apply i_lst)
  | (with_reducible apply i_tup)
  | (with_reducible apply i_call)
  | (with_reducible apply i_m1)
  | (with_reducible apply i_kStr)
  | (with_reducible apply i_bm)
  | (with_reducible apply i_bm0)
  | (with_reducible apply i_part)
  | (with_reducible apply i_kInt)
  | (with_reducible apply i_noPart)
  | (with_reducible apply i_sl)
  | (with_reducible apply i_range1)
  | (with_reducible apply i_range2)
  | ((with_reducible apply i_kRng1); (case c => walk_at "side"))
  | ((with_reducible apply i_kRng2); (case c => walk_at "side"))
  | (with_reducible apply i_gCons)
  | (with_reducible apply i_gNil)
  | (with_reducible apply i_gSub)
  | (with_reducible apply i_iZip)
  | (with_reducible apply i_yes)
  | (with_reducible apply i_ift)
  | (with_reducible apply i_iff)
  | (with_reducible apply i_nb))
local macro_rules | `(tactic| walk_at "go") => `(tactic| repeat (first | (with_reducible apply i_seq) | (with_reducible apply i_next) | walk_at "e"))
local macro_rules | `(tactic| walk_at "ge") => `(tactic| repeat walk_at "e")
local macro_rules | `(tactic| walk_at "sz") => `(tactic| first | decide | (rw [sizeLine_eq]; simp; done) | (rw [sizeLine_eq]; omega))
local macro_rules | `(tactic| walk_at "side") => `(tactic| (with_reducible exact WB.most_pos))
local macro_rules | `(tactic| walk_at "e") => `(tactic| first
  | ((with_reducible apply i_isT (b := true)); exact rfl)
  | ((with_reducible apply i_isT (b := false)); exact rfl)
  | (with_reducible apply i_fld)
  | ((with_reducible apply i_kFld); (case h => assumption); (case c1 => assumption); (case c2 => assumption); (case e => first | exact lk_number | exact lk_tail | exact lk_head | exact lk_load | exact lk_oneway | exact lk_points | exact lk_ties | exact lk_given))
  | (with_reducible apply i_sfld)
  | ((with_reducible apply i_kSFld); (case h => first | assumption | exact upd_same); (case c1 => assumption); (case c2 => assumption); (case e => exact Nat.le_of_ble_eq_true rfl))
  | (with_reducible apply i_methC)
  | (with_reducible apply i_make)
  | (with_reducible apply i_fldaug)
  | (with_reducible apply i_vals)
  | (with_reducible apply i_items)
  | (with_reducible apply i_dget)
  | (with_reducible apply i_dput)
  | (with_reducible apply i_din)
  | (with_reducible apply i_dnotin)
  | (with_reducible apply i_ddel)
  | (with_reducible apply i_dc)
  | (with_reducible apply i_enum)
  | (with_reducible apply i_ckw))
local macro_rules | `(tactic| walk_at "e") => `(tactic| first
  | ((with_reducible apply i_kDGetS); (case h => assumption); (case e => first | exact md_names | exact md_ties | exact md_given)))
local macro_rules | `(tactic| walk_at "e") => `(tactic| first
  | ((with_reducible apply i_kDGetS); (case h => assumption); (case e => assumption)))
theorem web_new {K : PySem.W.Frag} {H : Hp} {p l d dx : Addr} (hp : H p = none) (hdx : H dx = none) (hl0 : (upd (upd H dx (.own p)) p (.ins (He.ga K "Web") dx [])) l = none) (hd0 : (upd (upd H dx (.own p)) p (.ins (He.ga K "Web") dx [])) d = none) (hld : l ≠ d) :
    Same H (upd (upd (upd (upd (upd H dx (.own p)) p (.ins (He.ga K "Web") dx [])) l (.lst [])) d (.dK [])) p (.ins (He.ga K "Web") dx (webFs l d 0))) ∧ WebAt K (upd (upd (upd (upd (upd H dx (.own p)) p (.ins (He.ga K "Web") dx [])) l (.lst [])) d (.dK [])) p (.ins (He.ga K "Web") dx (webFs l d 0))) p l d ⟨[], [], 0⟩ ∧ H l = none ∧ H d = none := by
  have sa : Same H (upd (upd H dx (.own p)) p (.ins (He.ga K "Web") dx [])) := Same.mut (Same.new hdx) hp
  have ea : (upd (upd H dx (.own p)) p (.ins (He.ga K "Web") dx [])) p = some (.ins (He.ga K "Web") dx []) := upd_same
  generalize upd (upd H dx (.own p)) p (.ins (He.ga K "Web") dx []) = Ha at sa ea hl0 hd0 ⊢
  have nlp : l ≠ p := fun e => by rw [e, ea] at hl0; cases hl0
  have ndp : d ≠ p := fun e => by rw [e, ea] at hd0; cases hd0
  exact ⟨Same.mut (Same.mut (Same.mut sa (sa.free hl0)) (sa.free hd0)) hp, ⟨⟨dx, upd_same⟩, (upd_ne nlp).trans ((upd_ne hld).trans upd_same), ⟨[], (upd_ne ndp).trans upd_same, DP.nil⟩⟩, sa.free hl0, sa.free hd0⟩
/-- between the turns -/
structure LI (K : PySem.W.Frag) (H : Hp) (p l d m nl td : Addr) (w : Wb) (ca : Addr) (cs : List Int) (pa : Addr) (pns : List Str) : Prop where
  pair : Pair K H p l d m nl td w
  cells : H ca = some (.lst (cs.map V.int))
  pool : H pa = some (.lst (pns.map V.str))
  n1 : ca ∉ [p, l, d, m, nl, td]
  n2 : pa ∉ [p, l, d, m, nl, td]
theorem LI.same {K : PySem.W.Frag} {H H' : Hp} {p l d m nl td ca pa : Addr} {w : Wb} {cs : List Int} {pns : List Str} (h : LI K H p l d m nl td w ca cs pa pns) (s : Same H H') : LI K H' p l d m nl td w ca cs pa pns :=
  ⟨⟨h.pair.web.same s, h.pair.mod.same s, h.pair.ok, h.pair.ln, h.pair.dt, h.pair.dm⟩, s _ _ h.cells, s _ _ h.pool, h.n1, h.n2⟩
theorem LI.next {K : PySem.W.Frag} {H H' : Hp} {p l d d' m nl td ca pa : Addr} {w w' : Wb} {cs : List Int} {pns : List Str} (h : LI K H p l d m nl td w ca cs pa pns) (hd : d' = d ∨ H d' = none) (hp : Pair K H' p l d' m nl td w') (k : Kp H H' [p, l, d, m, nl, td]) : LI K H' p l d' m nl td w' ca cs pa pns := by
  have off : ∀ {b : Addr} {o : HO}, H b = some o → b ∉ [p, l, d, m, nl, td] → b ∉ [p, l, d', m, nl, td] := fun {b o} e n c => by
    simp only [List.mem_cons, List.not_mem_nil, or_false, not_or] at n c
    obtain ⟨a1, a2, a3, a4, a5, a6⟩ := n
    rcases c with c | c | c | c | c | c
    · exact a1 c
    · exact a2 c
    · rcases hd with z | z
      · exact a3 (c.trans z)
      · rw [c, z] at e; cases e
    · exact a4 c
    · exact a5 c
    · exact a6 c
  exact ⟨hp, k _ _ h.n1 h.cells, k _ _ h.n2 h.pool, off h.cells h.n1, off h.pool h.n2⟩
section
variable {P : Program} {w : World} {K : PySem.W.Frag} {mg : Str → Option Value} {base : Heap}
def sp_built (K : PySem.W.Frag) : Sp := fun vs H Q _ => ∃ ca cs pa pns, vs = [.ref ca, .ref pa] ∧ H ca = some (.lst ((cs : List Int).map V.int)) ∧ cs.length ≤ 63 ∧ H pa = some (.lst ((pns : List Str).map V.str)) ∧ Pool pns ∧
  ∀ t p l d m nl td w H', H' t = some (.tup [.ref p, .ref m, .bl true]) → LI K H' p l d m nl td w ca cs pa pns → w.g ≤ 63 → Q (.ref t) H'
theorem ok_law_built (T : Tx K mg) : FnOk P w K mg base CX0 8 (He.ga K "_law_built") T.fd_law_built ["_law_cells", "_law_pool_here"] (sp_built K) := by
  refine T.F_law_built.ok sc_law_built (fun vs H Q E h => ?_) (fun cdv A outer s H vs Q E hr h => ?_)
  · obtain ⟨_, _, _, _, rfl, _⟩ := h
    rfl
  · obtain ⟨ca, cs, pa, pns, rfl, eca3, hcl, epa, hpool, q⟩ := h
    have hu := hu_of hr
    refine ⟨_, PSs.nox (pss_cons (ps_set (i := 2) sc_law_built.nd rfl (Or.inl rfl) (pe_make0 T.mk_Web (ok_Web_init T) (hr.mono (by decide)) (by rfl) T.g_Web T.k_Web_init .nil pass0))
      (pss_cons (ps_set (i := 3) sc_law_built.nd rfl (Or.inl rfl) (pe_call0 (ok_law_none T) (hr.mono (by decide)) (by rfl) T.g_law_none T.F_law_none.kp T.k_law_none .nil pass0))
      (pss_cons (ps_set (i := 4) sc_law_built.nd rfl (Or.inl rfl) pe_bl)
      (pss_cons (ps_for PassesOwn.never rfl (pi_enum (by rfl) T.b_enumerate (pa_cons (pv 0) pa_nil)) (pg_tup rfl (pgs_cons (pg_name (i := 5) sc_law_built.nd rfl (Or.inl rfl)) (pgs_cons (pg_name (i := 6) sc_law_built.nd rfl (Or.inl rfl)) pgs_nil)))
      (pss_one (ps_set (i := 4) sc_law_built.nd rfl (Or.inl rfl) (pe_and (pe_call (ok_law_deed T) (hr.mono (by decide)) (by rfl) T.g_law_deed T.F_law_deed.kp T.k_law_deed .nil pass0 (pa_cons (pv 2) (pa_cons (pv 3) (pa_cons (pv 1) (pa_cons (pv 6) (pa_cons (pv 5) pa_nil)))))) (pe_one (pv 4))))))
      (pss_one (ps_ret (pe_tup (pa_cons (pv 2) (pa_cons (pv 3) (pa_cons (pv 4) pa_nil)))))))))), ?_⟩
    walk_at "go"
    intro p dx hp hdx hne
    refine ⟨p, dx, rfl, upd_same, fun l d hl hd hld => ⟨rfl, ?_⟩⟩
    obtain ⟨s4, w4, fl, fd⟩ := web_new (K := K) hp hdx hl hd hld
    generalize upd (upd (upd (upd (upd H dx (.own p)) p (.ins (He.ga K "Web") dx [])) l (.lst [])) d (.dK [])) p (.ins (He.ga K "Web") dx (webFs l d 0)) = H4 at s4 w4 ⊢
    walk_at "go"
    refine ⟨rfl, fun m nl td H5 s5 hm hnl htd mod => ?_⟩
    have inv0 : LI K H5 p l d m nl td ⟨[], [], 0⟩ ca cs pa pns := by
      obtain ⟨_, ep⟩ := w4.self
      obtain ⟨_, ed, _⟩ := w4.ties
      have el := w4.pts
      have ne : ∀ {G : Hp} {a b : Addr} {o : HO}, G a = some o → G b = none → a ≠ b := fun {G a b o} e n c => by rw [c, n] at e; cases e
      have eca4 := s4 _ _ eca3
      have epa4 := s4 _ _ epa
      refine ⟨⟨w4.same s5, mod, ⟨by simp, by simp, by simp, by simp, by simp, by simp, by simp⟩, ne el hnl, ne ed htd, ne ed hm⟩, s5 _ _ eca4, s5 _ _ epa4, ?_, ?_⟩
      · simp only [List.mem_cons, List.not_mem_nil, or_false, not_or]
        exact ⟨ne eca3 hp, ne eca3 fl, ne eca3 fd, ne eca4 hm, ne eca4 hnl, ne eca4 htd⟩
      · simp only [List.mem_cons, List.not_mem_nil, or_false, not_or]
        exact ⟨ne epa hp, ne epa fl, ne epa fd, ne epa4 hm, ne epa4 hnl, ne epa4 htd⟩
    walk_at "go"
    refine i_kEnum (SqL.of inv0.cells) ?_
    refine for_it walk_enum (fun i σ H' => (∃ d' w', LI K H' p l d' m nl td w' ca cs pa pns ∧ w'.g ≤ (i : Int)) ∧ ∃ v5 v6, σ = [some (.ref ca), some (.ref pa), some (.ref p), some (.ref m), some (.bl true), v5, v6])
      ⟨⟨d, _, inv0, Int.le_refl 0⟩, none, none, rfl⟩ (fun i σ H' _ h => by obtain ⟨⟨_, _, h, _⟩, _⟩ := h; exact SqL.of h.cells) ?_ ?_
    · rintro i v σ H6 H7 hi ⟨⟨d1, w1, iv6, g6⟩, v5, v6, rfl⟩ ⟨T0, u1, u2, rfl, hT, rfl, hu1, hu2⟩
      rw [List.length_map] at hi
      have hu1 : some (V.int ((i : Nat) : Int)) = some u1 := hu1
      have hu2 : (cs.map V.int)[i]? = some u2 := hu2
      rw [List.getElem?_map, List.getElem?_eq_getElem hi] at hu2
      cases hu1; cases hu2
      have hi63 : i < 63 := by omega
      have sT : Same H6 (upd H6 T0 (.tup [.int (i : Nat), .int cs[i]])) := Same.new hT
      walk_at "go"
      refine i_gTup (SqT.of upd_same) rfl ?_
      generalize upd H6 T0 (.tup [.int (i : Nat), .int cs[i]]) = H7 at sT ⊢
      have iv7 := iv6.same sT
      generalize cs[i] = cell
      walk_at "go"
      refine ⟨p, l, d1, m, nl, td, w1, cell, (i : Nat), pa, pns, rfl, iv7.pair, by omega, by omega, iv7.pool, hpool, fun HA d2 w2 hd2 hp2 hg2 kp2 => ?_⟩
      have ivA := iv7.next hd2 hp2 kp2
      walk_at "go"
      exact ⟨⟨d2, w2, ivA, by push_cast; omega⟩, _, _, rfl⟩
    · rintro σ H6 ⟨⟨d1, w1, iv6, g6⟩, v5, v6, rfl⟩
      rw [List.length_map] at g6
      walk_at "go"
      refine ⟨by walk_at "sz", fun t ht => ?_⟩
      exact q t p l d1 m nl td w1 _ upd_same (iv6.same (Same.new ht)) (by omega)
def sp_law (K : PySem.W.Frag) : Sp := fun vs H Q _ => ∃ (a : Addr) (ns : List Int), vs = [.ref a] ∧ SqL K H a (ns.map V.int) ∧ ns.length ≤ 63 ∧ ∀ H', Q (.bl true) H'
theorem ok_law (T : Tx K mg) (J : Js P w K mg base) (xk : extra K = true) : FnOk P w K mg base CX0 24 (He.ga K "law") T.fd_law ["_law_script"] (sp_law K) := by
  refine T.F_law.ok sc_law (fun vs H Q E h => ?_) (fun cdv A outer s H vs Q E hr h => ?_)
  · obtain ⟨_, _, rfl, _⟩ := h
    rfl
  · obtain ⟨a, ns, rfl, hS, hln, q⟩ := h
    have hu := hu_of hr
    have he : errs K = true := by
      unfold extra at xk
      simp only [Bool.and_eq_true] at xk
      exact xk.2
    obtain ⟨fp, _⟩ := errs_of he
    refine ⟨_, PSs.nox (pss_cons (ps_set (i := 1) sc_law.nd rfl (Or.inl rfl) (pe_slice sl_list (pv 0) po_none (po_some pe_int)))
      (pss_cons (ps_set (i := 2) sc_law.nd rfl (Or.inl rfl) (pe_call (ok_law_pool T) (hr.mono (by decide)) (by rfl) T.g_law_pool T.F_law_pool.kp T.k_law_pool .nil pass0 (pa_cons (pe_callB (cr_sum rfl) (by rfl) T.b_sum (by decide +kernel) (pa_cons (pe_slice sl_list (pv 1) po_none (po_some pe_int)) pa_nil)) pa_nil)))
      (pss_cons (ps_asg (pe_call (ok_law_built T) (hr.mono (by decide)) (by rfl) T.g_law_built T.F_law_built.kp T.k_law_built .nil pass0 (pa_cons (pv 1) (pa_cons (pv 2) pa_nil))) (pg_tup rfl (pgs_cons (pg_name (i := 3) sc_law.nd rfl (Or.inl rfl)) (pgs_cons (pg_name (i := 4) sc_law.nd rfl (Or.inl rfl)) (pgs_cons (pg_name (i := 5) sc_law.nd rfl (Or.inl rfl)) pgs_nil)))))
      (pss_cons (ps_set (i := 6) sc_law.nd rfl (Or.inl rfl) (pe_call (ok_law_lines T) (hr.mono (by decide)) (by rfl) T.g_law_lines T.F_law_lines.kp T.k_law_lines .nil pass0 (pa_cons (pv 4) pa_nil)))
      (pss_cons (ps_for PassesOwn.never rfl (pi_range1 rfl T.b_range (pa_cons pe_int pa_nil)) (pg_name (i := 7) sc_law.nd rfl (Or.inl rfl))
      (pss_cons (ps_set (i := 8) sc_law.nd rfl (Or.inl rfl) (pe_call (ok_web_lines T) (hr.mono (by decide)) (by rfl) T.g_web_lines T.F_web_lines.kp T.k_web_lines .nil pass0 (pa_cons (pv 3) pa_nil)))
      (pss_cons (ps_if (PW.pt (pw_or (pt_not (pt_val (pv 5))) (pw_or (pt_not (pt_val (pe_callB call_isi (by rfl) T.b_isinstance (by decide +kernel) (pa_cons (pv 8) (pa_cons (pe_bltn (v := .ty "list") rfl T.b_list (by decide +kernel) rfl) pa_nil))))) (pw_or1 (pt_cmpR (op_neD hr.units) (pv 8) (pv 6) (nomark _)))))) (pss_one (ps_ret pe_bl)) pss_nil)
      (pss_one (ps_expr (pe_bm PySem.F.plainAttrs_list PySem.F.slot_list_append PySem.F.type_list_append mt_append (pv 8) (pa_cons pe_str pa_nil)))))))
      (pss_cons (ps_if (pt_not (pt_val (pe_call (ok_law_good T J) (hr.mono (by decide)) (by rfl) T.g_law_good T.F_law_good.kp T.k_law_good .nil pass0 (pa_cons (pv 6) pa_nil)))) (pss_one (ps_ret pe_bl)) pss_nil)
      (pss_cons (ps_for PassesOwn.never rfl (pi_enum (by rfl) T.b_enumerate (pa_cons (pe_slice sl_list (pv 1) po_none (po_some pe_int)) pa_nil)) (pg_tup rfl (pgs_cons (pg_name (i := 9) sc_law.nd rfl (Or.inl rfl)) (pgs_cons (pg_name (i := 10) sc_law.nd rfl (Or.inl rfl)) pgs_nil)))
      (pss_one (ps_if (pt_not (pt_val (pe_call (ok_law_good T J) (hr.mono (by decide)) (by rfl) T.g_law_good T.F_law_good.kp T.k_law_good .nil pass0 (pa_cons (pe_call (ok_law_bent T) (hr.mono (by decide)) (by rfl) T.g_law_bent T.F_law_bent.kp T.k_law_bent .nil pass0 (pa_cons (pv 6) (pa_cons (pv 10) (pa_cons (pv 9) pa_nil)))) pa_nil)))) (pss_one (ps_ret pe_bl)) pss_nil)))
      (pss_cons (ps_set (i := 11) sc_law.nd rfl (Or.inl rfl) (pe_ix ix_list (pe_lst (pa_cons pe_non (pa_cons pe_int (pa_cons pe_str (pa_cons (pe_tup (pa_cons pe_str pa_nil)) (pa_cons pe_dnewK (pa_cons pe_bl pa_nil))))))) (pe_op op_mod (pe_call (ok_law_draw T) (hr.mono (by decide)) (by rfl) T.g_law_draw T.F_law_draw.kp T.k_law_draw .nil pass0 (pa_cons (pe_callB (cr_sum rfl) (by rfl) T.b_sum (by decide +kernel) (pa_cons (pe_slice sl_list (pv 1) po_none (po_some pe_int)) pa_nil)) (pa_cons pe_int (pa_cons pe_int pa_nil)))) pe_int) (fun _ _ => rfl)))
      (pss_cons (ps_asg (pe_call (ok_law_tried T J) (hr.mono (by decide)) (by rfl) T.g_law_tried T.F_law_tried.kp T.k_law_tried .nil pass0 (pa_cons (pv 11) pa_nil)) (pg_tup rfl (pgs_cons (pg_name (i := 3) sc_law.nd rfl (Or.inl rfl)) (pgs_cons (pg_name (i := 12) sc_law.nd rfl (Or.inl rfl)) pgs_nil))))
      (pss_one (ps_ret (pe_and (pe_cmpR op_eq (pe_call (ok_law_word T) (hr.mono (by decide)) (by rfl) T.g_law_word T.F_law_word.kp T.k_law_word .nil pass0 (pa_cons (pv 12) pa_nil)) pe_str (nomark _)) (pe_one (pe_call (ok_law_whole T) (hr.mono (by decide)) (by rfl) T.g_law_whole T.F_law_whole.kp T.k_law_whole .nil pass0 (pa_cons (EVV.pe_errF (pv 12)) (pa_cons pe_int pa_nil)))))))))))))))), ?_⟩
    walk_at "go"
    refine i_slL hS fun ca hca => ?_
    rw [cut_pre V.int ns (by decide)]
    have eca : (upd H ca (.lst ((ns.take (63 : Int).toNat).map V.int))) ca = some (.lst ((ns.take (63 : Int).toNat).map V.int)) := upd_same
    have hcl : (ns.take (63 : Int).toNat).length ≤ 63 := by
      rw [List.length_take]; show min 63 _ ≤ 63; omega
    generalize ns.take (63 : Int).toNat = cs at eca hcl ⊢
    generalize upd H ca (.lst (cs.map V.int)) = H1 at eca ⊢
    walk_at "go"
    refine i_slL (SqL.of eca) fun p2 hp2 => ?_
    rw [cut_pre V.int cs (by decide)]
    have s2 : Same H1 (upd H1 p2 (.lst ((cs.take (3 : Int).toNat).map V.int))) := Same.new hp2
    have e2 : (upd H1 p2 (.lst ((cs.take (3 : Int).toNat).map V.int))) p2 = some (.lst ((cs.take (3 : Int).toNat).map V.int)) := upd_same
    generalize upd H1 p2 (.lst ((cs.take (3 : Int).toNat).map V.int)) = H2 at s2 e2 ⊢
    have eca2 := s2 _ _ eca
    walk_at "go"
    refine ⟨p2, _, rfl, SqL.of e2, ?_⟩
    walk_at "go"
    refine ⟨_, rfl, fun pa pns H3 s3 hpa epa hpool => ?_⟩
    have eca3 := s3 _ _ eca2
    walk_at "go"
    refine ⟨ca, cs, pa, pns, rfl, eca3, hcl, epa, hpool, fun t p l d m nl td w H4 et iv g63 => ?_⟩
    have ok := iv.pair.ok
    have hgm : w.g ≤ most := Int.le_trans g63 (by decide +kernel)
    have fine := lines_fine ok hgm
    have llen := lines_len ok
    have lpos : 1 ≤ (WB.linesOf w).length := by unfold WB.linesOf; simp only [List.length_append, List.length_singleton]; omega
    walk_at "go"
    refine i_gTup (SqT.of et) rfl ?_
    walk_at "go"
    refine ⟨m, nl, td, w, rfl, iv.pair.mod, ok, hgm, fun la H5 s5 hla ela => ?_⟩
    have iv5 := iv.same s5
    have tgd : ∀ z ∈ textsOf w, Gd z := fun z hz => by
      obtain ⟨ln, hl, rfl⟩ := List.mem_map.mp hz
      exact gd_line (fine ln hl)
    have tlen : (textsOf w).length ≤ 65 := by unfold textsOf; rw [List.length_map]; exact llen
    walk_at "go"
    refine for_it walk_range (fun i σ H' => Same H5 H' ∧ ∃ v7 v8 v9 v10 v11 v12, σ = [some (.ref a), some (.ref ca), some (.ref pa), some (.ref p), some (.ref m), some (.bl true), some (.ref la), v7, v8, v9, v10, v11, v12])
      ⟨Same.refl _, none, none, none, none, none, none, rfl⟩ (fun _ _ _ _ _ => trivial) ?_ ?_
    · rintro i v σ H6 H7 hi ⟨s6, v7, v8, v9, v10, v11, v12, rfl⟩ ⟨rfl, hv⟩
      have iv6 := iv5.same s6
      walk_at "go"
      refine ⟨p, l, d, w, rfl, iv6.pair.web, ok, hgm, fun fa H8 s8 hfa efa => ?_⟩
      have s68 := s6.trans s8
      walk_at "go"
      refine i_isL efa ?_
      walk_at "go"
      refine i_neSame (SqL.of efa) (SqL.of (s68 _ _ ela)) (fun z hz => (tgd z hz).1) ?_
      walk_at "go"
      refine i_kTyL (SqL.of efa) ?_
      walk_at "go"
      refine i_append efa ?_ (by rw [List.length_map, sizeLine_eq]; omega)
      exact ⟨Same.mut s68 (s6.free hfa), _, _, _, _, _, _, rfl⟩
    rintro σ H6 ⟨s6, v7, v8, v9, v10, v11, v12, rfl⟩
    have ela6 := s6 _ _ ela
    have eca6 := (s5.trans s6) _ _ iv.cells
    clear iv iv5
    walk_at "go"
    refine ⟨la, _, _, rfl, ela6, items_strs tgd, by rw [List.length_map]; omega, he, fun H7 s7 => ?_⟩
    have ela7 := s7 _ _ ela6
    have eca7 := s7 _ _ eca6
    walk_at "go"
    refine i_slL (SqL.of eca7) fun p3 hp3 => ?_
    rw [cut_pre V.int cs (by decide)]
    have s8 : Same H7 (upd H7 p3 (.lst ((cs.take (12 : Int).toNat).map V.int))) := Same.new hp3
    have e8 : (upd H7 p3 (.lst ((cs.take (12 : Int).toNat).map V.int))) p3 = some (.lst ((cs.take (12 : Int).toNat).map V.int)) := upd_same
    generalize upd H7 p3 (.lst ((cs.take (12 : Int).toNat).map V.int)) = H8 at s8 e8 ⊢
    have hc12 : (cs.take (12 : Int).toNat).length ≤ 12 := by
      rw [List.length_take]; show min 12 _ ≤ 12; omega
    generalize cs.take (12 : Int).toNat = c12 at e8 hc12
    have ela8 := s8 _ _ ela7
    have eca8 := s8 _ _ eca7
    walk_at "go"
    refine i_kEnum (SqL.of e8) ?_
    refine for_it walk_enum (fun i σ H' => Same H8 H' ∧ ∃ v7 v8 v9 v10 v11 v12, σ = [some (.ref a), some (.ref ca), some (.ref pa), some (.ref p), some (.ref m), some (.bl true), some (.ref la), v7, v8, v9, v10, v11, v12])
      ⟨Same.refl _, _, _, _, _, _, _, rfl⟩ (fun i σ H' _ h => SqL.of (h.1 _ _ e8)) ?_ ?_
    · rintro i v σ H9 HA hi ⟨s9, w7, w8, w9, w10, w11, w12, rfl⟩ ⟨T0, u1, u2, rfl, hT, rfl, hu1, hu2⟩
      rw [List.length_map] at hi
      have hu1 : some (V.int ((i : Nat) : Int)) = some u1 := hu1
      have hu2 : (c12.map V.int)[i]? = some u2 := hu2
      rw [List.getElem?_map, List.getElem?_eq_getElem hi] at hu2
      cases hu1; cases hu2
      have sT : Same H9 (upd H9 T0 (.tup [.int (i : Nat), .int c12[i]])) := Same.new hT
      walk_at "go"
      refine i_gTup (SqT.of upd_same) rfl ?_
      generalize upd H9 T0 (.tup [.int (i : Nat), .int c12[i]]) = HB at sT ⊢
      walk_at "go"
      refine ⟨la, WB.linesOf w, _, (i : Nat), rfl, (s9.trans sT) _ _ ela8, fine, lpos, llen, by omega, by omega, fun b HC sC bd => ?_⟩
      obtain ⟨xs, ds, eb, hit, hl66⟩ := bd
      walk_at "go"
      refine ⟨b, xs, ds, rfl, eb, hit, by omega, he, fun HD sD => ?_⟩
      walk_at "go"
      exact ⟨((s9.trans sT).trans sC).trans sD, _, _, _, _, _, _, rfl⟩
    rintro σ H9 ⟨s9, w7, w8, w9, w10, w11, w12, rfl⟩
    have eca9 := s9 _ _ eca8
    clear s9
    walk_at "go"
    refine ⟨by walk_at "sz", fun p4 hp4 => ?_⟩
    have sA : Same H9 (upd H9 p4 (.tup [.str "given 0"])) := Same.new hp4
    have eA : (upd H9 p4 (.tup [.str "given 0"])) p4 = some (.tup [.str "given 0"]) := upd_same
    generalize upd H9 p4 (.tup [.str "given 0"]) = HA at sA eA ⊢
    walk_at "go"
    intro p5 hp5
    have sB : Same HA (upd HA p5 (.dK [])) := Same.new hp5
    have eB : (upd HA p5 (.dK [])) p5 = some (.dK []) := upd_same
    generalize upd HA p5 (.dK []) = HB at sB eB ⊢
    walk_at "go"
    refine ⟨by walk_at "sz", fun p6 hp6 => ?_⟩
    generalize hG : upd HB p6 _ = HC
    have sC : Same HB HC := by rw [← hG]; exact Same.new hp6
    have eC : HC p6 = some (.lst [.non, .int 5, .str "given 0", .ref p4, .ref p5, .bl true]) := by rw [← hG, upd_same]
    clear hG
    have ecaC := sC _ _ (sB _ _ (sA _ _ eca9))
    walk_at "go"
    refine i_slL (SqL.of ecaC) fun p7 hp7 => ?_
    rw [cut_pre V.int cs (by decide)]
    have sD : Same HC (upd HC p7 (.lst ((cs.take (2 : Int).toNat).map V.int))) := Same.new hp7
    have eD : (upd HC p7 (.lst ((cs.take (2 : Int).toNat).map V.int))) p7 = some (.lst ((cs.take (2 : Int).toNat).map V.int)) := upd_same
    generalize upd HC p7 (.lst ((cs.take (2 : Int).toNat).map V.int)) = HD at sD eD ⊢
    walk_at "go"
    refine ⟨p7, _, rfl, SqL.of eD, ?_⟩
    walk_at "go"
    refine ⟨_, 9, 1, rfl, by decide, by decide, by decide, by decide, fun n n0 n1 => ?_⟩
    walk_at "go"
    have g6 : 0 ≤ n % 6 ∧ n % 6 < 6 := by omega
    generalize n % 6 = r at g6 ⊢
    have odd : ∃ v n, atI [V.non, .int 5, .str "given 0", .ref p4, .ref p5, .bl true] r = some v ∧ EVV.HasTy K HD v n ∧ kitB n "list" = some false := by
      obtain ⟨j, rfl⟩ := Int.eq_ofNat_of_zero_le g6.1
      have hj : j < 6 := by omega
      have e4 := sD _ _ (sC _ _ (sB _ _ eA))
      have e5 := sD _ _ (sC _ _ eB)
      match j, hj with
      | 0, _ => exact ⟨_, "NoneType", atI_nat rfl, .base .non, by decide +kernel⟩
      | 1, _ => exact ⟨_, "int", atI_nat rfl, .base (.int 5), by decide +kernel⟩
      | 2, _ => exact ⟨_, "str", atI_nat rfl, .base (.str _), by decide +kernel⟩
      | 3, _ => exact ⟨_, "tuple", atI_nat rfl, .base (.tup e4), by decide +kernel⟩
      | 4, _ => exact ⟨_, "dict", atI_nat rfl, .base (.dK e5), by decide +kernel⟩
      | 5, _ => exact ⟨_, "bool", atI_nat rfl, .base (.bl true), by decide +kernel⟩
    obtain ⟨v, tn, ev, t1, t2⟩ := odd
    refine i_ixL (SqL.of (sD _ _ eC)) ev ?_
    walk_at "go"
    refine ⟨v, .inl 0, rfl, .inr ⟨⟨tn, t1, t2⟩, rfl⟩, fun w t p l d H3 er2 => (by cases er2), fun j t b dd HE er2 sE ht et ea ed => ?_⟩
    cases er2
    walk_at "go"
    refine i_gTup (SqT.of et) rfl ?_
    walk_at "go"
    refine ⟨b, "BadLine", some dd, rfl, (by unfold isEr rcs; simp), ea, he, fun HF sF => ?_⟩
    rw [show wordE "BadLine" = ("line" : Str) from by decide +kernel]
    walk_at "go"
    refine i_dec (fun _ => ?_) (fun c => absurd rfl c)
    walk_at "go"
    refine EVV.i_errF ?_
    walk_at "go"
    refine EVV.i_kErrF (sF _ _ ea.at_) fp (sF _ _ ed) ?_
    walk_at "go"
    refine ⟨_, _, rfl, ?_⟩
    exact q HF
end
end K04

set_option Elab.async false
set_option linter.all false
set_option maxRecDepth 100000
set_option maxHeartbeats 4000000
namespace K04
open PySem PySem.Spec PyProof.Rows L2 HX WB

theorem facts {P : Program} {w : World} {K : PySem.W.Frag} {h : Heap} {mg : Str → Option Value} {f : Addr} (X : K.In h) (G : h.Ns mainGlobals mg) (hfa : mg ("law" : Str) = some (.ref f)) (c0 : He.SaysX extra fa fn K) (hP : P.main.file = "/claim/cut.py") (hsup : (P.main.scope.names.lookup ("super" : Str)).isSome = false) :
    ∃ fd : FuncData, (∀ (s : Shared) (v : Value), BindsTo s fd ⟨[v], []⟩ [("_law_script", v)]) ∧ ∀ base : Heap, K.In base → base.Ns mainGlobals mg → FnOk P w K mg base CX0 24 f fd ["_law_script"] (sp_law K) := by
  obtain ⟨xk, c⟩ := c0.both
  obtain ⟨fd0, F0⟩ := c.def_ 0 (d := d_wall) rfl
  obtain ⟨fd1, F1⟩ := c.def_ 1 (d := d_has_only) rfl
  obtain ⟨fd2, F2⟩ := c.def_ 2 (d := d_is_whole) rfl
  obtain ⟨fd3, F3⟩ := c.def_ 3 (d := d_is_among) rfl
  obtain ⟨fd4, F4⟩ := c.def_ 4 (d := d_is_name) rfl
  obtain ⟨fd5, F5⟩ := c.def_ 5 (d := d_number_text) rfl
  obtain ⟨fd6, F6⟩ := c.def_ 6 (d := d_number_of) rfl
  obtain ⟨fd7, F7⟩ := c.def_ 7 (d := d_words_of) rfl
  obtain ⟨fd8, F8⟩ := c.def_ 8 (d := d_Tie_init) rfl
  obtain ⟨fd9, F9⟩ := c.def_ 9 (d := d_between) rfl
  obtain ⟨fd10, F10⟩ := c.def_ 10 (d := d_turned) rfl
  obtain ⟨fd11, F11⟩ := c.def_ 11 (d := d_Web_init) rfl
  obtain ⟨fd12, F12⟩ := c.def_ 12 (d := d_Web_points) rfl
  obtain ⟨fd13, F13⟩ := c.def_ 13 (d := d_Web_ties) rfl
  obtain ⟨fd14, F14⟩ := c.def_ 14 (d := d_Web_given) rfl
  obtain ⟨fd15, F15⟩ := c.def_ 15 (d := d_Web_put_point) rfl
  obtain ⟨fd16, F16⟩ := c.def_ 16 (d := d_Web_drop_point) rfl
  obtain ⟨fd17, F17⟩ := c.def_ 17 (d := d_Web_rename) rfl
  obtain ⟨fd18, F18⟩ := c.def_ 18 (d := d_Web_put_tie) rfl
  obtain ⟨fd19, F19⟩ := c.def_ 19 (d := d_Web_drop_tie) rfl
  obtain ⟨fd20, F20⟩ := c.def_ 20 (d := d_Web_set_load) rfl
  obtain ⟨fd21, F21⟩ := c.def_ 21 (d := d_Web_join) rfl
  obtain ⟨fd22, F22⟩ := c.def_ 22 (d := d_Web_part) rfl
  obtain ⟨fd23, F23⟩ := c.def_ 23 (d := d_Web_need_point) rfl
  obtain ⟨fd24, F24⟩ := c.def_ 24 (d := d_Web_need_new_name) rfl
  obtain ⟨fd25, F25⟩ := c.def_ 25 (d := d_Web_need_new_point) rfl
  obtain ⟨fd26, F26⟩ := c.def_ 26 (d := d_Web_need_tie) rfl
  obtain ⟨fd27, F27⟩ := c.def_ 27 (d := d_Web_need_ties_at) rfl
  obtain ⟨fd28, F28⟩ := c.def_ 28 (d := d_need_load) rfl
  obtain ⟨fd29, F29⟩ := c.def_ 29 (d := d_tie_line) rfl
  obtain ⟨fd30, F30⟩ := c.def_ 30 (d := d_web_lines) rfl
  obtain ⟨fd31, F31⟩ := c.def_ 31 (d := d_put_point_words) rfl
  obtain ⟨fd32, F32⟩ := c.def_ 32 (d := d_put_tie_words) rfl
  obtain ⟨fd33, F33⟩ := c.def_ 33 (d := d_set_given_words) rfl
  obtain ⟨fd34, F34⟩ := c.def_ 34 (d := d_take_words) rfl
  obtain ⟨fd35, F35⟩ := c.def_ 35 (d := d_stands) rfl
  obtain ⟨fd36, F36⟩ := c.def_ 36 (d := d_web_of) rfl
  obtain ⟨fd37, F37⟩ := c.def_ 37 (d := d_law_draw) rfl
  obtain ⟨fd38, F38⟩ := c.def_ 38 (d := d_law_load) rfl
  obtain ⟨fd39, F39⟩ := c.def_ 39 (d := d_law_pool) rfl
  obtain ⟨fd40, F40⟩ := c.def_ 40 (d := d_law_whole) rfl
  obtain ⟨fd41, F41⟩ := c.def_ 41 (d := d_law_put_tie) rfl
  obtain ⟨fd42, F42⟩ := c.def_ 42 (d := d_law_tie_changed) rfl
  obtain ⟨fd43, F43⟩ := c.def_ 43 (d := d_law_moved) rfl
  obtain ⟨fd44, F44⟩ := c.def_ 44 (d := d_law_at) rfl
  obtain ⟨fd45, F45⟩ := c.def_ 45 (d := d_law_point_changed) rfl
  obtain ⟨fd46, F46⟩ := c.def_ 46 (d := d_law_deed) rfl
  obtain ⟨fd47, F47⟩ := c.def_ 47 (d := d_law_row) rfl
  obtain ⟨fd48, F48⟩ := c.def_ 48 (d := d_law_rows) rfl
  obtain ⟨fd49, F49⟩ := c.def_ 49 (d := d_law_stands) rfl
  obtain ⟨fd50, F50⟩ := c.def_ 50 (d := d_law_none) rfl
  obtain ⟨fd51, F51⟩ := c.def_ 51 (d := d_law_built) rfl
  obtain ⟨fd52, F52⟩ := c.def_ 52 (d := d_law_word) rfl
  obtain ⟨fd53, F53⟩ := c.def_ 53 (d := d_law_lines) rfl
  obtain ⟨fd54, F54⟩ := c.def_ 54 (d := d_law_number) rfl
  obtain ⟨fd55, F55⟩ := c.def_ 55 (d := d_law_is_name) rfl
  obtain ⟨fd56, F56⟩ := c.def_ 56 (d := d_law_among) rfl
  obtain ⟨fd57, F57⟩ := c.def_ 57 (d := d_law_tie_read) rfl
  obtain ⟨fd58, F58⟩ := c.def_ 58 (d := d_law_line_read) rfl
  obtain ⟨fd59, F59⟩ := c.def_ 59 (d := d_law_read) rfl
  obtain ⟨fd60, F60⟩ := c.def_ 60 (d := d_law_line_bent) rfl
  obtain ⟨fd61, F61⟩ := c.def_ 61 (d := d_law_bent) rfl
  obtain ⟨fd62, F62⟩ := c.def_ 62 (d := d_law_tried) rfl
  obtain ⟨fd63, F63⟩ := c.def_ 63 (d := d_law_good) rfl
  obtain ⟨fd64, F64⟩ := c.def_ 64 (d := d_law) rfl
  let T : Tx K mg := {
    b_ValueError := He.free_ok X G (c.fact 0 (f := .free "ValueError") rfl),
    b_bool := He.free_ok X G (c.fact 1 (f := .free "bool") rfl),
    b_enumerate := He.free_ok X G (c.fact 2 (f := .free "enumerate") rfl),
    b_int := He.free_ok X G (c.fact 3 (f := .free "int") rfl),
    b_isinstance := He.free_ok X G (c.fact 4 (f := .free "isinstance") rfl),
    b_len := He.free_ok X G (c.fact 5 (f := .free "len") rfl),
    b_list := He.free_ok X G (c.fact 6 (f := .free "list") rfl),
    b_range := He.free_ok X G (c.fact 7 (f := .free "range") rfl),
    b_set := He.free_ok X G (c.fact 8 (f := .free "set") rfl),
    b_sorted := He.free_ok X G (c.fact 9 (f := .free "sorted") rfl),
    b_str := He.free_ok X G (c.fact 10 (f := .free "str") rfl),
    b_sum := He.free_ok X G (c.fact 11 (f := .free "sum") rfl),
    b_zip := He.free_ok X G (c.fact 12 (f := .free "zip") rfl),
    c_LETTERS := He.str_ok X G (c.fact 13 (f := .str "LETTERS" "abcdefghijklmnopqrstuvwxyz") rfl),
    c_FIGURES := He.str_ok X G (c.fact 14 (f := .str "FIGURES" "0123456789") rfl),
    c_MOST_LETTERS := He.int_ok X G (c.fact 15 (f := .int "MOST_LETTERS" 12) rfl),
    c_MOST_FIGURES := He.int_ok X G (c.fact 16 (f := .int "MOST_FIGURES" 61) rfl),
    c_MOST := He.int_ok X G (c.fact 17 (f := .int "MOST" 1000000000000000000000000000000000000000000000000000000000000) rfl),
    c_MOST_POINTS := He.int_ok X G (c.fact 18 (f := .int "MOST_POINTS" 16) rfl),
    c_MOST_TIES := He.int_ok X G (c.fact 19 (f := .int "MOST_TIES" 48) rfl),
    g_Tie := He.glo_ok X G (c.fact 20 (f := .glo "Tie") rfl),
    cl_Tie := He.cls_ok (c.fact 21 (f := .cls "Tie") rfl),
    mk_Tie := He.mkr_ok (c.fact 22 (f := .mkr "Tie") rfl),
    na_Tie_number := He.noat_ok (c.fact 23 (f := .noat "Tie" "number") rfl),
    na_Tie_tail := He.noat_ok (c.fact 24 (f := .noat "Tie" "tail") rfl),
    na_Tie_head := He.noat_ok (c.fact 25 (f := .noat "Tie" "head") rfl),
    na_Tie_load := He.noat_ok (c.fact 26 (f := .noat "Tie" "load") rfl),
    na_Tie_is_oneway := He.noat_ok (c.fact 27 (f := .noat "Tie" "is_oneway") rfl),
    g_Web := He.glo_ok X G (c.fact 28 (f := .glo "Web") rfl),
    cl_Web := He.cls_ok (c.fact 29 (f := .cls "Web") rfl),
    mk_Web := He.mkr_ok (c.fact 30 (f := .mkr "Web") rfl),
    na_Web_points := He.noat_ok (c.fact 31 (f := .noat "Web" "_points") rfl),
    na_Web_ties := He.noat_ok (c.fact 32 (f := .noat "Web" "_ties") rfl),
    na_Web_given := He.noat_ok (c.fact 33 (f := .noat "Web" "_given") rfl),
    b_super := He.free_ok X G (c.fact 34 (f := .free "super") rfl),
    g_WebError := He.glo_ok X G (c.fact 35 (f := .glo "WebError") rfl),
    g_NoPoint := He.glo_ok X G (c.fact 36 (f := .glo "NoPoint") rfl),
    g_NoTie := He.glo_ok X G (c.fact 37 (f := .glo "NoTie") rfl),
    g_BadLine := He.glo_ok X G (c.fact 38 (f := .glo "BadLine") rfl),
    g_BadName := He.glo_ok X G (c.fact 39 (f := .glo "BadName") rfl),
    g_Twice := He.glo_ok X G (c.fact 40 (f := .glo "Twice") rfl),
    g_TooMany := He.glo_ok X G (c.fact 41 (f := .glo "TooMany") rfl),
    g_BadTie := He.glo_ok X G (c.fact 42 (f := .glo "BadTie") rfl),
    g_BadLoad := He.glo_ok X G (c.fact 43 (f := .glo "BadLoad") rfl),
    g_HasTies := He.glo_ok X G (c.fact 44 (f := .glo "HasTies") rfl),
    g_SamePoint := He.glo_ok X G (c.fact 45 (f := .glo "SamePoint") rfl),
    xm_NoPoint := He.exm_ok (c.fact 46 (f := .exm "NoPoint" "WebError" true) rfl),
    xm_NoTie := He.exm_ok (c.fact 47 (f := .exm "NoTie" "WebError" true) rfl),
    xm_BadLine := He.exm_ok (c.fact 48 (f := .exm "BadLine" "WebError" true) rfl),
    xm_BadName := He.exm_ok (c.fact 49 (f := .exm "BadName" "WebError" true) rfl),
    x_BadName := He.exc_ok (c.fact 50 (f := .exc "BadName") rfl),
    xm_Twice := He.exm_ok (c.fact 51 (f := .exm "Twice" "WebError" true) rfl),
    x_Twice := He.exc_ok (c.fact 52 (f := .exc "Twice") rfl),
    xm_TooMany := He.exm_ok (c.fact 53 (f := .exm "TooMany" "WebError" true) rfl),
    x_TooMany := He.exc_ok (c.fact 54 (f := .exc "TooMany") rfl),
    xm_BadTie := He.exm_ok (c.fact 55 (f := .exm "BadTie" "WebError" true) rfl),
    x_BadTie := He.exc_ok (c.fact 56 (f := .exc "BadTie") rfl),
    xm_BadLoad := He.exm_ok (c.fact 57 (f := .exm "BadLoad" "WebError" true) rfl),
    x_BadLoad := He.exc_ok (c.fact 58 (f := .exc "BadLoad") rfl),
    xm_HasTies := He.exm_ok (c.fact 59 (f := .exm "HasTies" "WebError" true) rfl),
    x_HasTies := He.exc_ok (c.fact 60 (f := .exc "HasTies") rfl),
    xm_SamePoint := He.exm_ok (c.fact 61 (f := .exm "SamePoint" "WebError" true) rfl),
    x_SamePoint := He.exc_ok (c.fact 62 (f := .exc "SamePoint") rfl),
    g_BadText := He.glo_ok X G (c.fact 63 (f := .glo "BadText") rfl),
    g_NoDeed := He.glo_ok X G (c.fact 64 (f := .glo "NoDeed") rfl),
    g_BadBundle := He.glo_ok X G (c.fact 65 (f := .glo "BadBundle") rfl),
    g_NoState := He.glo_ok X G (c.fact 66 (f := .glo "NoState") rfl),
    g_BadForest := He.glo_ok X G (c.fact 67 (f := .glo "BadForest") rfl),
    g_wall := He.glo_ok X G (c.fact 68 (f := .glo "_wall") rfl),
    g_has_only := He.glo_ok X G (c.fact 69 (f := .glo "_has_only") rfl),
    g_is_whole := He.glo_ok X G (c.fact 70 (f := .glo "is_whole") rfl),
    g_is_among := He.glo_ok X G (c.fact 71 (f := .glo "is_among") rfl),
    g_is_name := He.glo_ok X G (c.fact 72 (f := .glo "is_name") rfl),
    g_number_text := He.glo_ok X G (c.fact 73 (f := .glo "number_text") rfl),
    g_number_of := He.glo_ok X G (c.fact 74 (f := .glo "number_of") rfl),
    g_words_of := He.glo_ok X G (c.fact 75 (f := .glo "words_of") rfl),
    g_between := He.glo_ok X G (c.fact 76 (f := .glo "_between") rfl),
    g_turned := He.glo_ok X G (c.fact 77 (f := .glo "_turned") rfl),
    m_Web_points := He.meth_ok (c.fact 78 (f := .meth "Web" "points") rfl),
    m_Web_ties := He.meth_ok (c.fact 79 (f := .meth "Web" "ties") rfl),
    m_Web_given := He.meth_ok (c.fact 80 (f := .meth "Web" "given") rfl),
    m_Web_put_point := He.meth_ok (c.fact 81 (f := .meth "Web" "put_point") rfl),
    m_Web_drop_point := He.meth_ok (c.fact 82 (f := .meth "Web" "drop_point") rfl),
    m_Web_rename := He.meth_ok (c.fact 83 (f := .meth "Web" "rename") rfl),
    m_Web_put_tie := He.meth_ok (c.fact 84 (f := .meth "Web" "put_tie") rfl),
    m_Web_drop_tie := He.meth_ok (c.fact 85 (f := .meth "Web" "drop_tie") rfl),
    m_Web_set_load := He.meth_ok (c.fact 86 (f := .meth "Web" "set_load") rfl),
    m_Web_join := He.meth_ok (c.fact 87 (f := .meth "Web" "join") rfl),
    m_Web_part := He.meth_ok (c.fact 88 (f := .meth "Web" "part") rfl),
    m_Web_need_point := He.meth_ok (c.fact 89 (f := .meth "Web" "_need_point") rfl),
    m_Web_need_new_name := He.meth_ok (c.fact 90 (f := .meth "Web" "_need_new_name") rfl),
    m_Web_need_new_point := He.meth_ok (c.fact 91 (f := .meth "Web" "_need_new_point") rfl),
    m_Web_need_tie := He.meth_ok (c.fact 92 (f := .meth "Web" "_need_tie") rfl),
    m_Web_need_ties_at := He.meth_ok (c.fact 93 (f := .meth "Web" "_need_ties_at") rfl),
    g_need_load := He.glo_ok X G (c.fact 94 (f := .glo "_need_load") rfl),
    g_tie_line := He.glo_ok X G (c.fact 95 (f := .glo "_tie_line") rfl),
    g_web_lines := He.glo_ok X G (c.fact 96 (f := .glo "web_lines") rfl),
    g_put_point_words := He.glo_ok X G (c.fact 97 (f := .glo "_put_point_words") rfl),
    g_put_tie_words := He.glo_ok X G (c.fact 98 (f := .glo "_put_tie_words") rfl),
    g_set_given_words := He.glo_ok X G (c.fact 99 (f := .glo "_set_given_words") rfl),
    g_take_words := He.glo_ok X G (c.fact 100 (f := .glo "_take_words") rfl),
    g_stands := He.glo_ok X G (c.fact 101 (f := .glo "_stands") rfl),
    g_web_of := He.glo_ok X G (c.fact 102 (f := .glo "web_of") rfl),
    g_law_draw := He.glo_ok X G (c.fact 103 (f := .glo "_law_draw") rfl),
    g_law_load := He.glo_ok X G (c.fact 104 (f := .glo "_law_load") rfl),
    g_law_pool := He.glo_ok X G (c.fact 105 (f := .glo "_law_pool") rfl),
    g_law_whole := He.glo_ok X G (c.fact 106 (f := .glo "_law_whole") rfl),
    g_law_put_tie := He.glo_ok X G (c.fact 107 (f := .glo "_law_put_tie") rfl),
    g_law_tie_changed := He.glo_ok X G (c.fact 108 (f := .glo "_law_tie_changed") rfl),
    g_law_moved := He.glo_ok X G (c.fact 109 (f := .glo "_law_moved") rfl),
    g_law_at := He.glo_ok X G (c.fact 110 (f := .glo "_law_at") rfl),
    g_law_point_changed := He.glo_ok X G (c.fact 111 (f := .glo "_law_point_changed") rfl),
    g_law_deed := He.glo_ok X G (c.fact 112 (f := .glo "_law_deed") rfl),
    g_law_row := He.glo_ok X G (c.fact 113 (f := .glo "_law_row") rfl),
    g_law_rows := He.glo_ok X G (c.fact 114 (f := .glo "_law_rows") rfl),
    g_law_stands := He.glo_ok X G (c.fact 115 (f := .glo "_law_stands") rfl),
    g_law_none := He.glo_ok X G (c.fact 116 (f := .glo "_law_none") rfl),
    g_law_built := He.glo_ok X G (c.fact 117 (f := .glo "_law_built") rfl),
    g_law_word := He.glo_ok X G (c.fact 118 (f := .glo "_law_word") rfl),
    g_law_lines := He.glo_ok X G (c.fact 119 (f := .glo "_law_lines") rfl),
    g_law_number := He.glo_ok X G (c.fact 120 (f := .glo "_law_number") rfl),
    g_law_is_name := He.glo_ok X G (c.fact 121 (f := .glo "_law_is_name") rfl),
    g_law_among := He.glo_ok X G (c.fact 122 (f := .glo "_law_among") rfl),
    g_law_tie_read := He.glo_ok X G (c.fact 123 (f := .glo "_law_tie_read") rfl),
    g_law_line_read := He.glo_ok X G (c.fact 124 (f := .glo "_law_line_read") rfl),
    g_law_read := He.glo_ok X G (c.fact 125 (f := .glo "_law_read") rfl),
    g_law_line_bent := He.glo_ok X G (c.fact 126 (f := .glo "_law_line_bent") rfl),
    g_law_bent := He.glo_ok X G (c.fact 127 (f := .glo "_law_bent") rfl),
    g_law_tried := He.glo_ok X G (c.fact 128 (f := .glo "_law_tried") rfl),
    g_law_good := He.glo_ok X G (c.fact 129 (f := .glo "_law_good") rfl),
    g_law := He.glo_ok X G (c.fact 130 (f := .glo "law") rfl),
    fd_wall := fd0,
    F_wall := F0,
    k_wall := FunD.bindsN F0 fun _ _ _ _ _ _ us hl => match us, hl with | [_], _ => rfl,
    fd_has_only := fd1,
    F_has_only := F1,
    k_has_only := FunD.bindsN F1 fun _ _ _ _ _ _ us hl => match us, hl with | [_, _], _ => rfl,
    fd_is_whole := fd2,
    F_is_whole := F2,
    k_is_whole := FunD.bindsN F2 fun _ _ _ _ _ _ us hl => match us, hl with | [_], _ => rfl,
    fd_is_among := fd3,
    F_is_among := F3,
    k_is_among := FunD.bindsN F3 fun _ _ _ _ _ _ us hl => match us, hl with | [_, _, _], _ => rfl,
    fd_is_name := fd4,
    F_is_name := F4,
    k_is_name := FunD.bindsN F4 fun _ _ _ _ _ _ us hl => match us, hl with | [_], _ => rfl,
    fd_number_text := fd5,
    F_number_text := F5,
    k_number_text := FunD.bindsN F5 fun _ _ _ _ _ _ us hl => match us, hl with | [_], _ => rfl,
    fd_number_of := fd6,
    F_number_of := F6,
    k_number_of := FunD.bindsN F6 fun _ _ _ _ _ _ us hl => match us, hl with | [_], _ => rfl,
    fd_words_of := fd7,
    F_words_of := F7,
    k_words_of := FunD.bindsN F7 fun _ _ _ _ _ _ us hl => match us, hl with | [_], _ => rfl,
    fd_Tie_init := fd8,
    F_Tie_init := F8,
    k_Tie_init := FunD.bindsN F8 fun _ _ _ _ _ _ us hl => match us, hl with | [_, _, _, _, _, _], _ => rfl,
    fd_between := fd9,
    F_between := F9,
    k_between := FunD.bindsN F9 fun _ _ _ _ _ _ us hl => match us, hl with | [_, _, _], _ => rfl,
    fd_turned := fd10,
    F_turned := F10,
    k_turned := FunD.bindsN F10 fun _ _ _ _ _ _ us hl => match us, hl with | [_, _, _], _ => rfl,
    fd_Web_init := fd11,
    F_Web_init := F11,
    k_Web_init := FunD.bindsN F11 fun _ _ _ _ _ _ us hl => match us, hl with | [_], _ => rfl,
    fd_Web_points := fd12,
    F_Web_points := F12,
    k_Web_points := FunD.bindsN F12 fun _ _ _ _ _ _ us hl => match us, hl with | [_], _ => rfl,
    fd_Web_ties := fd13,
    F_Web_ties := F13,
    k_Web_ties := FunD.bindsN F13 fun _ _ _ _ _ _ us hl => match us, hl with | [_], _ => rfl,
    fd_Web_given := fd14,
    F_Web_given := F14,
    k_Web_given := FunD.bindsN F14 fun _ _ _ _ _ _ us hl => match us, hl with | [_], _ => rfl,
    fd_Web_put_point := fd15,
    F_Web_put_point := F15,
    k_Web_put_point := FunD.bindsN F15 fun _ _ _ _ _ _ us hl => match us, hl with | [_, _], _ => rfl,
    fd_Web_drop_point := fd16,
    F_Web_drop_point := F16,
    k_Web_drop_point := FunD.bindsN F16 fun _ _ _ _ _ _ us hl => match us, hl with | [_, _], _ => rfl,
    fd_Web_rename := fd17,
    F_Web_rename := F17,
    k_Web_rename := FunD.bindsN F17 fun _ _ _ _ _ _ us hl => match us, hl with | [_, _, _], _ => rfl,
    fd_Web_put_tie := fd18,
    F_Web_put_tie := F18,
    k_Web_put_tie_0 := FunD.binds1 F18 3 0 (by simp [d_Web_put_tie, He.DefD.dvs]) rfl fun _ _ _ _ _ _ _ us its hu hi => match us, its, hu, hi with | [_, _, _], [_, _], _, _ => ⟨_, rfl, rfl⟩,
    k_Web_put_tie_1 := FunD.binds1 F18 4 1 (by simp [d_Web_put_tie, He.DefD.dvs]) rfl fun _ _ _ _ _ _ _ us its hu hi => match us, its, hu, hi with | [_, _, _, _], [_, _], _, _ => ⟨_, rfl, rfl⟩,
    k_Web_put_tie_2 := FunD.binds1 F18 5 2 (by simp [d_Web_put_tie, He.DefD.dvs]) rfl fun _ _ _ _ _ _ _ us its hu hi => match us, its, hu, hi with | [_, _, _, _, _], [_, _], _, _ => ⟨_, rfl, rfl⟩,
    fd_Web_drop_tie := fd19,
    F_Web_drop_tie := F19,
    k_Web_drop_tie := FunD.bindsN F19 fun _ _ _ _ _ _ us hl => match us, hl with | [_, _], _ => rfl,
    fd_Web_set_load := fd20,
    F_Web_set_load := F20,
    k_Web_set_load := FunD.bindsN F20 fun _ _ _ _ _ _ us hl => match us, hl with | [_, _, _], _ => rfl,
    fd_Web_join := fd21,
    F_Web_join := F21,
    k_Web_join := FunD.bindsN F21 fun _ _ _ _ _ _ us hl => match us, hl with | [_, _, _], _ => rfl,
    fd_Web_part := fd22,
    F_Web_part := F22,
    k_Web_part := FunD.bindsN F22 fun _ _ _ _ _ _ us hl => match us, hl with | [_, _, _, _], _ => rfl,
    fd_Web_need_point := fd23,
    F_Web_need_point := F23,
    k_Web_need_point := FunD.bindsN F23 fun _ _ _ _ _ _ us hl => match us, hl with | [_, _], _ => rfl,
    fd_Web_need_new_name := fd24,
    F_Web_need_new_name := F24,
    k_Web_need_new_name := FunD.bindsN F24 fun _ _ _ _ _ _ us hl => match us, hl with | [_, _], _ => rfl,
    fd_Web_need_new_point := fd25,
    F_Web_need_new_point := F25,
    k_Web_need_new_point := FunD.bindsN F25 fun _ _ _ _ _ _ us hl => match us, hl with | [_, _], _ => rfl,
    fd_Web_need_tie := fd26,
    F_Web_need_tie := F26,
    k_Web_need_tie := FunD.bindsN F26 fun _ _ _ _ _ _ us hl => match us, hl with | [_, _], _ => rfl,
    fd_Web_need_ties_at := fd27,
    F_Web_need_ties_at := F27,
    k_Web_need_ties_at := FunD.bindsN F27 fun _ _ _ _ _ _ us hl => match us, hl with | [_, _, _], _ => rfl,
    fd_need_load := fd28,
    F_need_load := F28,
    k_need_load := FunD.bindsN F28 fun _ _ _ _ _ _ us hl => match us, hl with | [_], _ => rfl,
    fd_tie_line := fd29,
    F_tie_line := F29,
    k_tie_line := FunD.bindsN F29 fun _ _ _ _ _ _ us hl => match us, hl with | [_], _ => rfl,
    fd_web_lines := fd30,
    F_web_lines := F30,
    k_web_lines := FunD.bindsN F30 fun _ _ _ _ _ _ us hl => match us, hl with | [_], _ => rfl,
    fd_put_point_words := fd31,
    F_put_point_words := F31,
    k_put_point_words := FunD.bindsN F31 fun _ _ _ _ _ _ us hl => match us, hl with | [_, _], _ => rfl,
    fd_put_tie_words := fd32,
    F_put_tie_words := F32,
    k_put_tie_words := FunD.bindsN F32 fun _ _ _ _ _ _ us hl => match us, hl with | [_, _], _ => rfl,
    fd_set_given_words := fd33,
    F_set_given_words := F33,
    k_set_given_words := FunD.bindsN F33 fun _ _ _ _ _ _ us hl => match us, hl with | [_, _], _ => rfl,
    fd_take_words := fd34,
    F_take_words := F34,
    k_take_words := FunD.bindsN F34 fun _ _ _ _ _ _ us hl => match us, hl with | [_, _], _ => rfl,
    fd_stands := fd35,
    F_stands := F35,
    k_stands := FunD.bindsN F35 fun _ _ _ _ _ _ us hl => match us, hl with | [_, _], _ => rfl,
    fd_web_of := fd36,
    F_web_of := F36,
    k_web_of := FunD.bindsN F36 fun _ _ _ _ _ _ us hl => match us, hl with | [_], _ => rfl,
    fd_law_draw := fd37,
    F_law_draw := F37,
    k_law_draw := FunD.bindsN F37 fun _ _ _ _ _ _ us hl => match us, hl with | [_, _, _], _ => rfl,
    fd_law_load := fd38,
    F_law_load := F38,
    k_law_load := FunD.bindsN F38 fun _ _ _ _ _ _ us hl => match us, hl with | [_, _, _], _ => rfl,
    fd_law_pool := fd39,
    F_law_pool := F39,
    k_law_pool := FunD.bindsN F39 fun _ _ _ _ _ _ us hl => match us, hl with | [_], _ => rfl,
    fd_law_whole := fd40,
    F_law_whole := F40,
    k_law_whole := FunD.bindsN F40 fun _ _ _ _ _ _ us hl => match us, hl with | [_, _], _ => rfl,
    fd_law_put_tie := fd41,
    F_law_put_tie := F41,
    k_law_put_tie := FunD.bindsN F41 fun _ _ _ _ _ _ us hl => match us, hl with | [_, _, _, _], _ => rfl,
    fd_law_tie_changed := fd42,
    F_law_tie_changed := F42,
    k_law_tie_changed := FunD.bindsN F42 fun _ _ _ _ _ _ us hl => match us, hl with | [_, _, _, _, _], _ => rfl,
    fd_law_moved := fd43,
    F_law_moved := F43,
    k_law_moved := FunD.bindsN F43 fun _ _ _ _ _ _ us hl => match us, hl with | [_, _, _, _], _ => rfl,
    fd_law_at := fd44,
    F_law_at := F44,
    k_law_at := FunD.bindsN F44 fun _ _ _ _ _ _ us hl => match us, hl with | [_, _], _ => rfl,
    fd_law_point_changed := fd45,
    F_law_point_changed := F45,
    k_law_point_changed := FunD.bindsN F45 fun _ _ _ _ _ _ us hl => match us, hl with | [_, _, _, _, _, _], _ => rfl,
    fd_law_deed := fd46,
    F_law_deed := F46,
    k_law_deed := FunD.bindsN F46 fun _ _ _ _ _ _ us hl => match us, hl with | [_, _, _, _, _], _ => rfl,
    fd_law_row := fd47,
    F_law_row := F47,
    k_law_row := FunD.bindsN F47 fun _ _ _ _ _ _ us hl => match us, hl with | [_], _ => rfl,
    fd_law_rows := fd48,
    F_law_rows := F48,
    k_law_rows := FunD.bindsN F48 fun _ _ _ _ _ _ us hl => match us, hl with | [_], _ => rfl,
    fd_law_stands := fd49,
    F_law_stands := F49,
    k_law_stands := FunD.bindsN F49 fun _ _ _ _ _ _ us hl => match us, hl with | [_, _], _ => rfl,
    fd_law_none := fd50,
    F_law_none := F50,
    k_law_none := FunD.bindsN F50 fun _ _ _ _ _ _ us hl => match us, hl with | [], _ => rfl,
    fd_law_built := fd51,
    F_law_built := F51,
    k_law_built := FunD.bindsN F51 fun _ _ _ _ _ _ us hl => match us, hl with | [_, _], _ => rfl,
    fd_law_word := fd52,
    F_law_word := F52,
    k_law_word := FunD.bindsN F52 fun _ _ _ _ _ _ us hl => match us, hl with | [_], _ => rfl,
    fd_law_lines := fd53,
    F_law_lines := F53,
    k_law_lines := FunD.bindsN F53 fun _ _ _ _ _ _ us hl => match us, hl with | [_], _ => rfl,
    fd_law_number := fd54,
    F_law_number := F54,
    k_law_number := FunD.bindsN F54 fun _ _ _ _ _ _ us hl => match us, hl with | [_], _ => rfl,
    fd_law_is_name := fd55,
    F_law_is_name := F55,
    k_law_is_name := FunD.bindsN F55 fun _ _ _ _ _ _ us hl => match us, hl with | [_], _ => rfl,
    fd_law_among := fd56,
    F_law_among := F56,
    k_law_among := FunD.bindsN F56 fun _ _ _ _ _ _ us hl => match us, hl with | [_, _, _], _ => rfl,
    fd_law_tie_read := fd57,
    F_law_tie_read := F57,
    k_law_tie_read := FunD.bindsN F57 fun _ _ _ _ _ _ us hl => match us, hl with | [_, _], _ => rfl,
    fd_law_line_read := fd58,
    F_law_line_read := F58,
    k_law_line_read := FunD.bindsN F58 fun _ _ _ _ _ _ us hl => match us, hl with | [_, _], _ => rfl,
    fd_law_read := fd59,
    F_law_read := F59,
    k_law_read := FunD.bindsN F59 fun _ _ _ _ _ _ us hl => match us, hl with | [_], _ => rfl,
    fd_law_line_bent := fd60,
    F_law_line_bent := F60,
    k_law_line_bent := FunD.bindsN F60 fun _ _ _ _ _ _ us hl => match us, hl with | [_, _], _ => rfl,
    fd_law_bent := fd61,
    F_law_bent := F61,
    k_law_bent := FunD.bindsN F61 fun _ _ _ _ _ _ us hl => match us, hl with | [_, _, _], _ => rfl,
    fd_law_tried := fd62,
    F_law_tried := F62,
    k_law_tried := FunD.bindsN F62 fun _ _ _ _ _ _ us hl => match us, hl with | [_], _ => rfl,
    fd_law_good := fd63,
    F_law_good := F63,
    k_law_good := FunD.bindsN F63 fun _ _ _ _ _ _ us hl => match us, hl with | [_], _ => rfl,
    fd_law := fd64,
    F_law := F64,
    k_law := FunD.bindsN F64 fun _ _ _ _ _ _ us hl => match us, hl with | [_], _ => rfl }
  have e : He.ga K "law" = f := by
    have z := T.g_law.symm.trans hfa
    exact Value.ref.inj (Option.some.inj z)
  subst e
  have b := FunD.bindsA (ps := ["_law_script"]) F64 fun _ _ _ _ _ _ us hl => match us, hl with | [_], _ => rfl
  have J : ∀ base : Heap, Js P w K mg base := fun base => by
    refine ⟨EVX.ini_ok (fld := "name") (x := "NoPoint") (file := "/claim/cut.py") ?_ hP hsup T.b_super (fun _ _ _ _ _ _ _ _ _ _ _ _ _ _ => rfl), EVX.ini_ok (fld := "number") (x := "NoTie") (file := "/claim/cut.py") ?_ hP hsup T.b_super (fun _ _ _ _ _ _ _ _ _ _ _ _ _ _ => rfl), EVX.ini_ok (fld := "place") (x := "BadLine") (file := "/claim/cut.py") ?_ hP hsup T.b_super (fun _ _ _ _ _ _ _ _ _ _ _ _ _ _ => rfl)⟩
    all_goals (unfold extra at xk; simp only [Bool.and_eq_true] at xk; simp only [xk])
  exact ⟨T.fd_law, fun s v => b s [v] rfl, fun base _ _ => ok_law T (J base) xk⟩
end K04
open PySem PySem.W PySem.Calls PyProof.Rows
set_option maxRecDepth 100000 in
set_option maxHeartbeats 0 in
theorem PySem.Challenge.cw_reachbook_k04_lines_there_and_back_holds : PySem.Challenge.rw_reachbook_k04_lines_there_and_back.Holds := by
  w_on; o_law
  refine HandSHeadRun.head_any (r := OpenLaw.row PySem.Challenge.rw_reachbook_k04_lines_there_and_back) (q := view (OpenLaw.row PySem.Challenge.rw_reachbook_k04_lines_there_and_back).prog [75]) (H := K04.hk) (ob := K04.ob) (M := 9000) (loose := K04.loose) (d := HandSHeadRun.topDef (OpenLaw.row PySem.Challenge.rw_reachbook_k04_lines_there_and_back).prog 75) (kwd := []) K04.ob_eq
    (by kernel_rfl) (fun s => by kernel_rfl) K04.run (by kernel_rfl) (by kernel_rfl) (by kernel_rfl) (by rfl) (by first | assumption | decide +kernel) (by decide +kernel) ⟨rfl, rfl, rfl, rfl, rfl, by decide +kernel⟩ ?hw ?hc
  case hw => w_witness2
  case hc =>
    refine L2.walk_ofE (l := PySem.Challenge.rw_reachbook_k04_lines_there_and_back) (n := 63) (k := 24) (x := "_law_script") (CX := L2.CX0) rfl (by decide) (by kernel_rfl) ⟨rfl, by decide, by decide⟩ ?F (fun _ _ _ _ z => z)
    intro w mg fa h Y G hmg0
    obtain ⟨K, KX, c⟩ := Y
    have hmg : mg ("law" : PySem.Str) = some (.ref fa) := by
      have e : (HandSHeadRun.topDef (OpenLaw.row PySem.Challenge.rw_reachbook_k04_lines_there_and_back).prog 75).name = ("law" : PySem.Str) := by kernel_rfl
      rw [← e]
      exact hmg0
    obtain ⟨fd, hb, hF⟩ := K04.facts (P := (PySem.Challenge.rw_reachbook_k04_lines_there_and_back).prog) (w := w) KX G hmg c (by kernel_rfl) (by kernel_rfl)
    exact ⟨K, fd, K04.sp_law K, KX, hb, fun H a ns hl hO hS => ⟨a, ns, rfl, hS, hl, fun _ => rfl⟩, hF⟩
#print axioms PySem.Challenge.cw_reachbook_k04_lines_there_and_back_holds
