import PyProof.Rows.All
import Wide.All
import OpenK.AllK
import Wide.FinOn
import KE.KSuper
import KE.KSuperObj
import HandS.ForMost
import HandS.ExcSuper
import HandS.ExcInit
import HandS.Nested
import HandS.Steps
import HandS.Walk
import HandS.IsInst
import HandS.Codes
import HandS.Defaults
import HandS.Head0
import HandS.Head1
import HandS.Head2
import HandS.HeadEnd
import HandS.HeadHook1
import HandS.HeadHook2
import HandS.RevTup
import HandS.MapObj
import HandS.Replace
import HandS.DictComp
import HandS.Style
import HandS.SetFor
import HandS.Strs
import HandS.More
import HandS.Flow
import KE.KRevSl
import HandS.ForExc
import HandS.CallSlots
import HandS.ExcIs
import HandS.ExcField
import HandS.FStr
import HandS.SetKeys
import HandS.Zip
import HandS.HeadHook3
import HandS.Star
import HandS.New0
import PyProof.RulesMatch
import PyProof.RulesMatchSeq
import PySem.Challenge.RW_reachbook_k25_questions_as_texts
set_option Elab.async false
open PySem
namespace EVX
open PySem.ESX (slot_wd entry_wd args_wd)

def bw (x : Addr) : Obj := { cls := Value.type "method-wrapper", data := Data.fields #[Value.builtin "ValueError.__init__", Value.ref x] }

theorem type_vi : typeOf (Value.builtin "ValueError.__init__") = pure (Value.type "wrapper_descriptor") := by
  show builtinType "ValueError.__init__" = _
  rw [builtinType_eq_fast]; rfl

theorem run_wd {M : Model} {A : Around} {E : Value → Shared → Prop} {h : Heap} {g : Array GenState} {d : Drawn} {t : Nat} {os : OsState} {x C : Addr} {P : PySem.Fin → Shared → Prop}
    (hin : W.Looks M h (isInstance (Value.ref x) (Value.type "ValueError")) true)
    (hq : P (PySem.Fin.done (Flow.ret (Value.ref h.objs.size))) { heap := h.push (bw x), gens := g, drawn := d, toks := t, os := os }) :
    wpAny M A (Builtin.«wrapper_descriptor.__get__» { pos := [Value.builtin "ValueError.__init__", Value.ref x, Value.ref C] }) P E { heap := h, gens := g, drawn := d, toks := t, os := os } := by
  refine wpAny_bind ?_
  apply wpAny_of_eq
  · rfl
  refine wpAny_bind ?_
  refine wpAny_bind ?_
  refine wpAny_of_eq (a := (Str.ofString "__init__", Value.type "ValueError")) ?_ ?_
  · rfl
  refine wpAny_bind (W.Looks.at hin (W.KFB.if_not rfl (wpAny_pure (wpAny_bind (wpAny_newObj_type (wpAny_pure hq) ?_)))))
  simp only [sizeOk, List.size_toArray, sizeLine_eq]; show 2 ≤ _; omega

theorem super_ga {prog : Program} {w : World} {A : Around} {E : Value → Shared → Prop} {h : Heap} {g : Array GenState} {d : Drawn} {t : Nat} {os : OsState} {so D x C : Addr} {l₀ l : List Value} {K : W.Frag} {name : Str} {tk : Tok} {Q : PySem.Fin → Shared → Prop}
    (hso : h.get? so = some { cls := Value.type "super", data := Data.fields #[Value.ref D, Value.ref x, Value.ref C] })
    (hno : W.Looks (model prog w) h (opaqueClassAbove (Value.ref C)) none)
    (hC : W.Looks (model prog w) h (mroOf (Value.ref C)) l₀)
    (hl : List.drop 1 (List.dropWhile (fun x => x != Value.ref D) l₀) = l)
    (X : K.In h) (hf : W.alongIn K name l = some (some (Value.builtin "ValueError.__init__"))) (hxC : x ≠ C)
    (hne : (name == Str.ofString "__class__") = false)
    (hin : W.Looks (model prog w) h (isInstance (Value.ref x) (Value.type "ValueError")) true)
    (hq : Q (PySem.Fin.done (Flow.ret (Value.ref h.objs.size))) { heap := h.push (bw x), gens := g, drawn := d, toks := t, os := os }) :
    wpAny (model prog w) A (Builtin.«super.__getattribute__» { pos := [Value.ref so, Value.str name tk] }) Q E { heap := h, gens := g, drawn := d, toks := t, os := os } := by
  have f0 : (#[Value.ref D, Value.ref x, Value.ref C] : Array Value)[0]? = some (Value.ref D) := rfl
  have f1 : (#[Value.ref D, Value.ref x, Value.ref C] : Array Value)[1]? = some (Value.ref x) := rfl
  have f2 : (#[Value.ref D, Value.ref x, Value.ref C] : Array Value)[2]? = some (Value.ref C) := rfl
  unfold Builtin.«super.__getattribute__»
  simp only []
  refine wpAny_bind (wpAny_of_eq (a := some name) rfl ?_)
  refine W.KFB.if_not rfl ?_
  refine wpAny_bind (wpAny_of_eq (a := some name) rfl ?_)
  simp only []
  refine wpAny_bind (wpAny_field hso rfl f0 ?_)
  refine wpAny_bind (wpAny_field hso rfl f1 ?_)
  refine wpAny_bind (wpAny_field hso rfl f2 ?_)
  refine W.KFB.if_not (by rw [hne]; rfl) ?_
  refine wpAny_bind (ks_wpAny_notOpaque hno ?_)
  refine W.KFB.if_not rfl ?_
  refine wpAny_bind (W.Looks.at hC ?_)
  refine wpAny_bind ?_
  rw [hl]
  refine ks_forIn_along X (fun c r => rfl) rfl ?_ hf
  simp only []
  refine wpAny_bind (wpAny_of_eq type_vi ?_)
  refine wpAny_bind (wpAny_of_eq slot_wd.lookup ?_)
  simp only []
  have hxc : (Value.ref x == Value.ref C) = false := by simp [hxC]
  refine wpAny_bind (wpAny_holding ?_)
  rw [hxc]
  refine wpAny_call_entry slot_wd (show Shared.TypeIs _ _ _ from ?_) entry_wd ?_ (args_wd _ _ _)
  · exact type_vi
  · refine run_wd hin ?_
    exact ⟨_, rfl, wpAny_bind (wpAny_pure (wpAny_pure (wpAny_pure hq)))⟩

theorem getMethod_super {prog : Program} {w : World} {A : Around} {E : Value → Shared → Prop} {h : Heap} {g : Array GenState} {d : Drawn} {t : Nat} {os : OsState} {so D x C : Addr} {l₀ l : List Value} {K : W.Frag} {name : Str} {pl : Sem Bool} {Q : Value × List Value → Shared → Prop}
    (hso : h.get? so = some { cls := Value.type "super", data := Data.fields #[Value.ref D, Value.ref x, Value.ref C] })
    (hno : W.Looks (model prog w) h (opaqueClassAbove (Value.ref C)) none)
    (hC : W.Looks (model prog w) h (mroOf (Value.ref C)) l₀)
    (hl : List.drop 1 (List.dropWhile (fun x => x != Value.ref D) l₀) = l)
    (X : K.In h) (hf : W.alongIn K name l = some (some (Value.builtin "ValueError.__init__"))) (hxC : x ≠ C)
    (hne : (name == Str.ofString "__class__") = false)
    (hin : W.Looks (model prog w) h (isInstance (Value.ref x) (Value.type "ValueError")) true)
    (hq : Q (Value.ref h.objs.size, []) { heap := h.push (bw x), gens := g, drawn := d, toks := t + 1, os := os }) :
    wpAny (model prog w) A (getMethod (Value.ref so) name pl) Q E { heap := h, gens := g, drawn := d, toks := t, os := os } := by
  have hT : ∀ tk, Shared.TypeIs { heap := h, gens := g, drawn := d, toks := tk, os := os } (Value.ref so) "super" := fun _ => ⟨_, hso, rfl⟩
  unfold getMethod
  refine wpAny_bind (wpAny_specialOf (hT t) F.ks_slot_super_ga.lookup ?_)
  simp only []
  rw [if_pos F.ks_canon_super_ga]
  refine wpAny_bind ?_
  unfold getAttr
  refine wpAny_bind (wpAny_mkText ?_)
  unfold getAttrBy
  refine wpAny_holding ?_
  refine wpAny_bind (wpAny_typeOf (hT (t + 1)) ?_)
  refine wpAny_bind (wpAny_of_eq F.ks_slot_super_ga.lookup ?_)
  simp only []
  refine W.KFB.if_not rfl ?_
  unfold getAttrByItsOwn
  refine wpAny_bind (wpAny_of_eq (a := none) rfl ?_)
  refine wpAny_bind (wpAny_attempt ?_)
  refine wpAny_holding ?_
  unfold callGetattribute
  refine W.KFB.if_not rfl ?_
  unfold boundAndCalled
  refine wpAny_bind (wpAny_of_eq (F.ks_slot_super_ga.bind _) ?_)
  simp only []
  refine wpAny_mono (Q := fun r s' => r = Value.ref h.objs.size ∧ s' = { heap := h.push (bw x), gens := g, drawn := d, toks := t + 1, os := os }) (E := fun _ _ => False) (wpAny_call_entry F.ks_slot_super_ga (hT (t + 1)) F.ks_entry_super_ga (super_ga hso hno hC hl X hf hxC hne hin ⟨_, rfl, rfl, rfl⟩) (F.ks_gaArgs_super _ _)) ?_ (fun _ _ z => z.elim)
  rintro r s' ⟨rfl, rfl⟩
  exact wpAny_pure (wpAny_pure hq)

theorem call_bw {prog : Program} {w : World} {A : Around} {E : Value → Shared → Prop} {h : Heap} {g : Array GenState} {d : Drawn} {t : Nat} {os : OsState} {nm q : Str} {C N : Addr} {bs bm : List Value} {hdct : Bool} {sn : List Str} {sub : List Value} {ab : Bool} {col : Option Bool} {dd : Option Addr} {k0 k1 k2 k3 k5 : Option Value} {u e t0 : Addr} {rest : List Value} {Q : Value → Shared → Prop}
    (hC : h.get? C = some (excClassObj nm q C N bs bm hdct sn sub ab col dd k0 k1 k2 k3 k5 "ValueError.__new__"))
    (he : h.get? e = some (HandSPX.excO C t0)) (hu : h.get? u = some (bw e)) (hr : rest.length ≤ sizeLine)
    (hq : ∀ (h' : Heap) (t1 : Addr), (∀ (b : Addr) (o : Obj), b ≠ e → h.get? b = some o → h'.get? b = some o) → h'.get? e = some (HandSPX.excO C t1) →
      Q Value.none { heap := h', gens := g, drawn := d, toks := t, os := os }) :
    wpAny (model prog w) A (call (Value.ref u) rest) Q E { heap := h, gens := g, drawn := d, toks := t, os := os } := by
  have F := F.excBase_ValueError
  refine wpAny_call (codeAny_of_tree ?_)
  show wpAny (model prog w) _ (callAny (Value.ref u) { pos := rest }) _ _ _
  unfold callAny
  simp only []
  refine wpAny_bind (wpAny_load hu ?_)
  unfold bw
  simp only []
  refine W.KFB.if_so rfl ?_
  have e0 : (#[Value.builtin "ValueError.__init__", Value.ref e] : Array Value)[0]? = some (Value.builtin "ValueError.__init__") := rfl
  have e1 : (#[Value.builtin "ValueError.__init__", Value.ref e] : Array Value)[1]? = some (Value.ref e) := rfl
  rw [e0, e1]
  simp only []
  refine W.KFB.if_so rfl ?_
  refine wpAny_bind (ESX.check_bound F hC he rfl ?_)
  refine wpAny_pure ⟨Code.quiet_builtin _ (by decide +kernel), ?_⟩
  refine codeAny_builtin F.initEntry ?_
  unfold Builtin.«BaseException.__init__»
  simp only []
  refine W.KFB.if_not rfl ?_
  refine wpAny_bind (wpAny_newTuple ?_ hr)
  have he' : (h.push { cls := Value.type "tuple", data := Data.seq rest.toArray }).get? e = some (HandSPX.excO C t0) := Heap.get?_push_of_some _ he
  refine wpAny_bind ?_
  unfold Builtin.BaseException.bexcPut
  refine wpAny_bind (wpAny_field he' rfl rfl ?_)
  refine wpAny_bind (wpAny_setField he' rfl (by show 0 < 6; omega) ?_)
  refine wpAny_letGo ?_
  refine wpAny_pure ?_
  refine hq _ h.objs.size ?_ ?_
  · intro b o hb ho
    exact (Heap.get?_update_other _ _ (Ne.symm hb)).trans (Heap.get?_push_of_some _ ho)
  · exact (Heap.get?_update_self _ he' rfl).trans rfl

theorem callWith_bw {M : Model} {A : Around} {E : Value → Shared → Prop} {s : Shared} {pos : Pos} {u x : Addr} {first : List Value} {args : List (Bool × Sem Value)} {Q : Value → Shared → Prop}
    (hplain : (args.any fun x => x.fst) = false)
    (h : wpAny M A (evalArgs (Value.ref u) true args []) (fun a s₁ => s₁.heap.get? u = some (bw x) ∧ wpAny M A (call (Value.ref u) (first ++ a.pos) a.kw) Q E s₁) E s) :
    wpAny M A (callWith pos (Value.ref u) first args []) Q E s := by
  unfold callWith
  refine wpAny_bind (wpAny_holding (wpAny_mono h ?_ (fun _ _ z => z)))
  rintro a s1 ⟨ho, hcall⟩
  refine wpAny_bind (wpAny_standAt ?_)
  simp only [hplain, List.any_nil, Bool.or_false]
  refine wpAny_bind ?_
  unfold keeperOf
  simp only []
  refine wpAny_bind (wpAny_load ho ?_)
  refine W.KFB.if_so rfl (wpAny_pure ?_)
  refine wpAny_bind (wpAny_mono hcall ?_ (fun _ _ z => z))
  intro r s2 hr
  exact wpAny_bind (wpAny_holding (wpAny_point (wpAny_pure hr)))

theorem callWith_bound {M : Model} {A : Around} {E : Value → Shared → Prop} {s : Shared} {pos : Pos} {u x : Addr} {first : List Value} {env : Env} {e : PySem.Expr} {rest : List PySem.Expr} {Q : Value → Shared → Prop}
    (h : wpAny M A (spliced (backTo pos (starEach (e :: rest) env))) (fun vs s₁ => s₁.heap.get? u = some (bw x) ∧ wpAny M A (call (Value.ref u) (first ++ vs)) Q E s₁) E s)
    (h1 : starEach (e :: rest) env = (false, eval e env) :: starEach rest env) (h2 : ((backTo pos (starEach rest env)).any fun x => x.fst) = false) :
    wpAny M A (callWith pos (Value.ref u) first (backTo pos (starEach (e :: rest) env)) []) Q E s := by
  rw [h1] at h ⊢
  refine callWith_bw ?_ (Calls.evalArgs_plain h)
  show (false || _) = false
  exact (Bool.false_or _).trans h2

open L2 NdefX

theorem looks_inst {M : Model} {h : Heap} {a C : Addr} {o : Obj} {K : W.Frag} {b : Value} {r : Bool} (X : K.In h) (ho : h.get? a = some o) (hc : o.cls = Value.ref C) (hs : W.subIn K (Value.ref C) b = some r) :
    W.Looks M h (isInstance (Value.ref a) b) r := by
  intro A Q E s hk hq
  obtain ⟨h', g, d, t, os⟩ := s
  unfold isInstance typeOf
  refine wpAny_bind (wpAny_bind (wpAny_loadPart_at (hk a o ho) (wpAny_pure ?_)))
  rw [hc]
  exact W.looks_subIn X hs A Q E _ hk hq

theorem looks_mro {M : Model} {h : Heap} {C : Addr} {K : W.Frag} {cd : ClassData} (X : K.In h) (hc : W.clsIn K C = some cd) :
    W.Looks M h (mroOf (Value.ref C)) cd.mro := by
  intro A Q E s hk hq
  unfold mroOf
  exact wpAny_bind (W.looks_clsIn X hc A _ E _ hk (wpAny_pure hq))

def sp_ini (fld : Str) (D : Addr) : Sp := fun vs H Q _ => ∃ (a : Addr) (v : V), vs = [.ref a, v] ∧ H a = some (exo a D none) ∧
  ∀ dx, H dx = none → dx ≠ a → Q .non (upd (upd H dx (exd dx [(fld, v)])) a (exo a D (some dx)))

def iniBody (fld msg : Str) (p0 p1 p2 p3 p4 p5 q0 q1 q2 q3 : Pos) (j : Nat) : List Stmt :=
  [.Expr (.Call (.Attribute (.Call (.Name "super" p0) [] [] p1) "__init__" p2) [.Constant (.str msg) j p3] [] p4) p5,
   .Assign [.Attribute (.Name "self" q0) fld q1] (.Name fld q2) q3]

theorem init_of {CX : CXT} {P : Program} {w : World} {K : W.Frag} {mg : Str → Option Value} {base : Heap} {k : Nat} {f cc cda D : Addr}
    {qual fld msg : Str} {params : Arguments} {scope : Scope} {dV kV doc pm ct oc ccl cl : Value} {an od cdd cld : Option Addr} {osl ccs csl : Array (Option Value)}
    {p0 p1 p2 p3 p4 p5 q0 q1 q2 q3 : Pos} {j : Nat} {cvs : Array Value} {file : Str} {tf : Tok} {ar : Arg}
    (lk : K.lookup f = some ⟨oc, od, .func (W.ksFn "__init__" qual params (iniBody fld msg p0 p1 p2 p3 p4 p5 q0 q1 q2 q3 j) scope dV kV doc pm an (.ref cda) ct cc), osl⟩)
    (hcd : W.codeIn K (.ref cda) qual = true)
    (hcda : K.lookup cda = some ⟨ccl, cdd, .fields cvs, ccs⟩) (hv2 : cvs[2]? = some (.str file tf)) (hfile : (P.main.file == file) = true)
    (hsup : (P.main.scope.names.lookup (Str.ofString "super")).isSome = false)
    (hcc : K.lookup cc = some ⟨cl, cld, .cell (some (.ref D)), csl⟩)
    (hdb : (fld == Str.ofString "__debug__") = false) (hpos : (p2.endLine == p4.line) = true) (hpar : (params.posonlyargs ++ params.args).head? = some ar) (har : ar.arg = Str.ofString "self")
    (hsc : NScope ["self", fld, "__class__"] ["self", fld] ["__class__"] scope)
    (hsuper : scope.names.lookup (Str.ofString "super") = some .globalImplicit)
    (hmg : mg (Str.ofString "super") = none)
    (T : OexC K D) (hfld : W.findIn K (.ref D) fld = some none)
    (hal : W.ks_superIn K D D (Str.ofString "__init__") = some (some (Value.builtin "ValueError.__init__")))
    (hno : W.nsIn K cStatics (Str.ofString "thirdparty.any") = some none)
    (hve : W.subIn K (.ref D) (.type "ValueError") = some true) (hself : W.mroIn K D (.ref D) = some true) :
    FnOk P w K mg base CX (k + 1) f (W.ksFn "__init__" qual params (iniBody fld msg p0 p1 p2 p3 p4 p5 q0 q1 q2 q3 j) scope dV kV doc pm an (.ref cda) ct cc) ["self", fld] (sp_ini fld D) := by
  refine ⟨?_, ?_⟩
  · rintro vs H Q E ⟨a, v, rfl, _⟩; rfl
  intro A outer s H args us vs Q E hr E0 hb hv hsp
  obtain ⟨a, v, rfl, ha, hq⟩ := hsp
  obtain ⟨u0, u1, rfl, hu0, hu1⟩ := vals2 hv
  cases hu0
  have X0 : K.In s.heap := E0.mod.kin.keeps fun b o h => (E0.bs b o h).1
  have atK : ∀ {b : Addr} {o : Obj}, K.lookup b = some o → s.heap.get? b = some o ∧ H b = none := fun h => E0.bs _ _ (E0.mod.kin _ _ h)
  refine ks_codeAny_call_defAt hr.depth (X0 _ _ lk) rfl (E0.mod.nolimit.keeps fun b o h => (E0.bs b o h).1) (W.codeRec_of X0 hcd) rfl hb hsc.nocell ?_ ?_ hsc.co hsc.gen hsc.kind
  · intro x hx
    have hx' : x ∈ ([("self", Value.ref a), (fld, u1)] : List (Str × Value)) := hx
    refine hsc.par _ ?_
    rcases List.mem_cons.mp hx' with rfl | hx'
    · exact List.mem_cons_self ..
    · rcases List.mem_singleton.mp hx' with rfl
      exact List.mem_cons_of_mem _ (List.mem_cons_self ..)
  intro h0 hNs hkeep
  have hcl : ∀ {y : Str} {c : Addr}, List.lookup y [(("__class__" : Str), cc)] = some c → y = "__class__" ∧ c = cc := by
    intro y c h
    by_cases e : y = "__class__"
    · subst e; simp at h; exact ⟨rfl, h.symm⟩
    · have : (y == ("__class__" : Str)) = false := by simpa using e
      simp [List.lookup, this] at h
  have hcell : Heap.IsCell s.heap cc (some (.ref D)) := ⟨_, (atK hcc).1, rfl⟩
  have I0 : L2.Inv (ncx CX P w K mg base ["self", fld, "__class__"] ⟨"__init__", qual, params, iniBody fld msg p0 p1 p2 p3 p4 p5 q0 q1 q2 q3 j, scope, [("__class__", cc)], cda⟩ f A outer s H E) []
      (startF ["self", fld, "__class__"] [.ref a, v] [some (.ref D)]) H ⟨h0, s.gens, s.drawn, s.toks + 2, s.os⟩ := by
    refine inv_startN hsc hr.hd E0 rfl hv ⟨rfl, ?_, ?_, ?_⟩ hNs hkeep
    · intro y c h
      obtain ⟨rfl, rfl⟩ := hcl h
      exact ⟨(atK hcc).2, _, hcell⟩
    · intro x y c h1 h2
      exact (hcl h1).1.trans (hcl h2).1.symm
    · intro i y hy
      match i, hy with
      | 0, hy =>
        cases hy
        refine ⟨cc, by simp [List.lookup], fun v h => ?_⟩
        cases h
        exact ⟨_, rfl, hcell⟩
  show wpAt (model P w) (A.deeper (W.ksEnv qual scope s.heap.objs.size f (.ref cda) cc)) (Code.func _ (W.ksEnv qual scope s.heap.objs.size f (.ref cda) cc)) (execs (iniBody fld msg p0 p1 p2 p3 p4 p5 q0 q1 q2 q3 j) (W.ksEnv qual scope s.heap.objs.size f (.ref cda) cc)) _ _ _
  have X1 : K.In h0 := X0.keeps hkeep
  have kc : Env.kindOf (W.ksEnv qual scope s.heap.objs.size f (.ref cda) cc) "__class__" = some .free := hsc.frk _ (List.mem_cons_self ..)
  have ks : Env.kindOf (W.ksEnv qual scope s.heap.objs.size f (.ref cda) cc) "self" = some .local := hsc.par _ (List.mem_cons_self ..)
  have kf : Env.kindOf (W.ksEnv qual scope s.heap.objs.size f (.ref cda) cc) fld = some .local := hsc.par _ (List.mem_cons_of_mem _ (List.mem_cons_self ..))
  have ku : Env.kindOf (W.ksEnv qual scope s.heap.objs.size f (.ref cda) cc) "super" = some .globalImplicit := hsuper
  have aH : s.heap.objs.size ≠ a := by
    intro e
    have := I0.free
    rw [show (ncx CX P w K mg base ["self", fld, "__class__"] ⟨"__init__", qual, params, iniBody fld msg p0 p1 p2 p3 p4 p5 q0 q1 q2 q3 j, scope, [("__class__", cc)], cda⟩ f A outer s H E).env.locals = s.heap.objs.size from rfl, e, ha] at this
    cases this
  obtain ⟨t1, hat⟩ := exo_at I0.hok ha
  obtain ⟨nm, q, N, bs, bm, sn, sub, ab, col, dd, k0, k1, k2, k3, k5, hD, hbm⟩ := T.cls
  have aD : a ≠ D := by
    intro e
    have := (atK hD).2
    rw [← e, ha] at this
    cases this
  cases hcd2 : W.clsIn K D with
  | none => rw [W.ks_superIn, hcd2] at hal; cases hal
  | some cd =>
  have hal' : W.alongIn K (Str.ofString "__init__") (List.drop 1 (List.dropWhile (fun x => x != Value.ref D) cd.mro)) = some (some (Value.builtin "ValueError.__init__")) := by
    rw [W.ks_superIn, hcd2] at hal; exact hal
  obtain ⟨mb, hmb, hbb⟩ := E0.mod.blt
  have kb : ∀ {b : Addr} {o : Obj}, base.get? b = some o → h0.get? b = some o := fun h => hkeep _ _ (E0.bs _ _ h).1
  have hX : ∀ {s' : Shared} {H' : Hp}, L2.Inv (ncx CX P w K mg base ["self", fld, "__class__"] ⟨"__init__", qual, params, iniBody fld msg p0 p1 p2 p3 p4 p5 q0 q1 q2 q3 j, scope, [("__class__", cc)], cda⟩ f A outer s H E) []
      (startF ["self", fld, "__class__"] [.ref a, v] [some (.ref D)]) H' s' → Q .non H' → CR CX outer P w H s Q E (Except.ok (Flow.ret Value.none)) s' := fun I q =>
    ⟨.non, _, I.os, I.bare, I.base, I.hok, rfl, q⟩
  have hld : ∀ {s' : Shared} {H' : Hp} {i : Nat} {x : Str} {y : V} {Z : Value → Shared → Prop} {EE : Value → Shared → Prop}, L2.Inv (ncx CX P w K mg base ["self", fld, "__class__"] ⟨"__init__", qual, params, iniBody fld msg p0 p1 p2 p3 p4 p5 q0 q1 q2 q3 j, scope, [("__class__", cc)], cda⟩ f A outer s H E) []
      (startF ["self", fld, "__class__"] [.ref a, v] [some (.ref D)]) H' s' → ([("self" : Str), fld, "__class__"])[i]? = some x → (startF ["self", fld, "__class__"] [.ref a, v] [some (.ref D)])[i]? = some (some y) →
      Env.kindOf (W.ksEnv qual scope s.heap.objs.size f (.ref cda) cc) x = some .local → (∀ u, RelV y u → Z u s') →
      wpAny (model P w) (A.deeper (W.ksEnv qual scope s.heap.objs.size f (.ref cda) cc)) (loadName (W.ksEnv qual scope s.heap.objs.size f (.ref cda) cc) x) Z EE s' := by
    intro s' H' i x y Z EE I h1 h2 hk hz
    obtain ⟨m, hm, hl⟩ := I.loc
    obtain ⟨u, hu, hlk⟩ := hl i x y h1 h2 (.inl hk)
    rcases hlk with ⟨_, hmx⟩ | ⟨hn, _⟩
    · exact wpAny_loadName_local hsc.kind hk hm hmx (hz u hu)
    · exfalso
      have hn' : Env.kindOf (W.ksEnv qual scope s.heap.objs.size f (.ref cda) cc) x = some .cell ∨ Env.kindOf (W.ksEnv qual scope s.heap.objs.size f (.ref cda) cc) x = some .free := hn
      rw [hk] at hn'
      rcases hn' with h | h <;> cases h
  have hp : ∀ (few : Bool) (o : PySem.Expr) (env : Env), methodCallPos few o env p2 p4 = pure p4 := by
    intro few o env
    unfold methodCallPos
    rw [hpos, Bool.or_true]; rfl
  unfold iniBody
  have hi : interactive (W.ksEnv qual scope s.heap.objs.size f (.ref cda) cc) = false := by
    unfold interactive
    rw [show (W.ksEnv qual scope s.heap.objs.size f (.ref cda) cc).scope.kind = _ from hsc.kind]; rfl
  refine ks_wpAt_execs_cons (ks_wpAt_Expr_any (ks_wpAt_MethodCall (pl := do let d ← importBound (.Call (.Name "super" p0) [] [] p1) (W.ksEnv qual scope s.heap.objs.size f (.ref cda) cc); pure (d.getD true)) ?_ ?_) hi)
  · refine ks_wpAt_super_base ku kc rfl rfl (X1 _ _ lk) rfl hpar rfl (X1 _ _ hcda) rfl hv2 hfile hsup ?_
    refine W.ks_loadName_global hsc.kind ku (Calls.loadGlobal_builtin (E0.mod.glob.keeps fun _ _ h => kb h) hmg (hmb.keeps fun _ _ h => kb h) ((hbb _ (by decide +kernel)).trans PyProof.Rows.Boot.super) ?_)
    refine ⟨rfl, ?_⟩
    refine wpAny_loadName_free (c := cc) hsc.kind kc (by simp [List.lookup]) ⟨_, X1 _ _ hcc, rfl⟩ ?_ rfl
    rw [har]
    refine hld I0 (i := 0) rfl rfl ks fun u hu => ?_
    cases hu
    refine ks_wpAny_isType_cls (X1 _ _ hD) rfl ⟨rfl, ?_⟩
    refine ks_wpAny_call_super (X1 _ _ hD) rfl hat rfl (by intro c h; cases h) (W.looks_mroIn X1 hself) ?_
    intro h2 hso hk2
    have X2 : K.In h2 := X1.keeps hk2
    refine getMethod_super hso (W.looks_opaque X2 hno) (looks_mro X2 hcd2) rfl X2 hal' aD rfl (looks_inst X2 (hk2 _ _ hat) rfl hve) ?_
    refine callWith_bound (x := a) ?_ rfl rfl
    refine wpAny_bind (wpAny_Constant_str (k := j) (pos := p3) ?_)
    refine W.KFB.if_not rfl ?_
    refine wpAny_bind (wpAny_pure ?_)
    refine wpAny_bind (wpAny_holding (wpAny_pure ?_))
    refine wpAny_pure ⟨Heap.get?_push_at rfl rfl, ?_⟩
    have hk3 : ∀ (b : Addr) (o : Obj), h0.get? b = some o → (h2.push (bw a)).get? b = some o := fun b o h => Heap.get?_push_of_some _ (hk2 _ _ h)
    refine call_bw (hk3 _ _ (X1 _ _ hD)) (hk3 _ _ hat) (Heap.get?_push_at rfl rfl) (by show 1 ≤ sizeLine; rw [sizeLine_eq]; omega) ?_
    intro h' t2 hk4 hat4
    have I2 := (I0.kept (t' := 0) hk3).write (x := a) (e := a) (o := exo a D none) (t' := s.toks + 2 + 1 + 1) (by rw [ha]; trivial) (.inl rfl) hk4 ⟨_, hat4⟩ (exo_ok hat4)
    have eH : upd H a (exo a D none) = H := by
      funext b
      unfold upd
      split
      · next e => rw [e, ha]
      · rfl
    rw [eH] at I2
    refine ks_wpAt_execs_cons (ks_wpAt_Assign_Attr (wpAt_of_wpAny (wpAny_bind (wpAny_standAt (W.KFB.if_not hdb (hld I2 (i := 1) rfl rfl kf fun u hu => wpAny_bind (wpAny_standAt (W.KFB.if_not rfl (hld I2 (i := 0) rfl rfl ks fun u' hu' => ?_)))))))))
    cases hu'
    refine ost_new T I2 ha hfld hu fun dx s' h1 h2 I' => ?_
    exact wpAt_of_wpAny (wpAny_pure (hX I' (hq dx h1 h2)))
  · show (do
      let ov ← attributeBase (.Call (.Name "super" p0) [] [] p1) "__init__" (W.ksEnv qual scope s.heap.objs.size f (.ref cda) cc) (eval (.Call (.Name "super" p0) [] [] p1) (W.ksEnv qual scope s.heap.objs.size f (.ref cda) cc))
      standAt p2.atName
      methodCall (.Call (.Name "super" p0) [] [] p1) "__init__" p2 p4 (W.ksEnv qual scope s.heap.objs.size f (.ref cda) cc) ov 1 _ _) = _
    simp only [methodCall, hp]
    rfl
end EVX

set_option Elab.async false
set_option linter.all false
set_option maxRecDepth 100000
set_option maxHeartbeats 2000000
/-! HX: rules with named readings, and the steps of a reading, backwards. -/
namespace HX
open PySem PySem.Spec PyProof.Rows L2
/-! ### named readings -/
def xCatS : R2 := fun x y H Q => ∃ i j, x = .str i ∧ y = .str j ∧ i.length + j.length ≤ sizeLine ∧ Q (.str (i ++ j)) H
def xLenS : List V → Hp → VK → Prop := fun xs H Q => ∃ z, xs = [.str z] ∧ z.length ≤ sizeLine ∧ Q (.int z.length) H
def xLenL (K : PySem.W.Frag) : List V → Hp → VK → Prop := fun xs H Q => ∃ p ys, xs = [.ref p] ∧ (SqL K H p ys ∨ SqT K H p ys) ∧ Q (.int ys.length) H
def xAbs : List V → Hp → VK → Prop := fun xs H Q => ∃ i, xs = [.int i] ∧ Q (.int (if i < 0 then -i else i)) H
def xMax2 : List V → Hp → VK → Prop := fun xs H Q => ∃ i j, xs = [.int i, .int j] ∧ Q (.int (if j > i then j else i)) H
def xMin2 : List V → Hp → VK → Prop := fun xs H Q => ∃ i j, xs = [.int i, .int j] ∧ Q (.int (if j < i then j else i)) H
def xStrI : List V → Hp → VK → Prop := fun xs H Q => ∃ i, xs = [.int i] ∧ i.natAbs.log2 < 1920 ∧ Q (.str (toString i)) H
def xIntS : List V → Hp → VK → Prop := fun xs H Q => ∃ a n, xs = [.str a] ∧ PySem.intText? a = some n ∧ a.length ≤ 640 ∧ Q (.int n) H
def xIntB : List V → Hp → VK → Prop := fun xs H Q => (∃ i, xs = [.int i] ∧ Q (.int i) H) ∨ ∃ k, xs = [.bl k] ∧ Q (.int (if k then 1 else 0)) H
def xListOf (K : PySem.W.Frag) : List V → Hp → VK → Prop := fun xs H Q => ∃ p ys, xs = [.ref p] ∧ (SqL K H p ys ∨ SqT K H p ys) ∧ ∀ l, H l = none → Q (.ref l) (upd H l (.lst ys))
def xSplit : V → List V → Hp → VK → Prop := fun x xs H Q => ∃ a b, x = .str a ∧ xs = [.str b] ∧ (b.length == 0) = false ∧ a.length + 2 ≤ sizeLine ∧ rNewStrs (Txt.split a b) H Q
def xJoin (K : PySem.W.Frag) : V → List V → Hp → VK → Prop := fun x xs H Q => ∃ a p, ∃ ys : List Str, x = .str a ∧ xs = [.ref p] ∧ (SqL K H p (ys.map V.str) ∨ SqT K H p (ys.map V.str)) ∧
      (ys.map (·.length)).sum + ys.length * a.length ≤ 16777216 ∧ Q (.str (Txt.join a ys)) H
section
variable {X : Cx}
theorem x_catS : OpR X (binaryOp .Add) xCatS := op_add_str
theorem x_lenS : CallR X (.builtin "len") xLenS := call_len_str
theorem x_lenL : CallR X (.builtin "len") (xLenL X.K) := call_len_seq
theorem x_abs : CallR X (.builtin "abs") xAbs := call_abs
theorem x_max2 (hc : X.calm = true) : CallR X (.builtin "max") xMax2 := call_max2 hc
theorem x_min2 (hc : X.calm = true) : CallR X (.builtin "min") xMin2 := call_min2 hc
theorem x_strI : CallR X (.type "str") xStrI := call_str_int
theorem x_intS : CallR X (.type "int") xIntS := call_int_str
theorem x_intB : CallR X (.type "int") xIntB := call_int1
theorem x_list : CallR X (.type "list") (xListOf X.K) := call_list_of
theorem x_split {o e : Expr} {to te : TE} {apos pos : Pos} (ho : PE X o to) (he : PE X e te) (hs : starEach [e] X.env = [(false, eval e X.env)] := by rfl) (hbase : attributeBase o "split" X.env (eval o X.env) = eval o X.env := by rfl) (hline : (apos.endLine == pos.line) = true := by rfl) :
    PE X (.Call (.Attribute o "split" apos) [e] [] pos) (tM1 xSplit to te) := pe_split ho he hs hbase hline
theorem x_join {o e : Expr} {to te : TE} {apos pos : Pos} (ho : PE X o to) (he : PE X e te) (hs : starEach [e] X.env = [(false, eval e X.env)] := by rfl) (hbase : attributeBase o "join" X.env (eval o X.env) = eval o X.env := by rfl) (hline : (apos.endLine == pos.line) = true := by rfl) :
    PE X (.Call (.Attribute o "join" apos) [e] [] pos) (tM1 (xJoin X.K) to te) := pe_join ho he hs hbase hline
end
/-! ### continuations -/
def kB (Q : Bool → Hp → Prop) : VK := fun x H' => ∃ k, x = .bl k ∧ Q k H'
def kInt (Q : Option Int → Hp → Prop) : VK := fun x H' => ∃ i, x = .int i ∧ Q (some i) H'
def kAndV (tb : TE) (σ : L2.St) (Q : VK) : VK := fun x H1 => ∃ c, x = .bl c ∧ if c = true then tb σ H1 Q else Q (.bl false) H1
def kOrV (tb : TE) (σ : L2.St) (Q : VK) : VK := fun x H1 => ∃ c, x = .bl c ∧ if c = true then Q (.bl true) H1 else tb σ H1 Q
def kNotV (Q : VK) : VK := fun x H1 => ∃ c, x = .bl c ∧ Q (.bl (!c)) H1
def kTru (K : PySem.W.Frag) (Q : Bool → Hp → Prop) : VK := fun x H' => ∃ k, TruV K x H' k ∧ Q k H'
def kStr (Q : VK) : VK := fun x H1 => (∃ a, x = .str a) ∧ Q x H1
def kTy (K : PySem.W.Frag) (T : String) (Q : VK) : VK := fun x H1 => tyV K T x H1 ∧ Q x H1
def kListI (K : PySem.W.Frag) (R : It → Hp → Prop) : VK := fun x H1 => ∃ a, x = .ref a ∧ (∃ xs, SqL K H1 a xs) ∧ R (Itl K a) H1
def kTupI (K : PySem.W.Frag) (R : It → Hp → Prop) : VK := fun x H1 => ∃ a, x = .ref a ∧ (∃ xs, SqT K H1 a xs) ∧ R (Itt K a) H1
def kStrI (R : It → Hp → Prop) : VK := fun v H1 => ∃ x, v = .str x ∧ R (Its x) H1
def kChain (r' : R2) (tc : TE) (σ : L2.St) (y : V) (Q : VK) : VK := fun z H3 => ∃ k, z = .bl k ∧ (if k = true then tc σ H3 fun w' H4 => r' y w' H4 Q else Q (.bl false) H3)
def kRng1 (QR : It → Hp → Prop) : List V → Hp → Prop := fun vs H1 => ∃ j : Int, vs = [.int j] ∧ -(2 ^ 62) ≤ j ∧ j < 2 ^ 62 ∧ QR (Itr 0 j.toNat) H1
def kRng2 (QR : It → Hp → Prop) : List V → Hp → Prop := fun vs H1 => ∃ i j : Int, vs = [.int i, .int j] ∧ (-(2 ^ 62) ≤ i ∧ i < 2 ^ 62 ∧ -(2 ^ 62) ≤ j ∧ j < 2 ^ 62) ∧ QR (Itr i (j - i).toNat) H1
def ForW (J : It) (g : TG) (tb : TS) (D : Ends) (σ : L2.St) (H : Hp) : Prop := ∃ W : Nat → Nat → L2.St → Hp → Prop, (∃ m, W 0 m σ H) ∧ ∀ i m σ H, W i m σ H →
  (J.stop i H ∧ D.nx σ H) ∨ (J.go i H ∧ ∃ N : L2.St → Hp → Prop, (∀ σ' H', N σ' H' → ∃ m', m' < m ∧ W (i + 1) m' σ' H') ∧ ∀ x H', J.yld i H x H' → g x σ H' fun σ2 H2 => tb { D with nx := N, ct := N, bk := D.nx } σ2 H2)
def LcW (J : It) (g : TG) (tt : TT) (te : TE) (vs : List Nat) (σ : L2.St) (H1 : Hp) (Q : VK) : Prop := ∀ D, H1 D = none → ∃ W : Nat → Nat → Hp → Prop, (∃ m, W 0 m (upd H1 D (.lst []))) ∧ ∀ i m H, W i m H →
  (J.stop i H ∧ Q (.ref D) H) ∨ (J.go i H ∧ ∃ Nx : Hp → Prop, (∀ H', Nx H' → ∃ m', m' < m ∧ W (i + 1) m' H') ∧ ∀ x H', J.yld i H x H' → g x (wipe σ vs) H' fun σ2 H2 => wipe σ2 vs = wipe σ vs ∧ tt σ2 H2 fun b H3 =>
    if b = true then te σ2 H3 fun y H4 => ∃ acc, H4 D = some (.lst acc) ∧ acc.length < sizeLine ∧ Nx (upd H4 D (.lst (acc ++ [y]))) else Nx H3)
/-! ### steps -/
section
variable {K : PySem.W.Frag} {σ : L2.St} {H : Hp} {i : Nat} {v x y z : V} {ta tb te tc : TE} {Q : VK} {QB : Bool → Hp → Prop} {QA : List V → Hp → Prop} {QO : Option Int → Hp → Prop} {r r' : R2} {D : Ends} {t u : TS} {g : TG} {tt tt' : TT} {R : It → Hp → Prop} {tas : TA}
theorem i_var (e : σ[i]? = some (some v)) (q : Q v H) : tVar i σ H Q := ⟨v, e, q⟩
theorem i_c (q : Q v H) : tC v σ H Q := q
theorem i_op (q : ta σ H fun x H1 => tb σ H1 fun y H2 => r x y H2 Q) : tOp r ta tb σ H Q := q
theorem i_un {ru : V → Hp → VK → Prop} (q : ta σ H fun x H1 => ru x H1 Q) : tUn ru ta σ H Q := q
theorem i_rI {C : Int → Int → Prop} {f : Int → Int → V} {a b : Int} (q : Q (f a b) H) (c : C a b) : rI C f (.int a) (.int b) H Q := ⟨a, b, rfl, rfl, c, q⟩
theorem i_rI0 {f : Int → Int → V} {a b : Int} (q : Q (f a b) H) : rI0 f (.int a) (.int b) H Q := ⟨a, b, rfl, rfl, q⟩
theorem i_rGe {a b : Int} (q : Q (.bl (decide (b ≤ a))) H) : rGe (.int a) (.int b) H Q := ⟨a, b, rfl, rfl, q⟩
theorem i_rGt {a b : Int} (q : Q (.bl (decide (b < a))) H) : rGt (.int a) (.int b) H Q := ⟨a, b, rfl, rfl, q⟩
theorem i_rU {f : Int → V} {a : Int} (q : Q (f a) H) : rU f (.int a) H Q := ⟨a, rfl, q⟩
theorem i_rEqI {a b : Int} (q : Q (.bl (decide (a = b))) H) : rEq (.int a) (.int b) H Q := ⟨rfl, by rw [dec_int, Bool.beq_eq_decide_eq]; exact q⟩
theorem i_rNeI {a b : Int} (q : Q (.bl (!decide (a = b))) H) : rNe (.int a) (.int b) H Q := ⟨rfl, by rw [dec_int, Bool.beq_eq_decide_eq]; exact q⟩
theorem i_rEqS {a b : Str} (q : Q (.bl (decide (a = b))) H) : rEq (.str a) (.str b) H Q := ⟨rfl, by rw [dec_str, Bool.beq_eq_decide_eq]; exact q⟩
theorem i_rNeS {a b : Str} (q : Q (.bl (!decide (a = b))) H) : rNe (.str a) (.str b) H Q := ⟨rfl, by rw [dec_str, Bool.beq_eq_decide_eq]; exact q⟩
theorem i_rEqB {a b : Bool} (q : Q (.bl (decide (a = b))) H) : rEq (.bl a) (.bl b) H Q := ⟨rfl, by rw [dec_bl, Bool.beq_eq_decide_eq]; exact q⟩
theorem i_rNeB {a b : Bool} (q : Q (.bl (!decide (a = b))) H) : rNe (.bl a) (.bl b) H Q := ⟨rfl, by rw [dec_bl, Bool.beq_eq_decide_eq]; exact q⟩
theorem i_rIsN (q : Q (.bl (decide (x = .non))) H) : rIsN x .non H Q := ⟨rfl, q⟩
theorem i_rNotN (q : Q (.bl (!decide (x = .non))) H) : rNotN x .non H Q := ⟨rfl, q⟩
theorem i_rInS {c : Nat} {z : Str} (q : Q (.bl (decide (c ∈ z.cps.toList))) H) : rInS (.str ⟨#[c]⟩) (.str z) H Q := ⟨c, z, rfl, rfl, q⟩
theorem i_rNotInS {c : Nat} {z : Str} (q : Q (.bl (!decide (c ∈ z.cps.toList))) H) : rNotInS (.str ⟨#[c]⟩) (.str z) H Q := ⟨c, z, rfl, rfl, q⟩
theorem i_catS {a b : Str} (q : Q (.str (a ++ b)) H) (c : a.length + b.length ≤ sizeLine) : xCatS (.str a) (.str b) H Q := ⟨a, b, rfl, rfl, c, q⟩
theorem i_tcb {rr : List V → Hp → VK → Prop} (q : tas σ H fun vs H1 => rr vs H1 Q) : tCB rr tas σ H Q := q
theorem i_nil (q : QA [] H) : tNil σ H QA := q
theorem i_cons (q : ta σ H fun x H1 => tas σ H1 fun xs H2 => QA (x :: xs) H2) : tCons ta tas σ H QA := q
theorem i_lenS {s : Str} (q : Q (.int s.length) H) (c : s.length ≤ sizeLine) : xLenS [.str s] H Q := ⟨s, rfl, c, q⟩
theorem i_lenL {p : Addr} {xs : List V} (h : SqL K H p xs) (q : Q (.int xs.length) H) : xLenL K [.ref p] H Q := ⟨p, xs, rfl, .inl h, q⟩
theorem i_lenT {p : Addr} {xs : List V} (h : SqT K H p xs) (q : Q (.int xs.length) H) : xLenL K [.ref p] H Q := ⟨p, xs, rfl, .inr h, q⟩
theorem i_abs {a : Int} (q : Q (.int (a.natAbs : Int)) H) : xAbs [.int a] H Q := ⟨a, rfl, by
  have e : (if a < 0 then -a else a) = (a.natAbs : Int) := by split <;> omega
  rw [e]; exact q⟩
theorem i_max2 {a b : Int} (q : Q (.int (max a b)) H) : xMax2 [.int a, .int b] H Q := ⟨a, b, rfl, by
  have e : (if b > a then b else a) = max a b := by split <;> omega
  rw [e]; exact q⟩
theorem i_min2 {a b : Int} (q : Q (.int (min a b)) H) : xMin2 [.int a, .int b] H Q := ⟨a, b, rfl, by
  have e : (if b < a then b else a) = min a b := by split <;> omega
  rw [e]; exact q⟩
theorem i_strI {a : Int} (q : Q (.str (toString a)) H) (c : a.natAbs.log2 < 1920) : xStrI [.int a] H Q := ⟨a, rfl, c, q⟩
theorem i_intB {k : Bool} (q : Q (.int (if k then 1 else 0)) H) : xIntB [.bl k] H Q := .inr ⟨k, rfl, q⟩
theorem i_test (q : te σ H (kB QB)) : tTest te σ H QB := q
theorem i_tB (q : te σ H (kB QB)) : tB te σ H QB := q
theorem i_kB {k : Bool} (q : QB k H) : kB QB (.bl k) H := ⟨k, rfl, q⟩
theorem i_and (q : tt σ H fun c H1 => if c = true then tt' σ H1 QB else QB false H1) : tAnd tt tt' σ H QB := q
theorem i_or (q : tt σ H fun c H1 => if c = true then QB true H1 else tt' σ H1 QB) : tOr tt tt' σ H QB := q
theorem i_not (q : tt σ H fun c H1 => QB (!c) H1) : tNot tt σ H QB := q
theorem i_if (q : tt σ H fun c H1 => if c = true then ta σ H1 Q else tb σ H1 Q) : tIf tt ta tb σ H Q := q
theorem i_andV (q : ta σ H (kAndV tb σ Q)) : tAndV ta tb σ H Q := q
theorem i_orV (q : ta σ H (kOrV tb σ Q)) : tOrV ta tb σ H Q := q
theorem i_notV (q : ta σ H (kNotV Q)) : tNotV ta σ H Q := q
theorem i_kAndV {c : Bool} (q : if c = true then tb σ H Q else Q (.bl false) H) : kAndV tb σ Q (.bl c) H := ⟨c, rfl, q⟩
theorem i_kOrV {c : Bool} (q : if c = true then Q (.bl true) H else tb σ H Q) : kOrV tb σ Q (.bl c) H := ⟨c, rfl, q⟩
theorem i_kNotV {c : Bool} (q : Q (.bl (!c)) H) : kNotV Q (.bl c) H := ⟨c, rfl, q⟩
theorem i_chain (q : ta σ H fun x H1 => tb σ H1 fun y H2 => r x y H2 (kChain r' tc σ y Q)) : tChain r r' ta tb tc σ H Q := q
theorem i_kChain {k : Bool} (q : if k = true then tc σ H fun w' H4 => r' y w' H4 Q else Q (.bl false) H) : kChain r' tc σ y Q (.bl k) H := ⟨k, rfl, q⟩
theorem i_seq (q : t { D with nx := u D } σ H) : tSeq t u D σ H := q
theorem i_next (q : D.nx σ H) : tNext D σ H := q
theorem i_drop (q : te σ H fun _ H1 => D.nx σ H1) : tDrop te D σ H := q
theorem i_ret (q : te σ H D.rt) : tRet te D σ H := q
theorem i_retN (q : D.rt .non H) : tRetN D σ H := q
theorem i_ifS (q : tt σ H fun b H1 => if b = true then t D σ H1 else u D σ H1) : tIfS tt t u D σ H := q
theorem i_asg (q : te σ H fun x H1 => g x σ H1 D.nx) : tAsg te g D σ H := q
theorem i_gName {QS : L2.St → Hp → Prop} (q : QS (σ.set i (some v)) H) : gName i v σ H QS := q
theorem i_for {wi : TI} (q : wi σ H fun J H1 => ForW J g t D σ H1) : tFor wi g t D σ H := q
theorem i_lc {wi : TI} {vs : List Nat} (q : wi σ H fun J H1 => LcW J g tt te vs σ H1 Q) : tLc wi g tt te vs σ H Q := q
theorem i_iList (q : ta σ H (kListI K R)) : iList K ta σ H R := q
theorem i_iTup (q : ta σ H (kTupI K R)) : iTup K ta σ H R := q
theorem i_iStr (q : ta σ H (kStrI R)) : iStr ta σ H R := q
theorem i_kListI {a : Addr} {xs : List V} (h : SqL K H a xs) (q : R (Itl K a) H) : kListI K R (.ref a) H := ⟨a, rfl, ⟨xs, h⟩, q⟩
theorem i_kTupI {a : Addr} {xs : List V} (h : SqT K H a xs) (q : R (Itt K a) H) : kTupI K R (.ref a) H := ⟨a, rfl, ⟨xs, h⟩, q⟩
theorem i_kStrI {s : Str} (q : R (Its s) H) : kStrI R (.str s) H := ⟨s, rfl, q⟩
theorem i_lst (q : tas σ H fun xs H1 => xs.length ≤ sizeLine ∧ ∀ p, H1 p = none → Q (.ref p) (upd H1 p (.lst xs))) : tLst tas σ H Q := q
theorem i_tup (q : tas σ H fun xs H1 => xs.length ≤ sizeLine ∧ ∀ p, H1 p = none → Q (.ref p) (upd H1 p (.tup xs))) : tTup tas σ H Q := q
theorem i_ixL {p : Addr} {xs : List V} {j : Int} (h : SqL K H p xs) (e : atI xs j = some v) (q : Q v H) : rIxL K (.ref p) (.int j) H Q := ⟨p, xs, j, v, rfl, rfl, h, e, q⟩
theorem i_ixT {p : Addr} {xs : List V} {j : Int} (h : SqT K H p xs) (e : atI xs j = some v) (q : Q v H) : rIxT K (.ref p) (.int j) H Q := ⟨p, xs, j, v, rfl, rfl, h, e, q⟩
theorem i_ixS {s : Str} {j : Int} {c : Nat} (q : Q (.str ⟨#[c]⟩) H) (hs : s.length ≤ sizeLine) (e : atI s.cps.toList j = some c) : rIxS (.str s) (.int j) H Q := ⟨s, j, c, rfl, rfl, hs, e, q⟩
theorem i_call {sp : Sp} {dvs : List V} {E : XK} (q : tas σ H fun vs H1 => sp (vs ++ dvs) H1 Q E) : tCall sp dvs E tas σ H Q := q
theorem i_m1 {rm : V → List V → Hp → VK → Prop} (q : ta σ H (kStr fun x H1 => te σ H1 fun y H2 => rm x [y] H2 Q)) : tM1 rm ta te σ H Q := q
theorem i_kStr {s : Str} (q : Q (.str s) H) : kStr Q (.str s) H := ⟨⟨s, rfl⟩, q⟩
theorem i_bm {T : String} {rm : V → List V → Hp → VK → Prop} (q : ta σ H (kTy K T fun x H1 => tas σ H1 fun xs H2 => rm x xs H2 Q)) : tBM K T rm ta tas σ H Q := q
theorem i_bm0 {T : String} {rm : V → List V → Hp → VK → Prop} (q : ta σ H (kTy K T fun x H1 => rm x [] H1 Q)) : tBM0 K T rm ta σ H Q := q
theorem i_kTyL {p : Addr} {xs : List V} (h : SqL K H p xs) (q : Q (.ref p) H) : kTy K "list" Q (.ref p) H := ⟨.inl ⟨rfl, xs, h⟩, q⟩
theorem i_append {l : Addr} {xs : List V} {y : V} (h : H l = some (.lst xs)) (q : Q .non (upd H l (.lst (xs ++ [y])))) (c : xs.length < sizeLine) : rAppend (.ref l) [y] H Q := ⟨l, xs, y, rfl, rfl, h, c, q⟩
theorem i_split {a b : Str} (q : ∀ p, H p = none → Q (.ref p) (upd H p (.lst ((Txt.split a b).map V.str)))) (h : (b.length == 0) = false) (c : a.length + 2 ≤ sizeLine) : xSplit (.str a) [.str b] H Q := ⟨a, b, rfl, rfl, h, c, q⟩
theorem i_part (q : te σ H (kInt QO)) : tPart te σ H QO := q
theorem i_kInt {a : Int} (q : QO (some a) H) : kInt QO (.int a) H := ⟨a, rfl, q⟩
theorem i_noPart (q : QO none H) : tNoPart σ H QO := q
theorem i_sl {rs : V → Option Int → Option Int → Hp → VK → Prop} {tl th : TO} (q : te σ H fun x H1 => tl σ H1 fun l H2 => th σ H2 fun u H3 => rs x l u H3 Q) : tSl rs te tl th σ H Q := q
theorem i_slL {a : Addr} {xs : List V} {lo hi : Option Int} (h : SqL K H a xs) (q : ∀ p, H p = none → Q (.ref p) (upd H p (.lst (cutV xs lo hi)))) : rSlL K (.ref a) lo hi H Q := ⟨a, xs, rfl, h, q⟩
theorem i_range1 {QR : It → Hp → Prop} (q : tas σ H (kRng1 QR)) : iRng1 tas σ H QR := q
theorem i_range2 {QR : It → Hp → Prop} (q : tas σ H (kRng2 QR)) : iRng2 tas σ H QR := q
theorem i_kRng1 {j : Int} {QR : It → Hp → Prop} (q : QR (Itr 0 j.toNat) H) (c : -(2 ^ 62) ≤ j ∧ j < 2 ^ 62) : kRng1 QR [.int j] H := ⟨j, rfl, c.1, c.2, q⟩
theorem i_kRng2 {a b : Int} {QR : It → Hp → Prop} (q : QR (Itr a (b - a).toNat) H) (c : -(2 ^ 62) ≤ a ∧ a < 2 ^ 62 ∧ -(2 ^ 62) ≤ b ∧ b < 2 ^ 62) : kRng2 QR [.int a, .int b] H := ⟨a, b, rfl, c, q⟩
theorem i_gTup {a : Addr} {xs : List V} {n : Nat} {gs : TGs} {QS : L2.St → Hp → Prop} (h : SqT K H a xs) (e : xs.length = n) (q : gs xs σ H QS) : gTup K n gs (.ref a) σ H QS := ⟨a, xs, rfl, h, e, q⟩
theorem i_gCons {g : TG} {gs : TGs} {xs : List V} {QS : L2.St → Hp → Prop} (q : g v σ H fun σ' H' => gs xs σ' H' QS) : gCons g gs (v :: xs) σ H QS := ⟨v, xs, rfl, q⟩
theorem i_gNil {QS : L2.St → Hp → Prop} (q : QS σ H) : gNil [] σ H QS := ⟨rfl, q⟩
theorem i_gSub {to ti : TE} {ts : TSet} {QS : L2.St → Hp → Prop} (q : to σ H fun o H1 => ti σ H1 fun i H2 => ts o i v H2 fun H3 => QS σ H3) : gSub to ti ts v σ H QS := q
theorem i_setL {p : Addr} {xs : List V} {k : Int} {j : Nat} {QH : Hp → Prop} (h : H p = some (.lst xs)) (e : ixN xs.length k = some j) (q : QH (upd H p (.lst (xs.set j v)))) : rSetL (.ref p) (.int k) v H QH := ⟨p, xs, k, j, rfl, rfl, h, e, q⟩
def kZip (K : PySem.W.Frag) (R : It → Hp → Prop) : List V → Hp → Prop := fun vs H1 => ∃ a b xs ys, vs = [.ref a, .ref b] ∧ SqL K H1 a xs ∧ SqL K H1 b ys ∧ R (Itz K a b) H1
theorem i_iZip (q : tas σ H (kZip K R)) : iZip K tas σ H R := q
theorem i_kZip {a b : Addr} {xs ys : List V} (h1 : SqL K H a xs) (h2 : SqL K H b ys) (q : R (Itz K a b) H) : kZip K R [.ref a, .ref b] H := ⟨a, b, xs, ys, rfl, h1, h2, q⟩
theorem i_cat {l b : Addr} {xs zs : List V} (h1 : H l = some (.lst xs)) (h2 : H b = some (.lst zs)) (c : xs.length + zs.length ≤ sizeLine) (q : ∀ p, H p = none → Q (.ref p) (upd H p (.lst (xs ++ zs)))) : rCat (.ref l) (.ref b) H Q := ⟨l, b, xs, zs, rfl, rfl, h1, h2, c, q⟩
theorem i_rep {l : Addr} {k : Int} {xs : List V} (h : H l = some (.lst xs)) (c1 : -(2 ^ 63) ≤ k) (c2 : k < 2 ^ 63) (c3 : xs.length * k.toNat ≤ sizeLine) (q : ∀ p, H p = none → Q (.ref p) (upd H p (.lst (List.replicate k.toNat xs).flatten))) : rRep (.ref l) (.int k) H Q := ⟨l, k, xs, rfl, rfl, h, c1, c2, c3, q⟩
theorem i_join {a : Str} {p : Addr} {ys : List Str} (h : SqL K H p (ys.map V.str)) (c : (ys.map (·.length)).sum + ys.length * a.length ≤ 16777216) (q : Q (.str (Txt.join a ys)) H) : xJoin K (.str a) [.ref p] H Q := ⟨a, p, ys, rfl, rfl, .inl h, c, q⟩
theorem i_yes (q : QB true H) : tYes σ H QB := q
theorem i_ift {A B : Prop} (q : A) : if true = true then A else B := by rw [if_pos rfl]; exact q
theorem i_iff {A B : Prop} (q : B) : if false = true then A else B := by rw [if_neg Bool.false_ne_true]; exact q
theorem i_dec {p A B : Prop} [Decidable p] (h1 : p → A) (h2 : ¬ p → B) : if decide p = true then A else B := by
  by_cases h : p
  · rw [if_pos (decide_eq_true h)]; exact h1 h
  · rw [if_neg (by simp [h])]; exact h2 h
theorem i_ndec {p A B : Prop} [Decidable p] (h1 : ¬ p → A) (h2 : p → B) : if (!decide p) = true then A else B := by
  by_cases h : p
  · rw [if_neg (by simp [h])]; exact h2 h
  · rw [if_pos (by simp [h])]; exact h1 h
theorem i_nb {b : Bool} {A B : Prop} (q : if b = true then B else A) : if (!b) = true then A else B := by
  cases b <;> exact q
theorem i_b {b : Bool} {A B : Prop} (h1 : b = true → A) (h2 : b = false → B) : if b = true then A else B := by
  cases b with
  | true => exact i_ift (h1 rfl)
  | false => exact i_iff (h2 rfl)
end
end HX

set_option Elab.async false
set_option linter.all false
set_option maxRecDepth 100000
set_option maxHeartbeats 2000000
/-! HXrev: sep.join(reversed(list of texts)); a figure's place among the figures. -/
namespace HX
open PySem PySem.Spec PyProof.Rows L2
section
variable {prog : Program} {w : World} {A : Around} {E : Value → Shared → Prop} {s : Shared}
theorem join_rev {x : Str} {t : Tok} {it l : Addr} {items : Array Value} {ys : List Str} {Q : Value → Shared → Prop} (hh : A.handled = none) (hit : s.heap.IsRevIter it l ((items.size : Int) - 1)) (hl : s.heap.IsList l items) (hne : l ≠ it) (hn : items.size ≤ sizeLine)
    (hP : ∀ acc : Array Value, ItemsOf (fun i v => items[items.size - 1 - i]? = some v) acc items.size → StrsAre acc.toList ys) (hok : (ys.map (·.length)).sum + ys.length * x.length ≤ 16777216)
    (hq : ∀ (h' : Heap) (k t' : Nat), (∀ b o, b ≠ it → s.heap.get? b = some o → h'.get? b = some o) → Q (.str (Txt.join x ys) t') { s with heap := h', toks := k }) :
    wpAny (model prog w) A (call (.builtin "str.join") [.str x t, .ref it]) Q E s := by
  refine wpAny_call (codeAny_call_builtin F.slot_str_join.plain F.entry_str_join (F.slot_str_join.check _ _ _ _ _ _ _ _ (typeIs_str _ _ _) (F.args_str_join_2 _ _) ?_))
  rw [join_tree_other]
  refine wpAny_bind (wpAny_typeOf hit.typeIs ?_)
  show wpAny _ A.in1 ((pyIter (.ref it)).tryCatch _ >>= fun i => collect i >>= fun items => joinTail x items) _ _ s
  refine wpAny_bind (wpAny_tryCatch (wpAny_pyIter_revIter hit ?_))
  refine wpAny_bind (RT.collect_rev (A := A.in1) hh hit hl hne hn fun h' tk acc hk hacc => ?_)
  obtain ⟨l, hl', ht⟩ := strsAre_values (hP acc hacc)
  subst ht
  rw [hl']
  have hok' := joinOk_of hok
  unfold JoinOk at hok'
  rw [Bool.not_eq_true'] at hok'
  have g : Gives (joinTail x (strValues l)) (joinMade x l) := by
    have g0 := gives_joinTail x l hok'
    cases l with
    | nil => exact g0
    | cons p r => cases r with
      | nil => exact g0
      | cons q r' => exact g0
  exact g prog w A (wants Q E) _ (post_join l ⟨joinFit_length hok', fun t' k => hq h' k t' hk⟩)
end
end HX
namespace HX
open PySem PySem.Spec PyProof.Rows L2
theorem rev_at {ys : List Str} {its : List Value} (r : Vals (ys.map V.str) its) {acc : Array Value} (h : ItemsOf (fun i v => its.toArray[its.toArray.size - 1 - i]? = some v) acc its.toArray.size) : StrsAre acc.toList ys.reverse := by
  have hl : its.length = ys.length := by rw [← r.length, List.length_map]
  obtain ⟨h1, h2⟩ := h
  have key : ∀ (n : Nat) (L : List Value) (zs : List Str), L.length = n → zs.length = n → (∀ (i : Nat) (v : Value), L[i]? = some v → ∃ (y : Str) (t : Tok), zs[i]? = some y ∧ v = Value.str y t) → StrsAre L zs := by
    intro n
    induction n with
    | zero =>
      intro L zs e1 e2 _
      rw [List.length_eq_zero_iff.mp e1, List.length_eq_zero_iff.mp e2]
      exact .nil
    | succ n ih =>
      intro L zs e1 e2 k
      cases L with
      | nil => simp at e1
      | cons v L =>
        cases zs with
        | nil => simp at e2
        | cons z zs =>
          obtain ⟨y, t, hy, rfl⟩ := k 0 v rfl
          have ey : z = y := Option.some.inj hy
          subst ey
          exact .cons z t (ih L zs (by simpa using e1) (by simpa using e2) fun i v' hv => k (i + 1) v' (by simpa using hv))
  refine key ys.length acc.toList ys.reverse ?_ (by simp) fun i v hv => ?_
  · rw [Array.length_toList, h1]; simp [hl]
  · have hv' : acc[i]? = some v := by simpa using hv
    have q := h2 i v hv'
    have hi : i < ys.length := by
      have := (Array.getElem?_eq_some_iff.mp hv').1
      rw [h1] at this
      simpa [hl] using this
    have q2 : its[its.length - 1 - i]? = some v := by simpa using q
    have hj : its.length - 1 - i < ys.length := by omega
    obtain ⟨u, hu, ru⟩ := r.get (i := its.length - 1 - i) (x := V.str ys[its.length - 1 - i]) (by rw [List.getElem?_map, List.getElem?_eq_getElem hj]; rfl)
    rw [q2] at hu
    obtain rfl := Option.some.inj hu
    obtain ⟨t, rfl⟩ := (show ∃ t, v = Value.str _ t from ru)
    refine ⟨_, t, ?_, rfl⟩
    rw [List.getElem?_reverse hi, ← hl, List.getElem?_eq_getElem hj]
section
variable {X : Cx}
def kJoinRev (K : PySem.W.Frag) (sep : Str) (Q : VK) : List V → Hp → Prop := fun vs H2 => ∃ (q : Addr) (ys : List Str), vs = [.ref q] ∧ SqL K H2 q (ys.map V.str) ∧ (ys.map (·.length)).sum + ys.length * sep.length ≤ 16777216 ∧ Q (.str (Txt.join sep ys.reverse)) H2
/-- sep.join(reversed(xs)) -/
def tJoinRev (K : PySem.W.Frag) (to : TE) (ta : TA) : TE := fun σ H Q => to σ H fun x H1 => ∃ a : Str, x = .str a ∧ ta σ H1 (kJoinRev K a Q)
theorem x_joinRev {o e : Expr} {to : TE} {ta : TA} {apos pos p pos2 : Pos} (hc : X.calm = true) (ho : PE X o to) (hg : Gl X "reversed") (hm : X.mg "reversed" = none) (ha : PA X [e] ta)
    (hs1 : starEach [.Call (.Name "reversed" p) [e] [] pos2] X.env = [(false, eval (.Call (.Name "reversed" p) [e] [] pos2) X.env)] := by rfl) (hs : starEach [e] X.env = [(false, eval e X.env)] := by rfl)
    (hbase : attributeBase o "join" X.env (eval o X.env) = eval o X.env := by rfl) (hline : (apos.endLine == pos.line) = true := by rfl) :
    PE X (.Call (.Attribute o "join" apos) [.Call (.Name "reversed" p) [e] [] pos2] [] pos) (tJoinRev X.K to ta) := by
  refine ⟨fun pins s σ H Q I h => ?_⟩
  refine PySem.Call_method1 hbase hs1 hline (thn (ho.run pins s σ H _ I h) fun v s1 ⟨x, H1, I1, r1, q1⟩ => ?_)
  obtain ⟨a, rfl, q1⟩ := q1
  obtain ⟨t, rfl⟩ := _root_.id r1
  refine ⟨"str", _, F.plainAttrs_str, F.slot_str_join, F.type_str_join, typeIs_str _ _ _, (fun _ e => nomatch e), Calls.callWith_builtin rfl (Calls.evalArgs_plain (Calls.spliced_cons ?_))⟩
  refine Call_ (ld_blt I1 hg hm PyProof.Rows.boot_reversed (PyProof.Rows.callWith_type1 (thn (ha.run pos2 pins s1 σ H1 _ I1 q1) fun us s2 ⟨vs, H2, I2, r2, q2⟩ => ?_) hs rfl))
  obtain ⟨q, ys, rfl, hq, hz, q3⟩ := q2
  cases r2 with
  | cons r rr =>
    cases rr
    cases r
    obtain ⟨its, rv, pl, hsz⟩ := I2.list hq
    have hit : (s2.heap.push (revObj q ((its.toArray.size : Int) - 1))).IsRevIter s2.heap.objs.size q ((its.toArray.size : Int) - 1) := ⟨_, Heap.get?_push_size _ rfl, rfl, rfl⟩
    have hlt : q < s2.heap.objs.size := by obtain ⟨o, ho, _⟩ := pl.isList; exact Heap.lt_size ho
    refine call_reversed_list pl.isList (Calls.spliced_nil (join_rev (s := { s2 with heap := s2.heap.push (revObj q ((its.toArray.size : Int) - 1)) }) (ys := ys.reverse) (I2.ok.hd hc) hit (pl.isList.push _) (Nat.ne_of_lt hlt) (by rw [List.size_toArray, ← rv.length]; exact hsz) (fun acc hacc => rev_at rv hacc) (by simpa [List.sum_reverse] using hz) fun h' k t' hk => ?_))
    exact ⟨.str _, H2, I2.kept (t' := k) (fun b o e => hk b o (Nat.ne_of_lt (Heap.lt_size e)) (Heap.get?_push_of_some _ e)), ⟨t', rfl⟩, q3⟩
end
section
variable {K : PySem.W.Frag} {σ : L2.St} {H : Hp} {to : TE} {ta : TA} {Q : VK}
def kRev0 (K : PySem.W.Frag) (ta : TA) (σ : L2.St) (Q : VK) : VK := fun x H1 => ∃ a : Str, x = .str a ∧ ta σ H1 (kJoinRev K a Q)
theorem i_joinRev (q : to σ H (kRev0 K ta σ Q)) : tJoinRev K to ta σ H Q := q
theorem i_kRev0 {a : Str} (q : ta σ H (kJoinRev K a Q)) : kRev0 K ta σ Q (.str a) H := ⟨a, rfl, q⟩
theorem i_kJoinRev {a : Str} {p : Addr} {ys : List Str} (h : SqL K H p (ys.map V.str)) (c : (ys.map (·.length)).sum + ys.length * a.length ≤ 16777216) (q : Q (.str (Txt.join a ys.reverse)) H) : kJoinRev K a Q [.ref p] H := ⟨p, ys, rfl, h, c, q⟩
end
/-! ### a figure's place -/
def figs : Str := "0123456789"
theorem occ_fig : ∀ d : Nat, d < 10 → Builtin.Str.occurrences figs ⟨#[48 + d]⟩ 0 figs.length 1 = [d] := by decide +kernel
def xIndexF : V → List V → Hp → VK → Prop := fun x xs H Q => ∃ d : Nat, x = .str figs ∧ xs = [.str ⟨#[48 + d]⟩] ∧ d < 10 ∧ Q (.int (d : Nat)) H
theorem mt_indexF {X : Cx} : MtR X "str.index" xIndexF := by
  intro pins s σ H x xs v us Q I rx rs h
  obtain ⟨d, rfl, rfl, hd, q⟩ := h
  exact mt_sindex pins s σ H _ _ v us Q I rx rs ⟨figs, _, d, [], rfl, rfl, occ_fig d hd, q⟩
theorem x_indexS {X : Cx} {o e : Expr} {to te : TE} {apos pos : Pos} (ho : PE X o to) (he : PE X e te) (hs : starEach [e] X.env = [(false, eval e X.env)] := by rfl) (hbase : attributeBase o "index" X.env (eval o X.env) = eval o X.env := by rfl) (hline : (apos.endLine == pos.line) = true := by rfl) :
    PE X (.Call (.Attribute o "index" apos) [e] [] pos) (tM1 xIndexF to te) := pe_m1 F.slot_str_index F.type_str_index mt_indexF ho he hs hbase hline
end HX

set_option Elab.async false
set_option linter.all false
set_option maxRecDepth 100000
set_option maxHeartbeats 2000000
/-! HXweb: further rules: a dict against the empty one, steps of 1 and -1, texts taken out of a list. -/
namespace HX
open PySem PySem.Spec PyProof.Rows L2
section
variable {X : Cx}
/-- d != {} -/
def rNeD0 : R2 := fun x y H Q => ∃ a b ks, x = .ref a ∧ y = .ref b ∧ H a = some (.dK ks) ∧ H b = some (.dK []) ∧ Q (.bl (!ks.isEmpty)) H
theorem op_ne_dict0 (hu : X.A.units < cLine) : OpR X (compareOp .NotEq) rNeD0 := by
  intro pins s σ H x y v u Q I rx ry h
  obtain ⟨a, b, ks, rfl, rfl, ea, eb, q⟩ := h
  obtain rfl : v = Value.ref a := rx
  obtain rfl : u = Value.ref b := ry
  obtain ⟨_, ya, va, ra, da⟩ := (show ObjOk X.prog X.w H s.heap a (.dK ks) from I.hok a _ ea)
  obtain ⟨_, yb, vb, rb, db⟩ := (show ObjOk X.prog X.w H s.heap b (.dK []) from I.hok b _ eb)
  cases rb
  have la : va.length = ks.length := ra.length.symm
  refine PySem.W.keq_ne (knd := mixKind X.prog X.w) (r := true) ya yb da db hu (fun e => ?_) (fin_bl I q ?_)
  · have e0 : va = [] := List.length_eq_zero_iff.mp (by simpa using e)
    subst e0
    have k0 : ks = [] := List.length_eq_zero_iff.mp (by rw [← la]; rfl)
    subst k0
    exact hits_all (kvs := []) .nil ra fun _ h => by simp at h
  · rw [la]
    cases ks <;> simp
/-- xs[::k], k one or minus one -/
def kStepL (K : PySem.W.Frag) (x : V) (Q : VK) : Option Int → Hp → Prop := fun o H2 => ∃ a xs k, x = .ref a ∧ o = some k ∧ SqL K H2 a xs ∧ (k = 1 ∨ k = -1) ∧ ∀ p, H2 p = none → Q (.ref p) (upd H2 p (.lst (if k = 1 then xs else xs.reverse)))
def tStepL (K : PySem.W.Frag) (te : TE) (tk : TO) : TE := fun σ H Q => te σ H fun x H1 => tk σ H1 (kStepL K x Q)
theorem i_stepL {K : PySem.W.Frag} {te : TE} {tk : TO} {σ : L2.St} {H : Hp} {Q : VK} (q : te σ H fun x H1 => tk σ H1 (kStepL K x Q)) : tStepL K te tk σ H Q := q
theorem i_kStepL {K : PySem.W.Frag} {H : Hp} {Q : VK} {a : Addr} {xs : List V} {k : Int} (h : SqL K H a xs) (c : k = 1 ∨ k = -1) (q : ∀ p, H p = none → Q (.ref p) (upd H p (.lst (if k = 1 then xs else xs.reverse)))) : kStepL K (.ref a) Q (some k) H := ⟨a, xs, k, rfl, rfl, h, c, q⟩
theorem pick_one (items : Array Value) : slicePick items none none (some 1) = items := by
  unfold slicePick
  have e : sliceBounds none none (some 1) items.size = (0, (items.size : Int), 1) := by
    first
    | rfl
    | simp [sliceBounds]
  rw [e]
  show ((sliceRange 0 (items.size : Int) 1).filterMap (items[·]?)).toArray = _
  have r : sliceRange 0 (items.size : Int) 1 = List.range items.size := by
    unfold sliceRange
    have h1 : ((1 : Int) > 0) := by decide
    by_cases h : (0 : Int) < (items.size : Int)
    · have e : ((items.size : Int) - 0 + 1 - 1) / 1 = (items.size : Int) := by
        rw [Int.ediv_one]; omega
      simp only [h1, if_true, h, e, Int.toNat_natCast]
      conv => rhs; rw [← List.map_id (List.range items.size)]
      apply List.map_congr_left
      intro k hk
      simp
    · have e : items.size = 0 := by omega
      simp [e]
  rw [r, PySem.W.krv_all]
theorem pe_stepL {e ek : Expr} {te tk : TE} {p3 pos : Pos} (he : PE X e te) (hk : PE X ek tk) : PE X (.Subscript e (.Slice none none (some ek) p3) pos) (tStepL X.K te (tPart tk)) := by
  refine ⟨fun pins s σ H Q I h => ?_⟩
  refine Subscript_ (thn (he.run pins s σ H _ I h) fun v s1 ⟨x, H1, I1, r1, q1⟩ => ?_)
  have hst : PO X (some ek) (tPart tk) := po_some hk
  refine wpAny_Slice (thn (po_none.run pins s1 σ H1 (fun o H2 => o = none ∧ H2 = H1) I1 ⟨rfl, rfl⟩) fun vl s2 ⟨l, H2, I2, pl, el, e2⟩ => ?_)
  subst el e2
  refine thn (po_none.run pins s2 σ H2 (fun o H3 => o = none ∧ H3 = H2) I2 ⟨rfl, rfl⟩) fun vu s3 ⟨u, H3, I3, pu, eu, e3⟩ => ?_
  subst eu e3
  refine thn (hst.run pins s3 σ H3 _ I3 q1) fun vs s4 ⟨o, H4, I4, ps, a, xs, k, ex, eo, hx, hk, q⟩ => ?_
  subst eo ex
  obtain rfl : v = Value.ref a := r1
  have I5 : Inv X pins σ H4 { s4 with heap := s4.heap.push { cls := .type "slice", data := .fields #[vl, vu, vs] } } := I4.kept (t' := s4.toks) fun b ob q => Heap.get?_push_of_some _ q
  obtain ⟨its, r, ht, hz⟩ := I5.list hx
  have hlen := r.length
  show wpAny (model X.prog X.w) X.A (subscriptTail e (.Slice none none (some ek) p3) (.ref a) (.ref s4.heap.objs.size)) (EP X pins σ Q) X.xe { s4 with heap := s4.heap.push { cls := .type "slice", data := .fields #[vl, vu, vs] } }
  refine tail_any (ops := [.ref a, .ref s4.heap.objs.size]) ht.isList.typeIs (PySem.slot_list_getitem.lookup) ?_ (by with_unfolding_all rfl)
  have hk0 : k ≠ 0 := by rcases hk with h | h <;> rw [h] <;> decide
  refine wpAny_getItem_list_slice ht.isList (Heap.IsSliceOf.new _ vl vu vs) pl pu ps (by simpa using hk0) ?_ (by rw [List.size_toArray]; omega)
  rcases hk with rfl | rfl
  · rw [pick_one]
    refine ⟨.ref _, _, I5.laid (t' := s4.toks) (o := .lst xs) (fun b ob q => Heap.get?_push_of_some _ q) (Nat.le_refl _) ?_, rfl, q _ (I5.hok.fresh (Nat.le_refl _))⟩
    exact ⟨hz, _, 0, r, Heap.get?_push_size _ rfl⟩
  · rw [PySem.W.krv_pick]
    refine ⟨.ref _, _, I5.laid (t' := s4.toks) (o := .lst xs.reverse) (fun b ob q => Heap.get?_push_of_some _ q) (Nat.le_refl _) ?_, rfl, q _ (I5.hok.fresh (Nat.le_refl _))⟩
    exact ⟨by rw [List.length_reverse]; exact hz, _, 0, r.reverse, Heap.get?_push_size _ rfl⟩
/-! ### list.remove of a text -/
def rRemS : V → List V → Hp → VK → Prop := fun x xs H Q => ∃ (l : Addr) (ys : List Str) (k : Str) (j : Nat), x = .ref l ∧ xs = [.str k] ∧ H l = some (.lst (ys.map V.str)) ∧ ys[j]? = some k ∧ (∀ m : Nat, m < j → ys[m]? ≠ some k) ∧ Q .non (upd H l (.lst ((ys.eraseIdx j).map V.str)))
theorem erase_mapS : ∀ (l : List Str) (j : Nat), (l.map V.str).eraseIdx j = (l.eraseIdx j).map V.str
  | [], j => by simp
  | a :: r, 0 => by simp
  | a :: r, j + 1 => by simp [erase_mapS r j]
theorem strs_get {us : List Value} {ys : List Str} (h : StrsAre us ys) {m : Nat} {y : Str} (e : ys[m]? = some y) : ∃ t, us[m]? = some (.str y t) := by
  induction h generalizing m with
  | nil => simp at e
  | cons z t r ih =>
    cases m with
    | zero =>
      have : z = y := by simpa using e
      subst this
      exact ⟨t, rfl⟩
    | succ m => simpa using ih (m := m) (by simpa using e)
theorem mt_removeS : MtM X "list.remove" rRemS := by
  intro pins s σ H x xs v us Q I rx rxs h
  obtain ⟨l, ys, k, j, rfl, rfl, hH, hj, hno, q⟩ := h
  cases rx
  obtain ⟨u, rfl, ru⟩ := rxs.one
  obtain ⟨t, rfl⟩ := ru
  obtain ⟨z, its, n, r, hl, e⟩ := I.lstM hH
  have hi : StrsAre its ys := strs_of_vals r
  rw [List.length_map] at hl z
  have hjn : j < ys.length := (List.getElem?_eq_some_iff.mp hj).1
  have hjl : j < its.toArray.size := by rw [List.size_toArray]; omega
  refine call_meets PySem.F.slot_list_remove ⟨_, e, rfl⟩ PySem.F.entry_list_remove (PySem.F.args_list_remove_2 _ _)
    (MeetsSeq.list_remove l its.toArray n (.str k t) (isStrOf k) (fun y hy => eq_isStrOf k t hi y (by simpa using hy)) j hjl ?_ ?_ (by rw [List.size_toArray]; omega)) ⟨e, ?_⟩
  · obtain ⟨tj, hjt⟩ := strs_get hi hj
    obtain ⟨h1, h2⟩ := List.getElem?_eq_some_iff.mp hjt
    have e1 : its.toArray[j] = .str k tj := by simpa using h2
    rw [e1]
    exact beq_self_eq_true k
  · intro m hm hmj
    have hmn : m < ys.length := by omega
    obtain ⟨tm, hmt⟩ := strs_get hi (List.getElem?_eq_getElem hmn)
    obtain ⟨h1, h2⟩ := List.getElem?_eq_some_iff.mp hmt
    have e1 : its.toArray[m] = .str ys[m] tm := by simpa using h2
    rw [e1]
    refine beq_eq_false_iff_ne.mpr fun e2 => hno m hmj ?_
    rw [List.getElem?_eq_getElem hmn, e2]
  · have rr := r.eraseIdx j
    rw [erase_mapS] at rr
    refine ⟨.non, _, I.lset (its' := its.eraseIdx j) (t' := s.toks) hH e ?_ rr ?_, rfl, q⟩
    · show its.toArray.eraseIdxIfInBounds j = (its.eraseIdx j).toArray
      rw [List.eraseIdxIfInBounds_toArray]
    · rw [List.length_map, List.length_eraseIdx]
      split <;> omega
end
end HX

/-! ### the head's facts and one more Bool -/
namespace He
open PySem PySem.Spec PyProof.Rows L2
def obsX (ex : PySem.W.Frag → Bool) (fa : List Fa) (fn : List DefD) (K : PySem.W.Frag) : AlD := (ex K && (obsD fa fn K).1, (obsD fa fn K).2)
def SaysX (ex : PySem.W.Frag → Bool) (fa : List Fa) (fn : List DefD) (K : PySem.W.Frag) : Prop := obsX ex fa fn K = valD fn
theorem SaysX.both {ex : PySem.W.Frag → Bool} {fa : List Fa} {fn : List DefD} {K : PySem.W.Frag} (h : SaysX ex fa fn K) : ex K = true ∧ SaysD fa fn K := by
  have h0 : obsX ex fa fn K = valD fn := h
  have h1 : (ex K && (obsD fa fn K).1) = true := by
    have e := congrArg Prod.fst h0
    exact e
  have h2 : (obsD fa fn K).2 = (valD fn).2 := by
    have e := congrArg Prod.snd h0
    exact e
  obtain ⟨a, b⟩ := ba h1
  exact ⟨a, Prod.ext b h2⟩
def obsXG (n : Nat) (ex : PySem.W.Frag → Bool) (fa : List Fa) (fn : List DefD) (g : Addr → Option Obj) : AlD := obsX ex fa fn (frG g (asD g n))
def hookX (n : Nat) (ex : PySem.W.Frag → Bool) (fa : List Fa) (fn : List DefD) : PySem.W.Hook where
  α := AlD
  obs := fun s => obsXG n ex fa fn s.heap.get?
  val := fun _ => valD fn
  says := fun _ h => ∃ K : PySem.W.Frag, K.In h ∧ SaysX ex fa fn K
  of := fun _ _ e => ⟨_, frG_in, e⟩
  keeps := fun _ _ _ ⟨K, hK, c⟩ k => ⟨K, PySem.W.Frag.In.keeps hK k, c⟩
theorem obsXG_eq {n : Nat} {ex : PySem.W.Frag → Bool} {fa : List Fa} {fn : List DefD} {g : Addr → Option Obj} {s : Shared} (h : ∀ a, g a = s.heap.get? a) : obsXG n ex fa fn g = (hookX n ex fa fn).obs s := by
  have e : g = s.heap.get? := funext h
  rw [e] <;> rfl
end He

/-! ### the same rules, the fragment named (within a comprehension's block) -/
namespace HX
open PySem PySem.Spec PyProof.Rows L2
section
variable {X : Cx}
theorem pe_fldK (K : PySem.W.Frag) (hK : X.K = K) {e : PySem.Expr} {f : Str} {pos : Pos} {ta : TE} (h : PE X e ta) (hb : attributeBase e f X.env (eval e X.env) = eval e X.env) : PE X (e.Attribute f pos) (tFld K ta f) := by
  subst hK
  exact pe_fld h hb
theorem op_in_seqK (K : PySem.W.Frag) (hK : X.K = K) : OpR X (compareOp .In) (rIn K false) := by
  subst hK
  exact op_in_seq
theorem op_notIn_seqK (K : PySem.W.Frag) (hK : X.K = K) : OpR X (compareOp .NotIn) (rIn K true) := by
  subst hK
  exact op_notIn_seq
theorem sl_listK (K : PySem.W.Frag) (hK : X.K = K) : SlR X (rSlL K) := by
  subst hK
  exact sl_list
theorem sl_tupK (K : PySem.W.Frag) (hK : X.K = K) : SlR X (rSlT K) := by
  subst hK
  exact sl_tup
theorem ix_listK (K : PySem.W.Frag) (hK : X.K = K) : IxR X (rIxL K) := by
  subst hK
  exact ix_list
theorem ix_tupK (K : PySem.W.Frag) (hK : X.K = K) : IxR X (rIxT K) := by
  subst hK
  exact ix_tup
theorem op_catTK (K : PySem.W.Frag) (hK : X.K = K) : OpR X (binaryOp .Add) (rCatT K) := by
  subst hK
  exact op_catT
theorem op_eqDK (K : PySem.W.Frag) (hK : X.K = K) (hu : X.A.units + 64 < cLine) : OpR X (compareOp .Eq) (rEqD K) := by
  subst hK
  exact op_eqD hu
theorem op_neDK (K : PySem.W.Frag) (hK : X.K = K) (hu : X.A.units + 64 < cLine) : OpR X (compareOp .NotEq) (rNeD K) := by
  subst hK
  exact op_neD hu
theorem x_lenLK (K : PySem.W.Frag) (hK : X.K = K) : CallR X (.builtin "len") (xLenL K) := by
  subst hK
  exact x_lenL
theorem pg_tupK (K : PySem.W.Frag) (hK : X.K = K) {pos : Pos} {es : List PySem.Expr} {k : Nat} {t : TGs} {n : Nat} (hc : X.calm = true) (h : PGs X es t) (h1 : (assignEach es X.env).length = n := by rfl) (h2 : (assignEach es X.env).findIdx? (·.1) = none := by rfl) : PG X (.Tuple es k pos) (gTup K n t) := by
  subst hK
  exact pg_tup hc h h1 h2
theorem x_isiK (K : PySem.W.Frag) (hK : X.K = K) : CallR X (.builtin "isinstance") (rIsi K) := by
  subst hK
  exact call_isi
def xDict : List V → Hp → VK → Prop := fun xs H Q => ∃ (a : Addr) (kvs : List (Key × V)), xs = [.ref a] ∧ Rd H a (.dK kvs) ∧ ∀ p, H p = none → Q (.ref p) (upd H p (.dK kvs))
theorem x_dict : CallR X (.type "dict") xDict := call_dictD
def xSortedD : List V → Hp → VK → Prop := fun xs H Q => ∃ (a : Addr) (kvs : List (Key × V)) (ks : List Int), xs = [.ref a] ∧ Rd H a (.dK kvs) ∧ kvs.map (·.1) = ks.map Sum.inl ∧ ks.length < 64 ∧ ∀ (ys : List Int) (p : Addr), ys.Perm ks → ys.Pairwise (· ≤ ·) → H p = none → Q (.ref p) (upd H p (.lst (ys.map V.int)))
theorem x_sortedD (h : X.calm = true) : CallR X (.builtin "sorted") xSortedD := call_sortedDI h
end
end HX

open PySem L2 NdefX
namespace EVX

def excB (K : PySem.W.Frag) (C : Addr) : Bool := match K.lookup C with
  | some ⟨cl, _, .cls cd, sl⟩ => decide (cl = .type "type") && (match cd.mro with | c :: bm => decide (c = .ref C) && HandSPX.refsVE bm | [] => false) && cd.hasDict && !cd.hasDel &&
      (match sl.toList with | [_, _, _, _, some s, _] => decide (s = .builtin "ValueError.__new__") | _ => false)
  | _ => false

theorem excB_ok {K : PySem.W.Frag} {C : Addr} (h : excB K C = true) : ∃ nm q N bs bm sn sub ab col dd k0 k1 k2 k3 k5,
    K.lookup C = some (excClassObj nm q C N bs bm true sn sub ab col dd k0 k1 k2 k3 k5 "ValueError.__new__") ∧ HandSPX.refsVE bm = true := by
  unfold excB at h
  split at h
  case h_2 => cases h
  case h_1 cl dd cd sl hl =>
    simp only [Bool.and_eq_true, decide_eq_true_eq] at h
    obtain ⟨⟨⟨⟨rfl, h1⟩, h2⟩, h2'⟩, h3⟩ := h
    split at h1
    case h_2 => cases h1
    case h_1 c bm hm =>
      simp only [Bool.and_eq_true, decide_eq_true_eq] at h1
      obtain ⟨rfl, hb⟩ := h1
      split at h3
      case h_2 => cases h3
      case h_1 k0 k1 k2 k3 s k5 hs =>
        obtain rfl := of_decide_eq_true h3
        obtain ⟨sl⟩ := sl
        simp only at hs
        subst hs
        obtain ⟨nm, bs, mro, N, q, hd, sn, sub, ab, col, de⟩ := cd
        simp only [Bool.not_eq_true'] at hm h2 h2'
        subst hm h2 h2'
        exact ⟨nm, q, N, bs, bm, sn, sub, ab, col, dd, k0, k1, k2, k3, k5, hl, hb⟩

def oexB (K : PySem.W.Frag) (C : Addr) : Bool :=
  excB K C && decide (PySem.W.findIn K (.ref C) "__setattr__" = some (some (.builtin "object.__setattr__"))) && decide (PySem.W.subIn K (.ref C) (.type "BaseException") = some true) &&
  decide (PySem.W.typeIn K (.ref C) = some (.type "type")) && PySem.W.keepIn K (.ref C)
theorem oexB_ok {K : PySem.W.Frag} {C : Addr} (h : oexB K C = true) : OexC K C := by
  unfold oexB at h
  simp only [Bool.and_eq_true, decide_eq_true_eq] at h
  obtain ⟨⟨⟨⟨h1, h2⟩, h3⟩, h4⟩, h5⟩ := h
  exact ⟨excB_ok h1, h2, h3, h4, h5⟩

def parB (fld : Str) : Arguments → Bool
  | ⟨[], [⟨a, none, _⟩, ⟨b, none, _⟩], none, [], [], none, []⟩ => decide (a = "self") && decide (b = fld)
  | _ => false
def bodyB (fld : Str) : FuncBody → Bool
  | .stmts [.Expr (.Call (.Attribute (.Call (.Name sup _) [] [] _) ini p2) [.Constant (.str _) _ _] [] p4) _, .Assign [.Attribute (.Name sf _) f1 _] (.Name f2 _) _] =>
    decide (sup = "super") && decide (ini = "__init__") && decide (sf = "self") && decide (f1 = fld) && decide (f2 = fld) && (p2.endLine == p4.line)
  | _ => false
def cellB (K : PySem.W.Frag) (D : Addr) : List (Str × Addr) → Bool
  | [(n, cc)] => decide (n = "__class__") && (match K.lookup cc with | some ⟨_, _, .cell (some (.ref D')), _⟩ => decide (D' = D) | _ => false)
  | _ => false
def codeB (K : PySem.W.Frag) (file q : Str) : Value → Bool
  | .ref cda => PySem.W.codeIn K (.ref cda) q && (match K.lookup cda with | some ⟨_, _, .fields vs, _⟩ => (match (vs[2]? : Option Value) with | some (.str fl _) => decide (fl = file) | _ => false) | _ => false)
  | _ => false
def fdB (K : PySem.W.Frag) (file : Str) (D : Addr) (fld : Str) (fd : FuncData) : Bool :=
  decide (fd.name = "__init__") && decide (fd.globals = mainGlobals) && decide (fd.builtins = builtinsNs) && parB fld fd.params && bodyB fld fd.body && cellB K D fd.closure && codeB K file fd.qualname fd.code &&
  decide (fd.defaults = .none) && nscB ["self", fld, "__class__"] ["self", fld] ["__class__"] fd.scope && decide (fd.scope.names.lookup ("super" : Str) = some .globalImplicit)
def atB (K : PySem.W.Frag) (file : Str) (D : Addr) (fld : Str) (f : Addr) : Bool := match K.lookup f with
  | some ⟨_, _, .func fd, _⟩ => fdB K file D fld fd
  | _ => false
def iniB (K : PySem.W.Frag) (file x fld : Str) : Bool :=
  oexB K (He.ga K x) && decide (PySem.W.findIn K (.ref (He.ga K x)) fld = some none) && decide (PySem.W.ks_superIn K (He.ga K x) (He.ga K x) "__init__" = some (some (.builtin "ValueError.__init__"))) &&
  decide (PySem.W.nsIn K cStatics "thirdparty.any" = some none) && decide (PySem.W.subIn K (.ref (He.ga K x)) (.type "ValueError") = some true) && decide (PySem.W.mroIn K (He.ga K x) (.ref (He.ga K x)) = some true) &&
  decide (fld ≠ "__debug__") &&
  (match PySem.W.findIn K (.ref (He.ga K x)) "__init__" with
   | some (some (.ref f)) => decide (PySem.W.typeIn K (.ref f) = some (.type "function")) && atB K file (He.ga K x) fld f
   | _ => false)

theorem ini_ok {CX : CXT} {P : Program} {w : World} {K : PySem.W.Frag} {mg : Str → Option Value} {base : Heap} {k : Nat} {file x fld : Str} (h : iniB K file x fld = true)
    (hP : P.main.file = file) (hsup : (P.main.scope.names.lookup ("super" : Str)).isSome = false) (hmg : mg "super" = none)
    (hb : ∀ (qual : Str) (pa pb : Pos) (body : List Stmt) (scope : Scope) (clo : List (Str × Addr)) (kV doc pm cdv ct : Value) (an : Option Addr) (u0 u1 : Value),
      bindArgs (PySem.W.fnX "__init__" qual ⟨[], [⟨"self", none, pa⟩, ⟨fld, none, pb⟩], none, [], [], none, []⟩ body scope clo .none kV doc pm an cdv ct) { pos := [u0, u1] } = pure [(("self" : Str), u0), (fld, u1)]) :
    OexC K (He.ga K x) ∧ ∃ f fd, PySem.W.findIn K (.ref (He.ga K x)) "__init__" = some (some (.ref f)) ∧ PySem.W.typeIn K (.ref f) = some (.type "function") ∧
      FnOk P w K mg base CX (k + 1) f fd ["self", fld] (sp_ini fld (He.ga K x)) ∧ Binds K fd ["self", fld] [] := by
  unfold iniB at h
  simp only [Bool.and_eq_true, decide_eq_true_eq] at h
  obtain ⟨⟨⟨⟨⟨⟨⟨h1, h2⟩, h3⟩, h4⟩, h5⟩, h6⟩, h7⟩, h8⟩ := h
  refine ⟨oexB_ok h1, ?_⟩
  split at h8
  case h_2 => cases h8
  case h_1 f hf =>
  simp only [Bool.and_eq_true, decide_eq_true_eq] at h8
  obtain ⟨ht, ha⟩ := h8
  unfold atB at ha
  split at ha
  case h_2 => cases ha
  case h_1 oc od fd osl hl =>
  obtain ⟨nm, qual, params, body, scope, gl, clo, dV, kV, doc, pm, an, cdv, ct, bu⟩ := fd
  unfold fdB at ha
  simp only [Bool.and_eq_true, decide_eq_true_eq] at ha
  obtain ⟨⟨⟨⟨⟨⟨⟨⟨⟨rfl, rfl⟩, rfl⟩, hpar⟩, hbody⟩, hcell⟩, hcode⟩, rfl⟩, hn⟩, hsu⟩ := ha
  unfold parB at hpar
  split at hpar
  case h_2 => cases hpar
  case h_1 a pa b pb =>
  simp only [Bool.and_eq_true, decide_eq_true_eq] at hpar
  obtain ⟨rfl, rfl⟩ := hpar
  unfold bodyB at hbody
  split at hbody
  case h_2 => cases hbody
  case h_1 sup p0 p1 ini p2 msg j p3 p4 p5 sf q0 f1 q1 f2 q2 q3 =>
  simp only [Bool.and_eq_true, decide_eq_true_eq] at hbody
  obtain ⟨⟨⟨⟨⟨rfl, rfl⟩, rfl⟩, rfl⟩, rfl⟩, hpos⟩ := hbody
  unfold cellB at hcell
  split at hcell
  case h_2 => cases hcell
  case h_1 n cc =>
  simp only [Bool.and_eq_true, decide_eq_true_eq] at hcell
  obtain ⟨rfl, hcell⟩ := hcell
  split at hcell
  case h_2 => cases hcell
  case h_1 cl cld D' csl hcc =>
  obtain rfl := of_decide_eq_true hcell
  unfold codeB at hcode
  split at hcode
  case h_2 => cases hcode
  case h_1 cda =>
  simp only [Bool.and_eq_true] at hcode
  obtain ⟨hcd, hcode⟩ := hcode
  split at hcode
  case h_2 => cases hcode
  case h_1 ccl cdd cvs ccs hcda =>
  split at hcode
  case h_2 => cases hcode
  case h_1 fl tf hv =>
  obtain rfl := of_decide_eq_true hcode
  refine ⟨f, _, hf, ht, init_of (ar := ⟨"self", none, _⟩) hl hcd hcda hv (by simp [hP]) hsup hcc (by simpa using h7) hpos rfl rfl (nscope_by hn) hsu hmg (oexB_ok h1) h2 h3 h4 h5 h6, ?_⟩
  intro s us X hlen
  match us, hlen with
  | [u0, u1], _ =>
    intro M A E Q hq
    exact wpAny_of_eq (hb _ _ _ _ _ _ _ _ _ _ _ _ _ _) hq

/-- what is known of a class x whose __init__ says super().__init__(text) and puts its argument into fld -/
def IniOk (P : Program) (w : World) (K : PySem.W.Frag) (mg : Str → Option Value) (base : Heap) (x fld : Str) : Prop :=
  OexC K (He.ga K x) ∧ ∃ f fd, PySem.W.findIn K (.ref (He.ga K x)) "__init__" = some (some (.ref f)) ∧ PySem.W.typeIn K (.ref f) = some (.type "function") ∧
      FnOk P w K mg base CX0 1 f fd ["self", fld] (sp_ini fld (He.ga K x)) ∧ Binds K fd ["self", fld] []

theorem pmk_ini {X : Cx} {e : PySem.Expr} {es : List PySem.Expr} {ta : TA} {p pos : Pos} {x fld : Str} (J : IniOk X.prog X.w X.K X.mg X.base x fld) (hr : Room 2 X.A) (hg : Gl X x) (hm : X.mg x = some (.ref (He.ga X.K x)))
    (ha : PA X (e :: es) ta) (h1 : (x == Str.ofString "__debug__") = false := by rfl) (h2 : starEach (e :: es) X.env = (false, eval e X.env) :: starEach es X.env := by rfl)
    (h3 : ((backTo pos (starEach es X.env)).any fun x => x.fst) = false := by rfl) : PMk X (.Call (.Name x p) (e :: es) [] pos) (tMkO (He.ga X.K x) (sp_ini fld (He.ga X.K x)) [] ta) := by
  obtain ⟨T, f, fd, iC, tI, F, B⟩ := J
  exact pmk_oex T iC tI F hr B .nil (fun _ _ _ _ _ _ _ h => h.elim) hg hm ha h1 h2 h3

theorem ini_xd {H1 : Hp} {a d D : Addr} {fld : Str} {v : V} (ha : H1 a = none) (hda : d ≠ a) :
    upd (del (upd (upd (upd H1 a (exo a D none)) d (exd d [(fld, v)])) a (exo a D (some d))) a) d (.xd [(fld, v)]) = upd H1 d (.xd [(fld, v)]) := by
  funext b
  unfold upd del
  by_cases h1 : b = d
  · simp [h1]
  · by_cases h2 : b = a
    · simp [h1, h2, ha, Ne.symm hda]
    · simp [h1, h2]

/-- the making of such an error, with one argument -/
theorem i_ini {H1 : Hp} {D : Addr} {fld : Str} {v : V} {Q : XK} (q : ∀ d, H1 d = none → Q (.ref D) (some d) (upd H1 d (.xd [(fld, v)]))) :
    [v].length ≤ 1000 ∧ ∀ a, H1 a = none → sp_ini fld D (.ref a :: ([v] ++ [])) (upd H1 a (exo a D none))
      (fun u H2 => u = V.non ∧ ∃ d fs, H2 a = some (exo a D (some d)) ∧ H2 d = some (exd d fs) ∧ H1 d = none ∧ Q (.ref D) (some d) (upd (del H2 a) d (.xd fs))) (fun _ _ _ => False) := by
  refine ⟨by simp, fun a ha => ⟨a, v, rfl, by simp [upd], fun d hd hda => ⟨rfl, d, [(fld, v)], by simp [upd], by simp [upd, hda], ?_, ?_⟩⟩⟩
  · simpa [upd, hda] using hd
  · rw [ini_xd ha hda]
    exact q d (by simpa [upd, hda] using hd)

example (qual : Str) (pa pb : Pos) (body : List Stmt) (scope : Scope) (clo : List (Str × Addr)) (kV doc pm cdv ct : Value) (an : Option Addr) (u0 u1 : Value) :
      bindArgs (PySem.W.fnX "__init__" qual ⟨[], [⟨"self", none, pa⟩, ⟨"place", none, pb⟩], none, [], [], none, []⟩ body scope clo .none kV doc pm an cdv ct) { pos := [u0, u1] } = pure [(("self" : Str), u0), (("place" : Str), u1)] := rfl
end EVX

open PySem L2
namespace EVX

def tMethS (C : Addr) (m : Str) (sp : Sp) (dvs : List V) (E : St → XK) (ta : TE) (t : TA) : TE := fun σ H Q =>
  ta σ H fun x H1 => ∃ a dx fs, x = V.ref a ∧ H1 a = some (.ins C dx fs) ∧ List.lookup m fs = none ∧ t σ H1 fun vs H2 => sp (x :: (vs ++ dvs)) H2 Q (E σ)

/-- a method's call that may raise, where the way out depends on the names' values -/
theorem pe_methS {X : Cx} {CX : CXT} {k : Nat} {f C : Addr} {fd : FuncData} {ps : List Str} {sp : Sp} {dvs : List V} {ds : List Value} {E : St → XK} {m : Str} {pos apos : Pos} {e o : PySem.Expr} {es : List PySem.Expr}
    {ta : TE} {t : TA} {pl : Sem Bool} (ho : PE X o ta) (hC : Cls X.K C) (hm : Meth X.K C m f) (F : FnOk X.prog X.w X.K X.mg X.base CX k f fd ps sp) (hr : Room k X.A) (hb : Binds X.K fd ps ds) (hd : Vals dvs ds)
    (hx : ∀ σ, PassesAt CX X σ (E σ)) (ha : PA X (e :: es) t) (h1 : starEach (e :: es) X.env = (false, eval e X.env) :: starEach es X.env := by rfl) (h2 : ((backTo pos (starEach es X.env)).any fun x => x.fst) = false := by rfl)
    (h3 : eval ((o.Attribute m apos).Call (e :: es) [] pos) X.env = (do
        let ov ← eval o X.env
        standAt apos.atName
        let __x ← holding [ov] (getMethod ov m pl)
        match __x with
          | (g0, v0) => callWith pos g0 v0 (backTo pos (starEach (e :: es) X.env)) (backToKw pos (keywordEach [] X.env))) := by rfl) :
    PE X ((o.Attribute m apos).Call (e :: es) [] pos) (tMethS C m sp dvs E ta t) := by
  refine ⟨fun pins s σ H Q I ht => PySem.W.methodCall_KW (thn (ho.run pins s σ H _ I ht) ?_) h3⟩
  rintro u s1 ⟨x, H1, I1, hx1, a, dx, fs, rfl, hat, hl, hs⟩
  cases hx1
  refine getmeth_ok I1 hat hC hm hl ?_
  refine PySem.W.callWith_K I1.ok.mod.kin hm.kp (thn (ha.run pos pins s1 σ H1 _ I1 hs) ?_) h1 h2
  rintro us s2 ⟨vs, H2, I2, hv, hsp⟩
  exact ⟨I2.kIn, run_fnSD F hr hb hd (hx σ) I2 (.cons (show RelV (.ref a) (Value.ref a) from rfl) hv) hsp⟩
theorem takes_no {X : Cx} : Takes X (fun _ _ _ _ => False) := by
  intro u s' h
  obtain ⟨_, _, _, _, _, _, _, _, _, _, _, _, _, _, _, _, f⟩ := h
  exact f.elim
theorem raises_of {X : Cx} {C : Addr} (h : PySem.W.subIn X.K (.ref C) (.type "BaseException") = some true ∧ PySem.W.typeIn X.K (.ref C) = some (.type "type")) : Raises X (.ref C) :=
  fun _ _ hK => ⟨PySem.W.looks_subIn hK h.1, PySem.W.looks_typeIn hK h.2⟩
end EVX

set_option Elab.async false
set_option linter.all false
set_option maxRecDepth 100000
set_option maxHeartbeats 2000000
/-! errors that were caught and are kept by a name: `except X as n: y = n`; isinstance of them; their fields -/
namespace EVV
open PySem PySem.Spec PyProof.Rows L2

/-- a caught error at a: its class, its dict -/
def ErrO (cls : Value) (d : Option Addr) (a : Addr) : HO := .ext fun h => ∃ oe : Obj, h.get? a = some oe ∧ Zc cls d oe ∧ ∃ vs, oe.data = .fields vs
theorem errO_ne {cls : Value} {d : Option Addr} {a : Addr} {o : HO} (h : ∀ φ, o ≠ .ext φ) : ErrO cls d a ≠ o := fun e => h _ (by rw [← e]; rfl)

section
variable {X : Cx} {pins : List (Addr × Obj)} {σ : L2.St} {H : Hp} {s : Shared} {a : Addr} {o : HO}
/-- an object that is there, and not tracked yet, is tracked from now on -/
theorem follow (I : Inv X pins σ H s) (na : H a = none) (n0 : X.s_0.heap.get? a = none) (nL : a ≠ X.env.locals) (nC : ∀ x c, X.env.cells.lookup x = some c → c ≠ a) (nP : ∀ p ∈ X.pn ++ pins, p.1 ≠ a)
    (new : ObjOk X.prog X.w (upd H a o) s.heap a o) : Inv X pins σ (upd H a o) s := by
  have off : ∀ {b : Addr} {u : HO}, H b = some u → upd H a o b = some u := fun {b u} e => (upd_ne (ne_of_none e na)).trans e
  have old : ∀ {b : Addr} {u : Obj}, X.s_0.heap.get? b = some u → b ≠ a := fun {b u} e z => by rw [z, n0] at e; cases e
  constructor
  case ok => exact I.ok
  case os => exact I.os
  case bare => exact I.bare
  case base =>
    have B := I.base
    constructor
    case keep => exact B.keep
    case slot => exact B.slot
    case free => exact fun b u e n x => (upd_ne (old e)).trans (B.free b u e n x)
    case there => exact B.there
    case tups => exact fun b xs e => off (B.tups b xs e)
    case frzs => exact fun b u v e => off (B.frzs b u v e)
    case tbls => exact fun b ps e => (B.tbls b ps e).imp fun m q => off q
  case loc => exact I.loc
  case cell => exact I.cell
  case free => exact (upd_ne nL.symm).trans I.free
  case freeC => exact fun x c e => (upd_ne (nC x c e)).trans (I.freeC x c e)
  case pin =>
    intro p hp
    obtain ⟨e, n, r⟩ := I.pin p hp
    exact ⟨e, (upd_ne (nP p hp)).trans n, r⟩
  case hok =>
    intro b u e
    by_cases hb : b = a
    · rw [hb, upd_same] at e
      cases e
      rw [hb]
      exact new
    · rw [upd_ne hb] at e
      exact (I.hok b u e).stay (fun _ _ _ q => q) (fun _ q => off q) fun _ _ q => off q
  case len => exact I.len
theorem err_ok {cls : Value} {d : Option Addr} {oe : Obj} {vs : Array Value} (ha : s.heap.get? a = some oe) (hz : Zc cls d oe) (hd : oe.data = .fields vs) : ObjOk X.prog X.w (upd H a (ErrO cls d a)) s.heap a (ErrO cls d a) :=
  ⟨⟨oe, ha, hz, vs, hd⟩, ⟨oe, ha⟩, fun _ _ ⟨o1, e, r⟩ k => ⟨o1, k o1 e, r⟩⟩
end

/-- what `except x as n: y = n` wishes of an error of the body: slot i is n's, slot j is y's -/
def wKeep (K : PySem.W.Frag) (c : Value) (i j : Nat) (Wout : WX) (D : Ends) : WX := fun cls d σ H =>
  ∃ b, PySem.W.exmOne K cls c = some b ∧ (b = true → ∀ a, H a = none → D.nx (((σ.set i (some (.ref a))).set j (some (.ref a))).set i none) (upd H a (ErrO cls d a))) ∧ (b = false → Wout cls d σ H)

section
variable {X : Cx} {x n y : Str} {c : Value} {i j : Nat} {body : List Stmt} {np p1 p2 p3 p4 pos : Pos} {tb : WX → TS} {Wout : WX}
theorem ps_try_keep (hex : X.ex = []) (hs : X.stack = X.env :: X.outer) (hf : X.env.frame = some X.env.locals) (hN : X.N.Nodup) (hi : X.N[i]? = some n) (hln : X.env.kindOf n = some .local) (hj : X.N[j]? = some y) (hly : X.env.kindOf y = some .local) (hc : Names X x c) (tk : Takes X Wout)
    (hd1 : (n == ("__debug__" : Str)) = false) (hd2 : (n == ("__classdict__" : Str)) = false)
    (hb : ∀ (W : WX) (pn : List (Addr × Obj)) (xe : Value → Shared → Prop), Takes (X.tr pn xe) W → PassesOwn (model X.prog X.w) X.A X.env xe → PSs (X.tr pn xe) body (tb W)) :
    PS X (.Try body [.ExceptHandler (some (.Name x np)) (some n) [.Assign [.Name y p1] (.Name n p2) p3] p4] [] [] pos) (fun D σ H => tb (wKeep X.K c i j Wout D) D σ H) := by
  refine ⟨fun pins s σ H D I h => wpAny_Try_except ?_⟩
  have okX := I.ok
  have fr : X.A.frames = some (X.env :: X.outer) := okX.frames.trans (congrArg some hs)
  have run := (hb (wKeep X.K c i j Wout D) (X.pn ++ pins) (fun e s1 => wpAny (model X.prog X.w) X.A (noteFrame e X.env) (fun _ s2 => wpAny (model X.prog X.w) X.A (setFlight e none) (fun _ s3 =>
      wpAny (model X.prog X.w) X.A (handleBy e X.env [.ExceptHandler (some (.Name x np)) (some n) [.Assign [.Name y p1] (.Name n p2) p3] p4]) (SP X pins D) X.xe s3) X.xe s2) X.xe s1) ?caught PassesOwn.looking).run [] s σ H D (I.toTry _) h
  case caught =>
    rintro _ s1 ⟨a, B, sI, ps, σ1, H1, cls, d, rfl, I1, nb, up, sky, na, os, ag, b, hb1, yes, no⟩
    have J := I1.ofTry okX
    rw [hs] at sky
    show wpAny (model X.prog X.w) X.A (noteFrame (.ref a) X.env) _ _ _
    refine Sky.land Zc.steady fr hf sky fun h3 fl3 up3 => ?_
    obtain ⟨stay3, new3, ff3, tr3⟩ := id fl3
    have J3 : Inv X pins σ1 H1 { s1 with heap := h3 } := J.landed nb stay3 (up.trans up3) os ag
    obtain ⟨oe3, vs3, he3, hz3, hd3⟩ := fl3.there
    have nfr : a ∉ frs (X.env :: X.outer) := fun hm => by
      obtain ⟨_, u, eu, hnf⟩ := ff3.mem hm
      rw [he3] at eu
      cases eu
      exact hnf _ hd3
    have isL : X.env.locals ∈ frs (X.env :: X.outer) := List.mem_filterMap.mpr ⟨X.env, List.mem_cons_self, hf⟩
    have nL : a ≠ X.env.locals := fun z => nfr (by rw [z]; exact isL)
    have sub : ∀ b ∈ X.fs, b ∈ frs (X.env :: X.outer) := fun b hb => by
      obtain ⟨e, he, q⟩ := List.mem_filterMap.mp hb
      exact List.mem_filterMap.mpr ⟨e, List.mem_cons_of_mem _ he, q⟩
    have nF : a ∉ X.fs := fun hm => nfr (sub a hm)
    -- the error is no object of the state without it
    have gone : sI.heap.get? a = none := by
      cases q : sI.heap.get? a with
      | none => rfl
      | some u =>
        have z := nb a u q (by rw [hs]; exact nfr)
        rw [new3] at z
        cases z
    have n0 : X.s_0.heap.get? a = none := by
      cases q : X.s_0.heap.get? a with
      | none => rfl
      | some u =>
        obtain ⟨u', z⟩ := J.base.there a u q (by rw [hex]; simp)
        rw [gone] at z
        cases z
    have nC : ∀ z c, X.env.cells.lookup z = some c → c ≠ a := fun z c e q => by
      obtain ⟨v, u, hu, _⟩ := J.cell z c e
      rw [q, gone] at hu
      cases hu
    have nP : ∀ p ∈ X.pn ++ pins, p.1 ≠ a := fun p hp q => by
      have z := (J.pin p hp).1
      rw [q, gone] at z
      cases z
    have S3 := J3.suite he3 hd3 na nL nF
    refine wpAny_handleBy_cons (codeAny_handlers_test ?_) (by intro q; cases q)
    have LT : PySem.W.Looks (model X.prog X.w) h3 (typeOf (.ref a)) cls := fun _ _ _ _ k q => wpAny_typeOf_ref (k _ _ he3) (by rw [hz3.1]; exact q)
    have LM := PySem.W.exm_one (M := model X.prog X.w) J3.kIn LT hb1
    have named : ∀ {Q : Value → Shared → Prop} {E : Value → Shared → Prop}, Q c { s1 with heap := h3 } → wpAny (model X.prog X.w) (X.A.mark (some (.ref a))) (eval (.Name x np) X.env) Q E { s1 with heap := h3 } := fun {Q E} q => by
      obtain ⟨hg, hdb, hm | ⟨hm, hv, hnn⟩⟩ := hc
      · exact ld_glob (X := X.suite a ((a, oe3) :: (X.pn ++ pins))) S3 hg hm q hdb
      · exact ld_blt (X := X.suite a ((a, oe3) :: (X.pn ++ pins))) S3 hg hm hv q hnn hdb
    refine named (LM.here ?_)
    cases b with
    | true =>
      refine codeAny_handlers_suite_as (HandSPX.lands_againZ fl3 fun h4 fl4 up4 => ?_)
      have J4 : Inv X pins σ1 H1 { s1 with heap := h4 } := J.landed nb fl4.1 ((up.trans up3).trans up4) os ag
      obtain ⟨oe4, vs4, he4, hz4, hd4⟩ := fl4.there
      have S4 := J4.suite he4 hd4 na nL nF
      refine store_ok (X := X.suite a ((a, oe4) :: (X.pn ++ pins))) (v := .ref a) S4 hN hi (.inl hln) rfl (fun s5 S5 => ?_) (.inr hln)
      have vn : Vis X.env.scope n := .inl hln
      have stm : PSs (X.suite a ((a, oe4) :: (X.pn ++ pins))) [.Assign [.Name y p1] (.Name n p2) p3] (tAsg (tVar i) (gName j)) := pss_one (ps_set (X := X.suite a ((a, oe4) :: (X.pn ++ pins))) hN hj (.inl hly) (pe_var hi vn hd1 hd2) rfl (.inr hly))
      have hiσ : i < σ1.length := by
        rw [J.len]
        exact (List.getElem?_eq_some_iff.mp hi).1
      refine wpAny_mono (stm.run [] s5 _ H1 { nx := fun σ' H' => σ' = ((σ1.set i (some (.ref a))).set j (some (.ref a))) ∧ H' = H1, rt := fun _ _ => False } S5 ⟨.ref a, by rw [List.getElem?_set_self hiσ], rfl, rfl⟩) (fun f s6 hsp => ?_) (fun _ _ z => False.elim z)
      cases f with
      | next =>
        obtain ⟨σ6, H6, S6, rfl, rfl⟩ := hsp
        have pa := (S6.pin (a, oe4) (List.mem_append_left _ List.mem_cons_self)).1
        have J6 := follow (S6.unsuite okX) na n0 nL nC nP (err_ok pa hz4 hd4)
        exact gone_ok J6 hN hi hln fun s7 J7 => ⟨_, _, J7, yes rfl a na⟩
      | brk => exact False.elim hsp.choose_spec.choose_spec.2
      | cont => exact False.elim hsp.choose_spec.choose_spec.2
      | ret u =>
        obtain ⟨_, _, _, _, _, z⟩ := hsp
        exact False.elim z
    | false =>
      show wpAny _ X.A (handleBy (.ref a) X.env []) _ _ _
      refine wpAny_handleBy_nil ?_
      obtain ⟨_, _, _, oe, vs, T, oT, ts', he, hz, hd, h1, hr⟩ := id fl3
      unfold PySem.passOn
      refine wpAny_bind (wpAny_field he hd h1 ?_)
      rw [if_neg (show ¬ ((Value.ref T == Value.none) = true) from by simp)]
      have on : wpAny (model X.prog X.w) X.A (setFlight (.ref a) X.env.frame) (fun _ s4 => wpAny (model X.prog X.w) X.A (throw (.ref a) : Sem Flow) (SP X pins D) X.xe s4) X.xe { s1 with heap := h3 } := by
        rw [hf]
        refine HandSPX.setFlight_upZ fl3 fun h4 hh4 up4 => wpAny_throw (tk _ _ ⟨a, B, sI, pins, σ1, H1, cls, d, rfl, J, nb, (up.trans up3).trans up4, .inr (.inr ?_), na, os, ag, no rfl⟩)
        rw [hs]
        exact hh4
      first
        | exact wpAny_bind (wpAny_pure (wpAny_bind on))
        | exact wpAny_bind on
  refine wpAny_mono run (fun f s1 hsp => ?_) (fun _ _ z => z)
  cases f with
  | next =>
    obtain ⟨σ1, H1, J, q⟩ := hsp
    exact wpAny_execs_nil ⟨σ1, H1, J.ofTry okX, q⟩
  | brk => exact hsp.imp fun σ1 z => z.imp fun H1 z => ⟨z.1.ofTry okX, z.2⟩
  | cont => exact hsp.imp fun σ1 z => z.imp fun H1 z => ⟨z.1.ofTry okX, z.2⟩
  | ret u =>
    obtain ⟨v, σ1, H1, J, r, q⟩ := hsp
    exact ⟨v, σ1, H1, J.ofTry okX, r, q⟩
end

/-! ### isinstance of a caught error, its fields -/
namespace W
open PySem.W PySem.Calls
variable {prog : Program} {w : World} {A : Around} {E : Value → Shared → Prop} {s : Shared} {K : Frag} {x D : Addr} {ox : Obj} {od : Option Obj}
theorem found {a g : Value} {n : Str} (hc : (clsIn K D).isSome = true) (ha : findIn K (.ref D) n = some (some a)) (hg : specialIn K a "__get__" = some (some g)) (ht : takesIn K a = some true) : findObj K D od n = some (.bind g a) := by
  cases e : clsIn K D with
  | none => rw [e] at hc; cases hc
  | some cd =>
    unfold findObj
    rw [e, Option.bind_some, ha, Option.bind_some]
    simp [hg, ht]
theorem class_of {Q : Option Value → Shared → Prop} (C : ExcC K D) (X : K.In s.heap) (I : InstAt s.heap x ox D od) (h : Q (some (.ref D)) { s with toks := s.toks + 1 }) :
    wpAny (model prog w) A (getAttr? (.ref x) "__class__") Q E s := by
  obtain ⟨cd0, hcd, _⟩ := any_some C.hd
  have at3 := looks_find (M := model prog w) X I (found (od := od) (by rw [hcd]; rfl) C.ha C.hn C.ht)
  have at0 := I.type (M := model prog w)
  have at1 := looks_findIn (M := model prog w) X C.hg
  have at2 := looks_findIn (M := model prog w) X C.hk
  obtain ⟨hp, g, dr, t, os⟩ := s
  have under : Looks (model prog w) hp (isInstance (Value.ref x) (Value.type "BaseException")) true := at0.andThen (looks_subIn X C.hs)
  have no1 : (Value.builtin "BaseException.__getattribute__" == Value.builtin "object.__getattribute__") = false := by decide +kernel
  have no2 : (onTheHeap (Value.ref D) && Value.builtin "BaseException.__getattribute__" == Value.builtin "object.__getattribute__") = false := by rw [no1] <;> rfl
  have no3 : (false && onTheHeap (Value.builtin "BaseException.__getattribute__")) = false := rfl
  unfold getAttr? getAttrBy? getAttrBy; refine wpAny_bind (wpAny_mkText (wpAny_bind (wpAny_attempt (wpAny_holding (wpAny_bind (at0.at (wpAny_bind (at1.at ?_))))))))
  show wpAny _ _ (if (onTheHeap (Value.ref D) && Value.builtin "BaseException.__getattribute__" == Value.builtin "object.__getattribute__") = true then _ else _) _ _ ⟨hp, g, dr, t + 1, os⟩
  rw [no2, if_neg Bool.false_ne_true]; unfold getAttrByItsOwn hookBefore; refine wpAny_bind ?_
  rw [if_pos (show onTheHeap (Value.ref D) = true from rfl)]; refine at2.at (wpAny_bind (wpAny_attempt (wpAny_holding ?_)))
  unfold callGetattribute; rw [no3, if_neg Bool.false_ne_true]
  unfold boundAndCalled; rw [PySem.F.excAttr_ValueError.ga.bind (.ref x)]; refine wpAny_bind (wpAny_pure ?_)
  show wpAny _ _ (call (.builtin "BaseException.__getattribute__") [.ref x, .str "__class__" t]) _ _ ⟨hp, g, dr, t + 1, os⟩
  refine wpAny_call (codeAny_call_builtin PySem.F.excAttr_ValueError.ga.plain PySem.F.entry_bexc_ga (@check_slot (model prog w) _ _ ⟨hp, g, dr, t + 1, os⟩ "BaseException.__getattribute__" "BaseException" "__getattribute__" (.ref x) [.str "__class__" t] [] _ (by decide +kernel) (by decide +kernel) under (PySem.F.args_bexc_ga (.ref x) (.str "__class__" t)) ?_))
  unfold Builtin.«object.__getattribute__»; refine wpAny_bind (wpAny_of_eq (a := ((Value.ref x : Value), [Value.str "__class__" t])) (by first | rfl | (simp only [slotArgs]; rfl)) ?_)
  refine wpAny_bind (wpAny_pure (wpAny_bind (at0.at (wpAny_bind (at3.at ?_)))))
  show wpAny _ _ (holding [Value.builtin "object.__class__"] (call (.builtin "getset_descriptor.__get__") [.builtin "object.__class__", .ref x, .ref D]) >>= ret) _ _ ⟨hp, g, dr, t + 1, os⟩
  refine wpAny_bind (wpAny_holding (wpAny_call (class_get (s := ⟨hp, g, dr, t + 1, os⟩) (ox := ox) (od := od) X I C.hm (wpAny_pure ?_))))
  show wpAny _ _ (handedOut (.ref D)) _ _ ⟨hp, g, dr, t + 1, os⟩
  rw [handedOut_of (v := .ref D) rfl]; first | exact wpAny_pure (wpAny_pure h) | exact wpAny_pure h | exact wpAny_pure (wpAny_bind (wpAny_pure (wpAny_pure h)))
/-- an instance of an own class of errors, for isinstance -/
theorem kit_err (C : ExcC K D) : KitX K (.ref x) (.ref D) (fun h => ∃ ox od, InstAt h x ox D od) := by
  obtain ⟨cd0, hcd, _⟩ := any_some C.hd
  constructor
  case ty => exact fun _ _ _ ⟨_, _, I⟩ => I.type
  case it =>
    intro M h X _
    unfold clsIn at hcd
    split at hcd
    · rename_i ho
      intro A' Q' E' s' k q
      unfold isType loadHead
      exact wpAny_bind (wpAny_loadPart (k _ _ (X _ _ ho)) (wpAny_pure q))
    · cases hcd
  case ne =>
    intro h tp dd its n sl X htp
    cases q : (Value.ref D == .ref tp) with
    | false => rfl
    | true =>
      have e : D = tp := Value.ref.inj (beq_iff_eq.mp q)
      subst e
      unfold clsIn at hcd
      split at hcd
      · rename_i ho
        have z := X _ _ ho
        rw [htp] at z
        cases z
      · cases hcd
  case ca => exact fun X ⟨_, _, I⟩ k => class_of C X I k
end W
section
variable {X : Cx}
/-- the dict of an error, where it has one, is told -/
def DictOk (H : Hp) : Option Addr → Prop
  | none => True
  | some dd => ∃ fs, H dd = some (.xd fs)
theorem inst_of {pins : List (Addr × Obj)} {σ : L2.St} {H : Hp} {s : Shared} {a D : Addr} {d : Option Addr} (I : Inv X pins σ H s) (e : H a = some (ErrO (.ref D) d a)) (k : DictOk H d) : ∃ ox od, PySem.W.InstAt s.heap a ox D od := by
  obtain ⟨⟨oe, ha, hz, vs, hd⟩, _⟩ := I.hok a _ e
  cases d with
  | none => exact ⟨oe, none, ha, hz.1, by unfold PySem.W.notCls; rw [hd], by rw [hz.2]; trivial⟩
  | some dd =>
    obtain ⟨fs, ed⟩ := k
    obtain ⟨mA, hns, _⟩ : ObjOk X.prog X.w H s.heap dd (.xd fs) := I.hok dd _ ed
    obtain ⟨od, ho, _⟩ := lookIn_ns hns
    exact ⟨oe, some od, ha, hz.1, by unfold PySem.W.notCls; rw [hd], by rw [hz.2]; exact ho⟩
/-- isinstance(e, c) where e is a caught error, or anything else that is told of -/
def rIsE (K : PySem.W.Frag) : List V → Hp → VK → Prop := fun xs H Q => rIsi K xs H Q ∨ ∃ (a D : Addr) (d : Option Addr) (c : V) (u : Value) (b : Bool), xs = [.ref a, c] ∧ ClsV c u ∧ H a = some (ErrO (.ref D) d a) ∧ DictOk H d ∧ ExcC K D ∧ PySem.W.kitOne K (.ref D) u = some b ∧ Q (.bl b) H
theorem call_isE : CallR X (.builtin "isinstance") (rIsE X.K) := by
  intro pins s σ H xs us Q I r h
  rcases h with h | ⟨a, D, d, c, u, b, rfl, hc, e, k, C, hk, q⟩
  · exact call_isi pins s σ H xs us Q I r h
  · cases r with
    | cons r1 r =>
      cases r with
      | cons r2 r =>
        cases r
        cases r1
        have e2 := hc.eq r2
        subst e2
        exact PySem.W.kia_one (W.kit_err C) I.kIn (inst_of I e k) hk (fun z => nomatch z) fun tk => ⟨.bl b, H, I.kept (t' := tk) fun _ _ z => z, rfl, q⟩
/-- e.f where e is a caught error -/
def tErrF (K : PySem.W.Frag) (te : TE) (f : Str) : TE := fun σ H Q => te σ H fun x H1 => ∃ (a C dd : Addr) (fs : List (Str × V)) (v : V), x = .ref a ∧ H1 a = some (ErrO (.ref C) (some dd) a) ∧ XfC K C ∧ PySem.W.findIn K (.ref C) f = some none ∧ H1 dd = some (.xd fs) ∧ fs.lookup f = some v ∧ Q v H1
theorem pe_errF {e : PySem.Expr} {te : TE} {pos : Pos} {f : Str} (he : PE X e te) (hb : attributeBase e f X.env (eval e X.env) = eval e X.env := by rfl) : PE X (.Attribute e f pos) (tErrF X.K te f) := by
  refine ⟨fun pins s σ H Q I h => attr_of hb (thn (he.run pins s σ H _ I h) fun u s1 hh => ?_)⟩
  obtain ⟨_, H1, I1, r1, a, C, dd, fs, v, rfl, ea, T, hno, ed, l, q⟩ := hh
  cases r1
  obtain ⟨⟨oe, ha, hz, vs, hd⟩, _⟩ := I1.hok a _ ea
  obtain ⟨mA, hns, hr⟩ : ObjOk X.prog X.w H1 s1.heap dd (.xd fs) := I1.hok dd _ ed
  obtain ⟨od, ho, hl⟩ := lookIn_ns hns
  obtain ⟨u, hu, ru⟩ := RelO.some_of (v := v) (o := mA f) (by rw [← l]; exact hr f)
  have J : PySem.W.InstAt s1.heap a oe C (some od) := ⟨ha, hz.1, by unfold PySem.W.notCls; rw [hd], by rw [hz.2]; exact ho⟩
  exact HandSPX.exc_get I1.kIn J T.ga T.gg T.exC (PySem.W.findObj_own T.hdC hno rfl (by rw [hl, hu])) (handed_of ru) ⟨v, H1, I1.tok _, ru, q⟩
end
/-! ### two promises of one def -/
theorem fn_or {CX : CXT} {P : Program} {w : World} {K : PySem.W.Frag} {mg : Str → Option Value} {base : Heap} {i j k : Nat} {f : Addr} {fd : FuncData} {ps : List Str} {sp1 sp2 : Sp} (F0 : FnOk P w K mg base C8.CX0 i f fd ps sp1) (F : FnOk P w K mg base CX j f fd ps sp2) (hi : i ≤ k) (hj : j ≤ k) :
    FnOk P w K mg base CX k f fd ps (fun vs H Q E => sp1 vs H Q E ∨ sp2 vs H Q E) := by
  refine ⟨fun vs H Q E h => h.elim (F0.len vs H Q E) (F.len vs H Q E), fun A outer s H args us vs Q E hr e0 hb rv h => ?_⟩
  rcases h with h | h
  · refine codeAny_mono (F0.run A outer s H args us vs Q E (hr.mono hi) e0 hb rv h) fun r s' hq => ?_
    cases r with
    | error e => exact False.elim hq
    | ok fl =>
      cases fl with
      | ret u => exact hq
      | next => exact hq
      | brk => exact hq
      | cont => exact hq
  · exact F.run A outer s H args us vs Q E (hr.mono hj) e0 hb rv h
/-! ### odd values -/
/-- a value that is no text, and what isinstance says of it -/
def HasTy (K : PySem.W.Frag) (H : Hp) (v : V) (n : String) : Prop := TyX K H v (.type n)
theorem HasTy.isi {K : PySem.W.Frag} {H : Hp} {v : V} {n m : String} {b : Bool} {Q : VK} (h : HasTy K H v n) (e : kitB n m = some b) (q : Q (.bl b) H) : rIsi K [v, .ty m] H Q := ⟨_, _, _, _, _, rfl, .ty _, h, kit_ty e, q⟩
section
variable {X : Cx}
/-- == of anything that is told of: data, or dicts of plain values -/
def rEqAny (K : PySem.W.Frag) : R2 := fun x y H Q => rEqD K x y H Q ∨ rEqDA x y H Q
theorem op_eqAny (hu : X.A.units + 64 < cLine) : OpR X (compareOp .Eq) (rEqAny X.K) := by
  intro pins s σ H x y v u Q I rx ry h
  rcases h with h | h
  · exact op_eqD hu pins s σ H x y v u Q I rx ry h
  · exact op_eq_dictA (by omega) pins s σ H x y v u Q I rx ry h
/-- list.count of a plain value -/
def rCntF (K : PySem.W.Frag) : V → List V → Hp → VK → Prop := fun x xs H Q => ∃ (p : Addr) (ys : List V) (y : V), x = .ref p ∧ xs = [y] ∧ SqL K H p ys ∧ flatV y = true ∧ ys.all flatV = true ∧ Q (.int (ys.countP (fun z => eqV z y) : Nat)) H
theorem count_flat {y : V} : ∀ {ys : List V} {us : List Value}, Vals ys us → ys.all flatV = true → us.countP (eqU y) = ys.countP (fun z => eqV z y)
  | _, _, .nil, _ => rfl
  | a :: r, _, .cons ru rr, f => by
    rw [List.all_cons, Bool.and_eq_true] at f
    rw [List.countP_cons, List.countP_cons, count_flat rr f.2, eqU_of ru f.1]
theorem mt_lcountF : MtR X "list.count" (rCntF X.K) := by
  intro pins s σ H x xs v us Q I rx rxs h
  obtain ⟨p, ys, y, rfl, rfl, hs, fy, fys, q⟩ := h
  cases rx
  obtain ⟨uy, rfl, ry⟩ := rxs.one
  obtain ⟨its, rv, ⟨⟨c, dd, data, sl⟩, n, ho, hc, hdn, hd⟩, hlen⟩ := I.list hs
  dsimp only at hc hd
  subst hc hd
  refine call_meets PySem.F.slot_list_count ⟨_, ho, rfl⟩ PySem.F.entry_list_count (PySem.F.args_list_count_2 _ _) (SeqAt.list_countAt p its.toArray n dd sl uy (eqU y)) ⟨ho, fun u hu => mem_eqAt ry fy rv fys u (by simpa using hu), ?_⟩
  refine ⟨.int (ys.countP (fun z => eqV z y) : Nat), H, I.tok _, ⟨s.toks, ?_⟩, q⟩
  have e : its.toArray.toList.countP (eqU y) = ys.countP (fun z => eqV z y) := count_flat rv fys
  show Value.int ((its.toArray.toList.countP (eqU y) : Nat) : Int) s.toks = _
  rw [e]
end
section
variable {K : PySem.W.Frag} {H : Hp} {Q : VK}
theorem i_cntF {p : Addr} {ys : List V} {y : V} (h : SqL K H p ys) (fy : flatV y = true) (fys : ys.all flatV = true) (q : Q (.int (ys.countP (fun z => eqV z y) : Nat)) H) : rCntF K (.ref p) [y] H Q := ⟨p, ys, y, rfl, rfl, h, fy, fys, q⟩
theorem i_isEv {a D : Addr} {d : Option Addr} {c : V} {u : Value} {b : Bool} (hc : ClsV c u) (e : H a = some (ErrO (.ref D) d a)) (k : DictOk H d) (C : ExcC K D) (hk : PySem.W.kitOne K (.ref D) u = some b) (q : Q (.bl b) H) : rIsE K [.ref a, c] H Q := .inr ⟨a, D, d, c, u, b, rfl, hc, e, k, C, hk, q⟩
end
/-! ### what the head's fragment must say of a class of errors, as a Bool -/
def excCB (K : PySem.W.Frag) (D : Addr) : Bool :=
  decide (PySem.W.findIn K (.ref D) "__getattribute__" = some (some (.builtin "BaseException.__getattribute__"))) && (decide (PySem.W.findIn K (.ref D) "__getattr__" = some none) && (decide (PySem.W.subIn K (.ref D) (.type "BaseException") = some true) && (PySem.W.hasDictIn K D &&
  (decide (PySem.W.findIn K (.ref D) "__class__" = some (some (.builtin "object.__class__"))) && (decide (PySem.W.specialIn K (.builtin "object.__class__") "__get__" = some (some (.builtin "getset_descriptor.__get__"))) && (decide (PySem.W.takesIn K (.builtin "object.__class__") = some true) && decide (PySem.W.mroIn K D (.type "object") = some true)))))))
theorem excCB_ok {K : PySem.W.Frag} {D : Addr} (h : excCB K D = true) : ExcC K D := by
  unfold excCB at h
  simp only [Bool.and_eq_true, decide_eq_true_eq] at h
  obtain ⟨h1, h2, h3, h4, h5, h6, h7, h8⟩ := h
  exact ⟨h1, h2, h3, h4, h5, h6, h7, h8⟩
/-- isinstance of an error of the class D: of these own classes D alone, and ValueError -/
def kindB (K : PySem.W.Frag) (D : Str) (cs : List Str) : Bool :=
  (cs.all fun c => decide (PySem.W.kitOne K (.ref (He.ga K D)) (.ref (He.ga K c)) = some (decide (c = D)))) && decide (PySem.W.kitOne K (.ref (He.ga K D)) (.type "ValueError") = some true)
structure Kind (K : PySem.W.Frag) (D : Str) (cs : List Str) : Prop where
  C : ExcC K (He.ga K D)
  own : ∀ c ∈ cs, PySem.W.kitOne K (.ref (He.ga K D)) (.ref (He.ga K c)) = some (decide (c = D))
  ve : PySem.W.kitOne K (.ref (He.ga K D)) (.type "ValueError") = some true
theorem kind_ok {K : PySem.W.Frag} {D : Str} {cs : List Str} (h1 : excCB K (He.ga K D) = true) (h2 : kindB K D cs = true) : Kind K D cs := by
  unfold kindB at h2
  simp only [Bool.and_eq_true, decide_eq_true_eq, List.all_eq_true] at h2
  exact ⟨excCB_ok h1, h2.1, h2.2⟩
/-- e.f of a class of errors that keeps one value -/
def fldB (K : PySem.W.Frag) (D f : Str) : Bool := xfB K (He.ga K D) && decide (PySem.W.findIn K (.ref (He.ga K D)) f = some none)
theorem fldB_ok {K : PySem.W.Frag} {D f : Str} (h : fldB K D f = true) : XfC K (He.ga K D) ∧ PySem.W.findIn K (.ref (He.ga K D)) f = some none := by
  unfold fldB at h
  simp only [Bool.and_eq_true, decide_eq_true_eq] at h
  exact ⟨xfB_ok h.1, h.2⟩
section
variable {K : PySem.W.Frag} {H : Hp} {Q : VK} {te : TE} {σ : L2.St} {f : Str}
def kErrF (K : PySem.W.Frag) (f : Str) (Q : VK) : VK := fun x H1 => ∃ (a C dd : Addr) (fs : List (Str × V)) (v : V), x = .ref a ∧ H1 a = some (ErrO (.ref C) (some dd) a) ∧ XfC K C ∧ PySem.W.findIn K (.ref C) f = some none ∧ H1 dd = some (.xd fs) ∧ fs.lookup f = some v ∧ Q v H1
theorem i_errF (q : te σ H (kErrF K f Q)) : tErrF K te f σ H Q := q
theorem i_kErrF {a dd : Addr} {D : Str} {v : V} (e : H a = some (ErrO (.ref (He.ga K D)) (some dd) a)) (T : XfC K (He.ga K D) ∧ PySem.W.findIn K (.ref (He.ga K D)) f = some none) (ed : H dd = some (.xd [(f, v)])) (q : Q v H) : kErrF K f Q (.ref a) H :=
  ⟨a, _, dd, [(f, v)], v, rfl, e, T.1, T.2, ed, by simp [List.lookup], q⟩
end
theorem ty_same {K : PySem.W.Frag} {H H' : Hp} {v : V} {t : Value} (h : TyX K H v t) (m : ∀ a o, H a = some o → H' a = some o) : TyX K H' v t := by
  cases h with
  | base b =>
    refine .base ?_
    cases b with
    | non => exact .non
    | bl x => exact .bl x
    | int i => exact .int i
    | str x => exact .str x
    | flt x => exact .flt x
    | lst e => exact .lst (m _ _ e)
    | frz e => exact .frz (m _ _ e)
    | tup e => exact .tup (m _ _ e)
    | dK e => exact .dK (m _ _ e)
    | dT e => exact .dT (m _ _ e)
    | ins e cl ha hn htk hm => exact .ins (m _ _ e) cl ha hn htk hm
  | byt b => exact .byt b
  | set e => exact .set (m _ _ e)
  | kList e c => exact .kList e c
  | kTuple e c => exact .kTuple e c
  | kDict e c => exact .kDict e c
  | fTuple e => exact .fTuple (m _ _ e)
  | fDict e => exact .fDict (m _ _ e)
end EVV

set_option Elab.async false
set_option linter.all false
set_option maxRecDepth 100000
set_option maxHeartbeats 2000000
/-! HXw: steps of a reading over attributes, methods, makings, dicts and their views, sets, tuples. -/
namespace HX
open PySem PySem.Spec PyProof.Rows L2
def kFld (K : PySem.W.Frag) (f : Str) (Q : VK) : VK := fun x H1 => ∃ a C dx fs v, x = .ref a ∧ H1 a = some (.ins C dx fs) ∧ Cls K C ∧ NoAttr K C f ∧ fs.lookup f = some v ∧ Q v H1
def kSFld (K : PySem.W.Frag) (f : Str) (y : V) (D : Ends) (σ : L2.St) : VK := fun x H2 => ∃ a C dx fs, x = .ref a ∧ H2 a = some (.ins C dx fs) ∧ Cls K C ∧ NoAttr K C f ∧ fs.length < 1000 ∧ D.nx σ (upd H2 a (.ins C dx (putF f y fs)))
def kMeth (m : Str) (sp : Sp) (dvs : List V) (E : XK) (t : TA) (σ : L2.St) (Q : VK) : VK := fun x H1 => ∃ a C dx fs, x = .ref a ∧ H1 a = some (.ins C dx fs) ∧ fs.lookup m = none ∧ t σ H1 fun vs H2 => sp (x :: (vs ++ dvs)) H2 Q E
def kFldAug (K : PySem.W.Frag) (tv : TE) (rd : V → V → Hp → VK → Prop) (f : Str) (D : Ends) (σ : L2.St) : VK := fun x H1 => ∃ a C dx fs v, x = .ref a ∧ H1 a = some (.ins C dx fs) ∧ Cls K C ∧ NoAttr K C f ∧ fs.lookup f = some v ∧ tv σ H1 fun y H2 => rd v y H2 fun z H3 => ∃ dx' fs', H3 a = some (.ins C dx' fs') ∧ fs'.length < 1000 ∧ D.nx σ (upd H3 a (.ins C dx' (putF f z fs')))
def kVals (R : It → Hp → Prop) : VK := fun x H1 => ∃ d o kvs, x = .ref d ∧ H1 d = some (.frz o (.dK kvs)) ∧ R (Itd d o kvs) H1
def kItems (R : It → Hp → Prop) : VK := fun x H1 => ∃ d o kvs, x = .ref d ∧ H1 d = some (.frz o (.dK kvs)) ∧ R (Iti d o kvs) H1
def kDGet (x : V) (Q : VK) : VK := fun y H2 => ∃ a v, x = .ref a ∧ DGet H2 a y (some v) ∧ Q v H2
def kDPut (x v : V) (D : Ends) (σ : L2.St) : VK := fun y H3 => ∃ a H4, x = .ref a ∧ DPut H3 a y v H4 ∧ D.nx σ H4
def kDIn (y : V) (Q : VK) : VK := fun x H2 => ∃ a o, x = .ref a ∧ DGet H2 a y o ∧ Q (.bl o.isSome) H2
def kDNotIn (y : V) (Q : VK) : VK := fun x H2 => ∃ a o, x = .ref a ∧ DGet H2 a y o ∧ Q (.bl !o.isSome) H2
def kDPop1 (ty : TE) (σ : L2.St) (Q : VK) : VK := fun x H1 => ∃ a, x = .ref a ∧ IsD H1 a ∧ ty σ H1 fun y H2 => ∃ kvs k v, H2 a = some (.dK kvs) ∧ y = kV k ∧ valV kvs k = some v ∧ Q v (upd H2 a (.dK (dropK kvs k)))
def kDDel (x : V) (D : Ends) (σ : L2.St) : VK := fun y H2 => ∃ a kvs k, x = .ref a ∧ H2 a = some (.dK kvs) ∧ y = kV k ∧ (valV kvs k).isSome = true ∧ D.nx σ (upd H2 a (.dK (dropK kvs k)))
def DcW (J : It) (g : TG) (tt : TT) (tk tv : TE) (vs : List Nat) (σ : L2.St) (H1 : Hp) (Q : VK) : Prop := ∀ D, H1 D = none → ∃ W : Nat → Nat → Hp → Prop, (∃ m, W 0 m (upd H1 D (.dK []))) ∧ ∀ i m H, W i m H →
  (J.stop i H ∧ Q (.ref D) H) ∨ (J.go i H ∧ ∃ Nx : Hp → Prop, (∀ H', Nx H' → ∃ m', m' < m ∧ W (i + 1) m' H') ∧ ∀ x H', J.yld i H x H' → g x (wipe σ vs) H' fun σ2 H2 => wipe σ2 vs = wipe σ vs ∧ tt σ2 H2 fun b H3 =>
    if b = true then tk σ2 H3 fun y H4 => tv σ2 H4 fun z H5 => ∃ kvs k, y = kV k ∧ H5 D = some (.dK kvs) ∧ kvs.length < sizeLine ∧ Nx (upd H5 D (.dK (putK kvs k z))) else Nx H3)
def kEnum (K : PySem.W.Frag) (R : It → Hp → Prop) : List V → Hp → Prop := fun vs H1 => ∃ a xs, vs = [.ref a] ∧ SqL K H1 a xs ∧ R (Ite K a) H1
section
variable {K : PySem.W.Frag} {σ : L2.St} {H : Hp} {i : Nat} {v x y z : V} {ta tb te tc td tv ty tk : TE} {tas : TA} {Q : VK} {D : Ends} {t u : TS} {g : TG} {tt : TT} {R : It → Hp → Prop} {a C dx : Addr} {fs : List (Str × V)} {f : Str} {sp : Sp} {dvs : List V} {E : XK} {kvs : List (Key × V)} {k : Key} {QB : Bool → Hp → Prop}
theorem i_fld (q : ta σ H (kFld K f Q)) : tFld K ta f σ H Q := q
theorem i_kFld (h : H a = some (.ins C dx fs)) (c1 : Cls K C) (c2 : NoAttr K C f) (e : fs.lookup f = some v) (q : Q v H) : kFld K f Q (.ref a) H := ⟨a, C, dx, fs, v, rfl, h, c1, c2, e, q⟩
theorem i_sfld (q : tv σ H fun y H1 => ta σ H1 (kSFld K f y D σ)) : sFld K ta tv f D σ H := q
theorem i_kSFld (h : H a = some (.ins C dx fs)) (c1 : Cls K C) (c2 : NoAttr K C f) (e : fs.length < 1000) (q : D.nx σ (upd H a (.ins C dx (putF f y fs)))) : kSFld K f y D σ (.ref a) H := ⟨a, C, dx, fs, rfl, h, c1, c2, e, q⟩
theorem i_meth (q : ta σ H (kMeth f sp dvs E tas σ Q)) (hC : ∀ a C' dx fs, H a = some (.ins C' dx fs) → C' = C) : True := trivial
def kMethC (C : Addr) (m : Str) (sp : Sp) (dvs : List V) (E : XK) (t : TA) (σ : L2.St) (Q : VK) : VK := fun x H1 => ∃ a dx fs, x = .ref a ∧ H1 a = some (.ins C dx fs) ∧ fs.lookup m = none ∧ t σ H1 fun vs H2 => sp (x :: (vs ++ dvs)) H2 Q E
theorem i_methC (q : ta σ H (kMethC C f sp dvs E tas σ Q)) : tMeth C f sp dvs E ta tas σ H Q := q
theorem i_kMethC (h : H a = some (.ins C dx fs)) (e : fs.lookup f = none) (q : tas σ H fun vs H2 => sp (.ref a :: (vs ++ dvs)) H2 Q E) : kMethC C f sp dvs E tas σ Q (.ref a) H := ⟨a, dx, fs, rfl, h, e, q⟩
theorem i_make (q : tas σ H fun vs H1 => ∀ x dx : Addr, H1 x = none → H1 dx = none → dx ≠ x → sp (.ref x :: (vs ++ dvs)) (upd (upd H1 dx (.own x)) x (.ins C dx [])) (fun v H2 => v = .non ∧ Q (.ref x) H2) E) : tMake C sp dvs E tas σ H Q := q
theorem i_fldaug {rd : V → V → Hp → VK → Prop} (q : ta σ H (kFldAug K tv rd f D σ)) : sFldAug K ta tv rd f D σ H := q
theorem i_kFldAugI {j : Int} {m : Int} (h : H a = some (.ins C dx fs)) (c1 : Cls K C) (c2 : NoAttr K C f) (e : fs.lookup f = some (.int j)) (n : fs.length < 1000) (q : D.nx σ (upd H a (.ins C dx (putF f (.int (j + m)) fs)))) : kFldAug K (tC (.int m)) rAdd f D σ (.ref a) H := ⟨a, C, dx, fs, .int j, rfl, h, c1, c2, e, ⟨j, m, rfl, rfl, dx, fs, h, n, q⟩⟩
theorem i_lock {d : Addr} {o : HO} (h : H d = some o) (c : Mut (some o)) (q : ∀ od, t { nx := fun σ' H' => H' d = some (.frz od o) ∧ D.nx σ' (upd H' d o), rt := fun v H' => H' d = some (.frz od o) ∧ D.rt v (upd H' d o), bk := fun σ' H' => H' d = some (.frz od o) ∧ D.bk σ' (upd H' d o), ct := fun σ' H' => H' d = some (.frz od o) ∧ D.ct σ' (upd H' d o) } σ (upd H d (.frz od o))) : tLock t D σ H := ⟨d, o, h, c, q⟩
theorem i_lockE {d : Addr} {o : HO} (h : H d = some o) (c : Mut (some o)) (q : ∀ od, te σ (upd H d (.frz od o)) fun v H' => H' d = some (.frz od o) ∧ Q v (upd H' d o)) : tLockE te σ H Q := ⟨d, o, h, c, q⟩
theorem i_vals (q : td σ H (kVals R)) : iVals td σ H R := q
theorem i_items (q : td σ H (kItems R)) : iItems td σ H R := q
theorem i_kVals {d : Addr} {o : Obj} (h : H d = some (.frz o (.dK kvs))) (q : R (Itd d o kvs) H) : kVals R (.ref d) H := ⟨d, o, kvs, rfl, h, q⟩
theorem i_kItems {d : Addr} {o : Obj} (h : H d = some (.frz o (.dK kvs))) (q : R (Iti d o kvs) H) : kItems R (.ref d) H := ⟨d, o, kvs, rfl, h, q⟩
theorem i_dget (q : td σ H fun x H1 => ty σ H1 (kDGet x Q)) : tDGet td ty σ H Q := q
theorem i_kDGet (h : H a = some (.dK kvs)) (e : valV kvs k = some v) (q : Q v H) : kDGet (.ref a) Q (kV k) H := ⟨a, v, rfl, .inl ⟨kvs, k, .inl h, rfl, e.symm⟩, q⟩
theorem i_kDGetI {j : Int} (h : H a = some (.dK kvs)) (e : valV kvs (Sum.inl j) = some v) (q : Q v H) : kDGet (.ref a) Q (.int j) H := i_kDGet (k := Sum.inl j) h e q
theorem i_kDGetS {j : Str} (h : H a = some (.dK kvs)) (e : valV kvs (Sum.inr j) = some v) (q : Q v H) : kDGet (.ref a) Q (.str j) H := i_kDGet (k := Sum.inr j) h e q
theorem i_dput (q : tv σ H fun v H1 => td σ H1 fun x H2 => ty σ H2 (kDPut x v D σ)) : sDPut td ty tv D σ H := q
theorem i_kDPutI {j : Int} (h : H a = some (.dK kvs)) (c : kvs.length < sizeLine) (q : D.nx σ (upd H a (.dK (putK kvs (Sum.inl j) v)))) : kDPut (.ref a) v D σ (.int j) H := ⟨a, _, rfl, .inl ⟨kvs, Sum.inl j, h, rfl, c, rfl⟩, q⟩
theorem i_kDPutS {j : Str} (h : H a = some (.dK kvs)) (c : kvs.length < sizeLine) (q : D.nx σ (upd H a (.dK (putK kvs (Sum.inr j) v)))) : kDPut (.ref a) v D σ (.str j) H := ⟨a, _, rfl, .inl ⟨kvs, Sum.inr j, h, rfl, c, rfl⟩, q⟩
theorem i_din (q : ty σ H fun y H1 => td σ H1 (kDIn y Q)) : tDIn ty td σ H Q := q
theorem i_kDInI {j : Int} (h : H a = some (.dK kvs)) (q : Q (.bl (valV kvs (Sum.inl j)).isSome) H) : kDIn (.int j) Q (.ref a) H := ⟨a, _, rfl, .inl ⟨kvs, Sum.inl j, .inl h, rfl, rfl⟩, q⟩
theorem i_dnotin (q : ty σ H fun y H1 => td σ H1 (kDNotIn y Q)) : tDNotIn ty td σ H Q := q
theorem i_kDNotInI {j : Int} (h : H a = some (.dK kvs)) (q : Q (.bl !(valV kvs (Sum.inl j)).isSome) H) : kDNotIn (.int j) Q (.ref a) H := ⟨a, _, rfl, .inl ⟨kvs, Sum.inl j, .inl h, rfl, rfl⟩, q⟩
theorem i_isL {xs : List V} (h : H a = some (.lst xs)) (q : Q (.bl true) H) : rIsi K [.ref a, .ty "list"] H Q := ⟨_, _, _, _, _, rfl, .ty _, .base (.lst h), kit_ty (by decide +kernel), q⟩
theorem i_dpop1 (q : td σ H (kDPop1 ty σ Q)) : tDPop1 td ty σ H Q := q
theorem i_kDPop1I {j : Int} (h : H a = some (.dK kvs)) (q : ty σ H fun y H2 => y = .int j ∧ H2 = H) (e : valV kvs (Sum.inl j) = some v) (r : Q v (upd H a (.dK (dropK kvs (Sum.inl j))))) : True := trivial
theorem i_ddel (q : td σ H fun x H1 => ty σ H1 (kDDel x D σ)) : sDDel td ty D σ H := q
theorem i_kDDelI {j : Int} (h : H a = some (.dK kvs)) (e : (valV kvs (Sum.inl j)).isSome = true) (q : D.nx σ (upd H a (.dK (dropK kvs (Sum.inl j))))) : kDDel (.ref a) D σ (.int j) H := ⟨a, kvs, Sum.inl j, rfl, h, rfl, e, q⟩
theorem i_dc {wi : TI} {vs : List Nat} (q : wi σ H fun J H1 => DcW J g tt tk tv vs σ H1 Q) : tDc wi g tt tk tv vs σ H Q := q
theorem i_enum (q : tas σ H (kEnum K R)) : iEnum K tas σ H R := q
theorem i_kEnum {xs : List V} (h : SqL K H a xs) (q : R (Ite K a) H) : kEnum K R [.ref a] H := ⟨a, xs, rfl, h, q⟩
theorem i_rIn {xs : List V} {b : Bool} (h : SqL K H a xs) (c1 : flatV x = true) (c2 : xs.all flatV = true) (q : Q (.bl (if b = true then !inV x xs else inV x xs)) H) : rIn K b x (.ref a) H Q := ⟨a, xs, rfl, .inl h, c1, c2, q⟩
theorem i_rInT {xs : List V} {b : Bool} (h : SqT K H a xs) (c1 : flatV x = true) (c2 : xs.all flatV = true) (q : Q (.bl (if b = true then !inV x xs else inV x xs)) H) : rIn K b x (.ref a) H Q := ⟨a, xs, rfl, .inr h, c1, c2, q⟩
theorem i_dict (h : H a = some (.dK kvs)) (q : ∀ p, H p = none → Q (.ref p) (upd H p (.dK kvs))) : xDict [.ref a] H Q := ⟨a, kvs, rfl, .inl h, q⟩
theorem i_slT {xs : List V} {lo hi : Option Int} (h : SqT K H a xs) (c : ¬(HT.sIx xs.length 0 lo = 0 ∧ HT.sIx xs.length xs.length hi = xs.length)) (q : ∀ p, H p = none → Q (.ref p) (upd H p (.tup (cutV xs lo hi)))) : rSlT K (.ref a) lo hi H Q := ⟨a, xs, rfl, h, c, q⟩
theorem i_slS {z : Str} {lo hi : Option Int} (c : z.length ≤ sizeLine) (q : Q (.str (cutS z lo hi)) H) : rSlS (.str z) lo hi H Q := ⟨z, rfl, c, q⟩
end
/-- a dict's comprehension, by an invariant -/
theorem dc_it {J : It} {n : Nat} {G : Hp → Prop} {Y : Nat → Hp → V → Hp → Prop} (w : Walk J n G Y) {g : TG} {tt : TT} {tk tv : TE} {vs : List Nat} {σ : L2.St} {H1 : Hp} {D : Addr} {Qd : Hp → Prop}
    (Pv : Nat → Hp → Prop) (h0 : Pv 0 (upd H1 D (.dK []))) (hG : ∀ i H, i ≤ n → Pv i H → G H)
    (hs : ∀ i x H H', i < n → Pv i H → Y i H x H' → g x (wipe σ vs) H' fun σ2 H2 => wipe σ2 vs = wipe σ vs ∧ tt σ2 H2 fun b H3 =>
      if b = true then tk σ2 H3 fun y H4 => tv σ2 H4 fun z H5 => ∃ kvs k, y = kV k ∧ H5 D = some (.dK kvs) ∧ kvs.length < sizeLine ∧ Pv (i + 1) (upd H5 D (.dK (putK kvs k z))) else Pv (i + 1) H3)
    (hd : ∀ H, Pv n H → Qd H) : ∃ W : Nat → Nat → Hp → Prop, (∃ m, W 0 m (upd H1 D (.dK []))) ∧ ∀ i m H, W i m H →
  (J.stop i H ∧ Qd H) ∨ (J.go i H ∧ ∃ Nx : Hp → Prop, (∀ H', Nx H' → ∃ m', m' < m ∧ W (i + 1) m' H') ∧ ∀ x H', J.yld i H x H' → g x (wipe σ vs) H' fun σ2 H2 => wipe σ2 vs = wipe σ vs ∧ tt σ2 H2 fun b H3 =>
    if b = true then tk σ2 H3 fun y H4 => tv σ2 H4 fun z H5 => ∃ kvs k, y = kV k ∧ H5 D = some (.dK kvs) ∧ kvs.length < sizeLine ∧ Nx (upd H5 D (.dK (putK kvs k z))) else Nx H3) := by
  refine ⟨fun i m H => i + m = n ∧ Pv i H, ⟨n, by omega, h0⟩, ?_⟩
  rintro i m H ⟨e, p⟩
  by_cases hi : i < n
  · refine .inr ⟨w.goes i H hi (hG i H (by omega) p), Pv (i + 1), fun H' p' => ⟨m - 1, by omega, by omega, p'⟩, fun x H' y => ?_⟩
    exact hs i x H H' hi p (w.yields i H x H' hi (hG i H (by omega) p) y)
  · obtain rfl : i = n := by omega
    exact .inl ⟨w.stops H (hG i H (by omega) p), hd H p⟩
end HX

set_option Elab.async false
set_option linter.all false
set_option maxRecDepth 100000
set_option maxHeartbeats 2000000
/-! HXl: a text some times over, slices by steps, sets of texts. -/
namespace L2
open PySem PySem.Spec PyProof.Rows
section
variable {X : Cx}
/-! ### s * k -/
def repS (z : Str) (n : Nat) : Str := ⟨(List.replicate n z.cps).foldl (fun a b => a ++ b) #[]⟩
theorem repS_tl (z : Str) : ∀ n : Nat, (repS z n).cps.toList = (List.replicate n z.cps.toList).flatten := by
  have g : ∀ (n : Nat) (acc : Array Nat), ((List.replicate n z.cps).foldl (fun a b => a ++ b) acc).toList = acc.toList ++ (List.replicate n z.cps.toList).flatten := by
    intro n
    induction n with
    | zero => intro acc; simp
    | succ n ih =>
      intro acc
      rw [List.replicate_succ, List.foldl_cons, ih, List.replicate_succ, List.flatten_cons, Array.toList_append, List.append_assoc]
  intro n
  have := g n #[]
  simpa [repS] using this
theorem repS_len (z : Str) (n : Nat) : (repS z n).length = n * z.length := by
  have e := congrArg List.length (repS_tl z n)
  have h1 : (repS z n).cps.toList.length = (repS z n).length := by simp [Str.length]
  have h2 : z.cps.toList.length = z.length := by simp [Str.length]
  rw [← h1, e, List.length_flatten, List.map_replicate, List.sum_replicate_nat, h2]
def rRepS : R2 := fun x y H Q => ∃ (z : Str) (k : Int), x = .str z ∧ y = .int k ∧ 1 ≤ k ∧ k ≤ 1000 ∧ 1 ≤ z.length ∧ z.length ≤ 100 ∧ Q (.str (repS z k.toNat)) H
theorem op_repS : OpR X (binaryOp .Mult) rRepS := by
  intro pins s σ H x y v u Q I rx ry h
  obtain ⟨z, k, rfl, rfl, k1, k2, z1, z2, q⟩ := h
  obtain ⟨t, rfl⟩ := rx
  obtain ⟨t2, rfl⟩ := ry
  have small : z.length * k.toNat ≤ 100 * 1000 := Nat.mul_le_mul z2 (by omega)
  refine PySem.P.mul_str ?_ (fun _ _ => ?_) (fun _ _ => ?_) ?_
  · have a1 : ¬ k < -(2 ^ 63 : Int) := by omega
    have a2 : ¬ k ≥ 2 ^ 63 := by omega
    rw [decide_eq_false a1, decide_eq_false a2]; rfl
  · have d : (2 ^ 63 - 1 : Int) / 1000 ≤ (2 ^ 63 - 1) / k := by
      have e1 : (2 ^ 63 - 1 : Int) / 1000 * k ≤ (2 ^ 63 - 1 : Int) / 1000 * 1000 := Int.mul_le_mul_of_nonneg_left k2 (by decide)
      have e2 : (2 ^ 63 - 1 : Int) / 1000 * 1000 ≤ 2 ^ 63 - 1 := by decide
      exact (Int.le_ediv_iff_mul_le (by omega)).mpr (Int.le_trans e1 e2)
    have e3 : (100 : Int) ≤ (2 ^ 63 - 1 : Int) / 1000 := by decide
    omega
  · exact decide_eq_false (by rw [sizeLine_eq]; omega)
  · have k3 : ¬ k < 1 := by omega
    rw [if_neg k3]
    by_cases c : (k == 1 || z.length == 0) = true
    · rw [if_pos c]
      have ek : k = 1 := by
        rcases Bool.or_eq_true_iff.mp c with c | c
        · simpa using c
        · have : z.length = 0 := by simpa using c
          omega
      subst ek
      have ez : repS z (1 : Int).toNat = z := by
        show (⟨#[] ++ z.cps⟩ : Str) = z
        rw [Array.empty_append]
      rw [ez] at q
      exact ⟨.str z, H, I, ⟨_, rfl⟩, q⟩
    · rw [if_neg c]
      refine ⟨?_, .str (repS z k.toNat), H, I.tok _, ⟨_, rfl⟩, q⟩
      show (repS z k.toNat).length ≤ sizeLine
      rw [repS_len, sizeLine_eq, Nat.mul_comm]
      omega
theorem i_rRepS {H : Hp} {z : Str} {k : Int} {Q : VK} (k1 : 1 ≤ k) (k2 : k ≤ 1000) (z1 : 1 ≤ z.length) (z2 : z.length ≤ 100) (q : Q (.str (repS z k.toNat)) H) : rRepS (.str z) (.int k) H Q := ⟨z, k, rfl, rfl, k1, k2, z1, z2, q⟩
/-! ### xs[i::k] -/
def Picked {α : Type} (xs ys : List α) : Prop := ∃ js : List Nat, js.Pairwise (· < ·) ∧ ys = js.filterMap (xs[·]?)
theorem vals_pick {xs : List V} {its : List Value} (r : Vals xs its) : ∀ js : List Nat, Vals (js.filterMap (xs[·]?)) (js.filterMap (its[·]?))
  | [] => .nil
  | j :: js => by
    have hl := r.length
    rw [List.filterMap_cons, List.filterMap_cons]
    rcases Nat.lt_or_ge j xs.length with h | h
    · obtain ⟨u, e2, rv⟩ := r.get (List.getElem?_eq_getElem h)
      rw [List.getElem?_eq_getElem h, e2]
      exact .cons rv (vals_pick r js)
    · rw [List.getElem?_eq_none_iff.mpr h, List.getElem?_eq_none_iff.mpr (by omega)]
      exact vals_pick r js
theorem pick_len {α : Type} (xs : List α) : ∀ (js : List Nat) (m : Nat), js.Pairwise (· < ·) → (∀ j ∈ js, m ≤ j) → (js.filterMap (xs[·]?)).length ≤ xs.length - m
  | [], m, _, _ => Nat.zero_le _
  | j :: js, m, h, hm => by
    obtain ⟨h1, h2⟩ := List.pairwise_cons.mp h
    have hj := hm j (List.mem_cons_self ..)
    have ih := pick_len xs js (j + 1) h2 (fun i hi => h1 i hi)
    rw [List.filterMap_cons]
    rcases Nat.lt_or_ge j xs.length with c | c
    · rw [List.getElem?_eq_getElem c]
      simp only [List.length_cons]
      omega
    · rw [List.getElem?_eq_none_iff.mpr c]
      simp only
      omega
theorem range_rise {a b k : Int} (h0 : 0 ≤ a) (hk : 0 < k) : (sliceRange a b k).Pairwise (· < ·) := by
  unfold sliceRange
  refine List.pairwise_map.mpr (List.Pairwise.imp ?_ List.pairwise_lt_range)
  intro i j hij
  have : k * (i : Int) < k * (j : Int) := Int.mul_lt_mul_of_pos_left (by omega) hk
  have : 0 ≤ k * (i : Int) := Int.mul_nonneg (by omega) (by omega)
  omega
theorem pick_rise (items : Array Value) {i k : Int} (hk : 0 < k) : ∃ js : List Nat, js.Pairwise (· < ·) ∧ slicePick items (some i) none (some k) = (js.filterMap (items[·]?)).toArray := by
  refine ⟨sliceRange (sliceBounds (some i) none (some k) items.size).1 (sliceBounds (some i) none (some k) items.size).2.1 k, range_rise ?_ hk, ?_⟩
  · show (0 : Int) ≤ (if k > 0 then max 0 (min (if i < 0 then i + (items.size : Int) else i) (items.size : Int)) else max (-1) (min (if i < 0 then i + (items.size : Int) else i) ((items.size : Int) - 1)))
    rw [if_pos hk]
    exact Int.le_max_left ..
  · rfl
def kStepLo (K : PySem.W.Frag) (x : V) (Q : VK) (ol : Option Int) : Option Int → Hp → Prop := fun o H2 => ∃ a xs i k, x = .ref a ∧ ol = some i ∧ o = some k ∧ SqL K H2 a xs ∧ 0 < k ∧ ∀ p ys, Picked xs ys → H2 p = none → Q (.ref p) (upd H2 p (.lst ys))
def tStepLo (K : PySem.W.Frag) (te : TE) (tl tk : TO) : TE := fun σ H Q => te σ H fun x H1 => tl σ H1 fun ol H2 => tk σ H2 (kStepLo K x Q ol)
theorem i_stepLo {K : PySem.W.Frag} {te : TE} {tl tk : TO} {σ : L2.St} {H : Hp} {Q : VK} (q : te σ H fun x H1 => tl σ H1 fun ol H2 => tk σ H2 (kStepLo K x Q ol)) : tStepLo K te tl tk σ H Q := q
theorem i_kStepLo {K : PySem.W.Frag} {H : Hp} {Q : VK} {a : Addr} {xs : List V} {i k : Int} (h : SqL K H a xs) (hk : 0 < k) (q : ∀ p ys, Picked xs ys → H p = none → Q (.ref p) (upd H p (.lst ys))) : kStepLo K (.ref a) Q (some i) (some k) H :=
  ⟨a, xs, i, k, rfl, rfl, rfl, h, hk, q⟩
theorem pe_stepLo {e el ek : Expr} {te tl tk : TE} {p3 pos : Pos} (he : PE X e te) (hl : PE X el tl) (hk : PE X ek tk) : PE X (.Subscript e (.Slice (some el) none (some ek) p3) pos) (tStepLo X.K te (tPart tl) (tPart tk)) := by
  refine ⟨fun pins s σ H Q I h => Subscript_ (thn (he.run pins s σ H _ I h) fun v s1 ⟨x, H1, I1, r1, q1⟩ => ?_)⟩
  refine wpAny_Slice (thn ((po_some hl : PO X (some el) (tPart tl)).run pins s1 σ H1 _ I1 q1) fun vl s2 ⟨ol, H2, I2, pl, q2⟩ => ?_)
  refine thn (po_none.run pins s2 σ H2 (fun o H3 => o = none ∧ H3 = H2) I2 ⟨rfl, rfl⟩) fun vu s3 ⟨u, H3, I3, pu, eu, e3⟩ => ?_
  subst eu e3
  refine thn ((po_some hk : PO X (some ek) (tPart tk)).run pins s3 σ H3 _ I3 q2) fun vs s4 ⟨o, H4, I4, ps, a, xs, i, k, ex, el', eo, hx, k0, q⟩ => ?_
  subst eo ex el'
  obtain rfl : v = Value.ref a := r1
  have I5 : Inv X pins σ H4 { s4 with heap := s4.heap.push { cls := .type "slice", data := .fields #[vl, vu, vs] } } := I4.kept (t' := s4.toks) fun b ob q => Heap.get?_push_of_some _ q
  obtain ⟨its, r, ht, hz⟩ := I5.list hx
  have hlen := r.length
  show wpAny (model X.prog X.w) X.A (subscriptTail e (.Slice (some el) none (some ek) p3) (.ref a) (.ref s4.heap.objs.size)) (EP X pins σ Q) X.xe { s4 with heap := s4.heap.push { cls := .type "slice", data := .fields #[vl, vu, vs] } }
  refine tail_any (ops := [.ref a, .ref s4.heap.objs.size]) ht.isList.typeIs (PySem.slot_list_getitem.lookup) ?_ (by with_unfolding_all rfl)
  refine wpAny_getItem_list_slice ht.isList (Heap.IsSliceOf.new _ vl vu vs) pl pu ps (fun c => by cases c; exact absurd k0 (by decide)) ?_ (by rw [List.size_toArray]; omega)
  obtain ⟨js, hj, ej⟩ := pick_rise its.toArray (i := i) k0
  have ej2 : js.filterMap (its.toArray[·]?) = js.filterMap (its[·]?) := by congr 1; funext j; simp
  rw [ej, ej2]
  have rp := vals_pick r js
  refine ⟨.ref _, _, I5.laid (t' := s4.toks) (o := .lst (js.filterMap (xs[·]?))) (fun b ob q => Heap.get?_push_of_some _ q) (Nat.le_refl _) ?_, rfl, q _ _ ⟨js, hj, rfl⟩ (I5.hok.fresh (Nat.le_refl _))⟩
  exact ⟨Nat.le_trans (by simpa using pick_len xs js 0 hj (fun _ _ => Nat.zero_le _)) hz, _, 0, rp, Heap.get?_push_size _ rfl⟩
end
end L2

set_option Elab.async false
set_option linter.all false
set_option maxRecDepth 100000
set_option maxHeartbeats 3200000
/-! HXs: how many unlike texts a list has, where all are unlike. -/
namespace L2
open PySem PySem.Spec PyProof.Rows
section
variable {prog : Program} {w : World} {A : Around} {E : Value → Shared → Prop} {s : Shared}
/-- the first i texts -/
abbrev upTo (xs : List Str) (i : Nat) : Str → Bool := fun z => decide (z ∈ xs.take i)
theorem upTo_next {xs : List Str} {i : Nat} (h : i < xs.length) (z : Str) : (upTo xs i z || decide (z = xs.getD i Str.empty)) = upTo xs (i + 1) z := by
  have e : xs.getD i Str.empty = xs[i] := by rw [List.getD_eq_getElem?_getD, List.getElem?_eq_getElem h]; rfl
  unfold upTo
  rw [e, ← Bool.decide_or, List.take_add_one, List.getElem?_eq_getElem h]
  exact decide_eq_decide.mpr (by rw [List.mem_append]; simp only [Option.toList_some, List.mem_singleton])
theorem upTo_new {xs : List Str} (nd : xs.Nodup) {i : Nat} (h : i < xs.length) : upTo xs i (xs.getD i Str.empty) = false := by
  have e : xs.getD i Str.empty = xs[i] := by rw [List.getD_eq_getElem?_getD, List.getElem?_eq_getElem h]; rfl
  refine decide_eq_false fun m => ?_
  rw [e] at m
  obtain ⟨k, hk, ek⟩ := List.mem_take_iff_getElem.mp m
  have := (List.getElem_inj nd (h₀ := by omega) (h₁ := h)).mp ek
  omega
theorem texts_in {R : Result → Shared → Prop} {I T : Addr} {fp wr : List Addr} {G : Array GenState → Array GenState → Prop} {P : Nat → Value → Prop} {St : Nat → Shared → Prop} {xs : List Str}
    (W : WalksS prog w A.in1 I fp wr G xs.length P St) (apart : T ∉ fp) (nd : xs.Nodup) (few : xs.length ≤ 4000) (txt : ∀ i v, P i v → ∃ t, v = .str (xs.getD i Str.empty) t)
    (fin : ∀ s', Moved (T :: wr) G s s' → s'.heap.SetOf (PySem.strKind prog w) T (upTo xs xs.length) xs.length → R (.ok (.ret .none)) s') (h0 : St 0 s) (hT : s.heap.SetOf (PySem.strKind prog w) T (upTo xs 0) 0) :
    codeAny (model prog w) A (.builtin "set.update.loop" ⟨[.ref T, .ref I], []⟩) R s := by
  have off : T ∉ wr := fun m => apart (W.sub _ m)
  have wide : ∀ b ∈ wr, b ∈ T :: wr := fun _ m => List.mem_cons_of_mem _ m
  have all : ∀ (left i : Nat) (s : Shared), i + left = xs.length → St i s → s.heap.SetOf (PySem.strKind prog w) T (upTo xs i) i →
      (∀ s', Moved (T :: wr) G s s' → s'.heap.SetOf (PySem.strKind prog w) T (upTo xs xs.length) xs.length → R (.ok (.ret .none)) s') → codeAny (model prog w) A (.builtin "set.update.loop" ⟨[.ref T, .ref I], []⟩) R s := by
    intro left
    induction left with
    | zero =>
      intro i s e hi hS q
      obtain rfl : i = xs.length := by omega
      refine codeAny_builtin PyProof.Rows.F.entry_set_update_loop (?_ : _)
      rw [Around.under_plainId PyProof.Rows.F.plain_set_update_loop _]
      show wpAny (model prog w) A.in1 (pyNext (.ref I) >>= _) _ _ s
      refine wpAny_bind (W.done s _ _ hi fun t mv => (wpAny_pure (q t (mv.mono wide) ?_) : wpAny (model prog w) A.in1 (ret Value.none) _ _ t))
      obtain ⟨o, es, ep, tb, ho, more⟩ := hS
      exact ⟨o, es, ep, tb, mv.heap T _ off ho, more⟩
    | succ left ih =>
      intro i s e hi hS q
      have lt : i < xs.length := by omega
      refine codeAny_builtin PyProof.Rows.F.entry_set_update_loop (?_ : _)
      rw [Around.under_plainId PyProof.Rows.F.plain_set_update_loop _]
      show wpAny (model prog w) A.in1 (pyNext (.ref I) >>= _) _ _ s
      refine wpAny_bind (W.item i s _ _ lt hi fun v t hv ht mv => ?_)
      obtain ⟨tk, rfl⟩ := txt i v hv
      have hS2 : t.heap.SetOf (PySem.strKind prog w) T (upTo xs i) i := by
        obtain ⟨o, es, ep, tb, ho, more⟩ := hS
        exact ⟨o, es, ep, tb, mv.heap T _ off ho, more⟩
      generalize ez : xs.getD i Str.empty = z
      show wpAny (model prog w) A.in1 (holding [Value.str z tk] (setAdd T (.str z tk)) >>= _) _ _ t
      refine wpAny_bind (wpAny_holding (?_ : _))
      unfold setAdd
      refine wpAny_holding (wpAny_bind ((PySem.strKind prog w).pyHash (k := z) (strKind_is _ _ _ _) ?_))
      refine wpAny_setAddHashed_of (knd := PySem.strKind prog w) (s := { t with toks := t.toks + 1 }) (strKind_is _ _ _ _) rfl hS2 (by unfold scanBound; omega) fun h2 but hS3 => ?_
      have new : upTo xs i z = false := by rw [← ez]; exact upTo_new nd lt
      have hS4 : h2.SetOf (PySem.strKind prog w) T (upTo xs (i + 1)) (i + 1) := SetOf_congr hS3 (fun y => by rw [← upTo_next lt, ez]) (by rw [new]; rfl)
      refine wpAny_pure ⟨plainId_quiet PyProof.Rows.F.plain_set_update_loop _, ih (i + 1) _ (by omega) (W.frame _ t _ _ ht (Nat.le_succ _) fun b hb o eb => (but.2 b (fun c => apart (c ▸ hb))).trans eb) hS4 fun t2 mv2 hS5 => ?_⟩
      exact q t2 (Moved.trans W.gtrans ((mv.mono wide).then_heap (Nat.le_succ _) fun b o hb eb => (but.2 b (fun c => hb (c ▸ List.mem_cons_self))).trans eb) mv2) hS5
  exact all xs.length 0 s (Nat.zero_add _) h0 hT fin
/-- an empty set, as it is made -/
abbrev emptyS (led : Bool) : Obj := { cls := .type "set", dict := none, data := .set #[] 0 (.fresh 0 0 led) }
/-- the set of a list of unlike texts -/
theorem set_of_texts {l : Addr} {its : Array Value} {xs : List Str} {Q : Value → Shared → Prop} (calm : A.handled = none) (hl : s.heap.IsList l its) (ht : StrsAre its.toList xs) (nd : xs.Nodup) (few : xs.length ≤ 4000)
    (q : ∀ (h' : Heap) (tk : Nat), h'.SetOf (PySem.strKind prog w) s.heap.objs.size (upTo xs xs.length) xs.length → (∀ b o, b < s.heap.objs.size → s.heap.get? b = some o → h'.get? b = some o) → Q (.ref s.heap.objs.size) { s with heap := h', toks := tk }) :
    wpAny (model prog w) A (call (.type "set") [.ref l]) Q E s := by
  have size : its.size = xs.length := by rw [← StrsAre.len_eq ht, Array.length_toList]
  obtain ⟨c, tl, m1⟩ := PySem.F.called_set.mro
  have m2 := PySem.F.called_set.made
  have m3 := PySem.F.called_set.sub
  refine wpAny_call (codeAny_of_tree (?_ : wpAny _ _ (callAny (.type "set") _) _ _ _))
  refine wpAny_pure ⟨Code.quiet_builtin _ (by decide +kernel), codeAny_builtin PySem.F.entry_type_call (?_ : _)⟩
  rw [Around.under_plain (weight_type_call_type "set" [.ref l] []) rfl]
  have m4 := PySem.F.called_set.notType
  have m5 := PySem.F.called_set.canCreate
  have m6 := PySem.F.typeCall_set_1 (.ref l)
  repeat (any_goals (first | assumption | wp_step))
  refine codeAny_mono (code_set_new_1 (.ref l) (E := E) (Q₁ := fun made t => ∃ led : Bool, made = .ref s.heap.objs.size ∧ t = { s with heap := s.heap.push (emptyS led) }) fun led => ⟨led, rfl, rfl⟩) fun r t hr => ?_
  rcases r with e | fl
  · exact hr
  rcases fl with made | _ | _ | _
  rotate_left
  all_goals first | exact hr.elim | skip
  obtain ⟨led, rfl, rfl⟩ := hr
  have at' : (s.heap.push (emptyS led)).get? s.heap.objs.size = some (emptyS led) := Heap.get?_push_size _ rfl
  have ty : Shared.TypeIs { s with heap := s.heap.push (emptyS led) } (.ref s.heap.objs.size) "set" := ⟨_, at', rfl⟩
  have m7 := PySem.F.called_set.init.lookup
  have m8 := PySem.F.called_set.init.bind (.ref s.heap.objs.size)
  repeat (any_goals (first | assumption | wp_step))
  refine codeAny_mono (codeAny_call_builtin (R := wants (fun r t => r = .none ∧ ∃ h' tk, t = { s with heap := h', toks := tk } ∧ h'.SetOf (PySem.strKind prog w) s.heap.objs.size (upTo xs xs.length) xs.length ∧
      (∀ b o, b < s.heap.objs.size → s.heap.get? b = some o → h'.get? b = some o)) E) PySem.F.called_set.init.plain PySem.F.entry_set_init (check_set_init_1 ty (?_ : _))) fun r t hr => ?_
  · obtain ⟨⟨oc, od, oda, os⟩, ho, hc, n, hd⟩ := hl
    dsimp only at hc hd
    subst hc hd
    have ho2 : (s.heap.push (emptyS led)).get? l = some { cls := .type "list", dict := od, data := .seq its n, slots := os } := Heap.get?_push_of_some _ ho
    have n1 := PySem.F.sub_list_set
    have n2 := PySem.F.sub_list_frozenset
    have n3 : (Value.type "list" == Value.type "dict") = false := by decide
    have hl1 : (s.heap.push (emptyS led)).IsList l its := ⟨_, ho2, rfl, n, rfl⟩
    unfold Builtin.«set.__init__» noKeywords Builtin.Frozenset.updateFrom
    generalize ep : pyIter = pit
    wp_walk
    subst ep
    have lt : l < s.heap.objs.size := Heap.lt_size ho
    have lS : (s.heap.push (emptyS led)).objs.size = s.heap.objs.size + 1 := Heap.size_push ..
    refine wpAny_pyIter_list hl1 (wpAny_bind (wpAny_runValue ?_))
    have key : ∀ (i : Nat) (v : Value), its[i]? = some v → ∃ t, v = .str (xs.getD i Str.empty) t := fun i v hv => SS.strs_at ht i v (by rw [Array.getElem?_toList]; exact hv)
    have walk := (Walks.list (prog := prog) (w := w) (A := A.in1.in1.in1) (by simp [calm]) (s.heap.push (emptyS led)).objs.size l (by rw [lS]; exact Nat.ne_of_lt (Nat.lt_succ_of_lt lt)) its).toS
    rw [size] at walk
    refine texts_in walk (by rw [lS]; simp only [List.mem_cons, List.not_mem_nil, or_false, not_or]; exact ⟨Nat.ne_of_lt (Nat.lt_succ_self _), Nat.ne_of_gt lt⟩) nd few key (fun t mv hS => ?_) ⟨⟨_, Heap.get?_push_size _ rfl, rfl, rfl⟩, hl1.push _⟩ ?_
    · obtain ⟨h', g', d', tk', os'⟩ := t
      obtain rfl : g' = s.gens := mv.gens
      obtain rfl : d' = s.drawn := mv.drawn
      obtain rfl : os' = s.os := mv.os
      show wpAny (model prog w) _ _ _ _ _
      refine wpAny_pure ?_
      show wpAny (model prog w) _ (ret Value.none) _ _ _
      refine wpAny_pure ⟨rfl, h', tk', rfl, hS, fun b o hb eb => mv.heap b o (by rw [lS]; simp only [List.mem_cons, List.not_mem_nil, or_false, not_or]; exact ⟨Nat.ne_of_lt hb, Nat.ne_of_lt (Nat.lt_succ_of_lt hb)⟩) (Heap.get?_push_of_some _ (Heap.get?_push_of_some _ eb))⟩
    · exact SetOf_congr ((PyProof.Rows.setObjOf_fresh (knd := PySem.strKind prog w) led).setOf (Heap.get?_push_of_some _ at') (by unfold scanBound; omega)) (fun z => by simp [upTo]) rfl
  · rcases r with e | fl
    · exact hr
    rcases fl with made | _ | _ | _
    rotate_left
    all_goals first | exact hr.elim | skip
    obtain ⟨rfl, h', tk, rfl, hS, keep⟩ := hr
    repeat (any_goals (first | assumption | wp_step))
    exact q _ _ hS keep
end
/-! ### len(set(xs)) -/
section
variable {X : Cx}
def tLenSetT (K : PySem.W.Frag) (ta : TE) : TE := fun σ H Q => ta σ H fun x H1 => ∃ (l : Addr) (xs : List Str), x = .ref l ∧ SqL K H1 l (xs.map V.str) ∧ xs.Nodup ∧ xs.length ≤ 4000 ∧ Q (.int (xs.length : Nat)) H1
theorem i_lenSetT {K : PySem.W.Frag} {ta : TE} {σ : L2.St} {H : Hp} {Q : VK} (q : ta σ H fun x H1 => ∃ (l : Addr) (xs : List Str), x = .ref l ∧ SqL K H1 l (xs.map V.str) ∧ xs.Nodup ∧ xs.length ≤ 4000 ∧ Q (.int (xs.length : Nat)) H1) : tLenSetT K ta σ H Q := q
theorem pe_lenSetT {a : Expr} {ta : TE} {p p2 q pos : Pos} (hg : Gl X "len") (hm : X.mg "len" = none) (hg2 : Gl X "set") (hm2 : X.mg "set" = none) (ha : PE X a ta) (hc : X.calm = true := by rfl)
    (na : starEach [a] X.env = (false, eval a X.env) :: starEach [] X.env := by rfl) : PE X (.Call (.Name "len" p) [.Call (.Name "set" p2) [a] [] q] [] pos) (tLenSetT X.K ta) :=
  ⟨fun pins s σ H Q I h => Call_ (ld_blt I hg hm boot_len (PyProof.Rows.callWith_builtin1 (PyProof.Rows.args_cons (Call_ (ld_blt I hg2 hm2 boot_set (PyProof.Rows.callWith_type1 (PyProof.Rows.args_cons
    (thn (ha.run pins s σ H _ I h) fun v s1 ⟨x, H1, I1, r1, q1⟩ => PyProof.Rows.args_nil (by
      obtain ⟨l, xs, rfl, hq, nd, few, q1⟩ := q1
      obtain rfl : v = Value.ref l := r1
      obtain ⟨its, r, pl, hz⟩ := I1.list hq
      refine set_of_texts (its := its.toArray) (I1.ok.hd hc) pl.isList (by simpa using strsAre_of r) nd few fun h' tk hS hk => PyProof.Rows.args_nil ?_
      obtain ⟨o, es, ep, t, ho, hex, hd, _, _, _, hf, hn⟩ := hS
      have I2 : Inv X pins σ H1 { s1 with heap := h', toks := tk } := I1.kept fun b o e => hk b o (Heap.lt_size e) e
      exact call_len_set ho hex hd hf (by rw [hn]; omega) ⟨.int (xs.length : Nat), H1, I2.tok _, ⟨_, by rw [hn]⟩, q1⟩)) na) na rfl))) rfl) rfl rfl))⟩
end
end L2

set_option Elab.async false
set_option linter.all false
set_option maxRecDepth 100000
set_option maxHeartbeats 3200000
/-! HXt: how many unlike texts a list has. -/
namespace LSU
open PySem PySem.Spec PyProof.Rows L2
section
variable {prog : Program} {w : World} {A : Around} {E : Value → Shared → Prop} {s : Shared}
/-- how many unlike ones the first i texts are -/
def cntU (xs : List Str) : Nat → Nat
  | 0 => 0
  | i + 1 => if upTo xs i (xs.getD i Str.empty) = true then cntU xs i else cntU xs i + 1
theorem cntU_le (xs : List Str) : ∀ i, cntU xs i ≤ i
  | 0 => Nat.le_refl _
  | i + 1 => by
    have := cntU_le xs i
    unfold cntU
    split <;> omega
theorem cntU_nd {xs : List Str} (nd : xs.Nodup) : cntU xs xs.length = xs.length := by
  have : ∀ i, i ≤ xs.length → cntU xs i = i := by
    intro i
    induction i with
    | zero => intro _; rfl
    | succ i ih =>
      intro h
      show (if upTo xs i (xs.getD i Str.empty) = true then cntU xs i else cntU xs i + 1) = i + 1
      rw [upTo_new nd (by omega), if_neg Bool.false_ne_true, ih (by omega)]
  exact this _ (Nat.le_refl _)
theorem cntU_lt {xs : List Str} (h : ¬ xs.Nodup) : cntU xs xs.length < xs.length := by
  have step : ∀ i j, i ≤ j → cntU xs i < i → cntU xs j < j := by
    intro i j hij hi
    induction j with
    | zero => omega
    | succ j ih =>
      by_cases e : i = j + 1
      · rw [← e]; exact hi
      · have := ih (by omega)
        unfold cntU
        split <;> omega
  have ⟨i, hi, hm⟩ : ∃ i, i < xs.length ∧ upTo xs i (xs.getD i Str.empty) = true := by
    refine Classical.byContradiction fun c => h ?_
    refine List.pairwise_iff_getElem.mpr fun i j hi hj hij e => c ⟨j, hj, ?_⟩
    have e2 : xs.getD j Str.empty = xs[j] := by rw [List.getD_eq_getElem?_getD, List.getElem?_eq_getElem hj]; rfl
    rw [e2, ← e]
    exact decide_eq_true (List.mem_take_iff_getElem.mpr ⟨i, by omega, rfl⟩)
  refine step (i + 1) xs.length hi ?_
  have := cntU_le xs i
  show (if upTo xs i (xs.getD i Str.empty) = true then cntU xs i else cntU xs i + 1) < i + 1
  rw [if_pos hm]
  omega
theorem texts_in {R : Result → Shared → Prop} {I T : Addr} {fp wr : List Addr} {G : Array GenState → Array GenState → Prop} {P : Nat → Value → Prop} {St : Nat → Shared → Prop} {xs : List Str}
    (W : WalksS prog w A.in1 I fp wr G xs.length P St) (apart : T ∉ fp) (few : xs.length ≤ 4000) (txt : ∀ i v, P i v → ∃ t, v = .str (xs.getD i Str.empty) t)
    (fin : ∀ s', Moved (T :: wr) G s s' → s'.heap.SetOf (PySem.strKind prog w) T (upTo xs xs.length) (cntU xs xs.length) → R (.ok (.ret .none)) s') (h0 : St 0 s) (hT : s.heap.SetOf (PySem.strKind prog w) T (upTo xs 0) 0) :
    codeAny (model prog w) A (.builtin "set.update.loop" ⟨[.ref T, .ref I], []⟩) R s := by
  have off : T ∉ wr := fun m => apart (W.sub _ m)
  have wide : ∀ b ∈ wr, b ∈ T :: wr := fun _ m => List.mem_cons_of_mem _ m
  have all : ∀ (left i : Nat) (s : Shared), i + left = xs.length → St i s → s.heap.SetOf (PySem.strKind prog w) T (upTo xs i) (cntU xs i) →
      (∀ s', Moved (T :: wr) G s s' → s'.heap.SetOf (PySem.strKind prog w) T (upTo xs xs.length) (cntU xs xs.length) → R (.ok (.ret .none)) s') → codeAny (model prog w) A (.builtin "set.update.loop" ⟨[.ref T, .ref I], []⟩) R s := by
    intro left
    induction left with
    | zero =>
      intro i s e hi hS q
      obtain rfl : i = xs.length := by omega
      refine codeAny_builtin PyProof.Rows.F.entry_set_update_loop (?_ : _)
      rw [Around.under_plainId PyProof.Rows.F.plain_set_update_loop _]
      show wpAny (model prog w) A.in1 (pyNext (.ref I) >>= _) _ _ s
      refine wpAny_bind (W.done s _ _ hi fun t mv => (wpAny_pure (q t (mv.mono wide) ?_) : wpAny (model prog w) A.in1 (ret Value.none) _ _ t))
      obtain ⟨o, es, ep, tb, ho, more⟩ := hS
      exact ⟨o, es, ep, tb, mv.heap T _ off ho, more⟩
    | succ left ih =>
      intro i s e hi hS q
      have lt : i < xs.length := by omega
      refine codeAny_builtin PyProof.Rows.F.entry_set_update_loop (?_ : _)
      rw [Around.under_plainId PyProof.Rows.F.plain_set_update_loop _]
      show wpAny (model prog w) A.in1 (pyNext (.ref I) >>= _) _ _ s
      refine wpAny_bind (W.item i s _ _ lt hi fun v t hv ht mv => ?_)
      obtain ⟨tk, rfl⟩ := txt i v hv
      have hS2 : t.heap.SetOf (PySem.strKind prog w) T (upTo xs i) (cntU xs i) := by
        obtain ⟨o, es, ep, tb, ho, more⟩ := hS
        exact ⟨o, es, ep, tb, mv.heap T _ off ho, more⟩
      generalize ez : xs.getD i Str.empty = z
      show wpAny (model prog w) A.in1 (holding [Value.str z tk] (setAdd T (.str z tk)) >>= _) _ _ t
      refine wpAny_bind (wpAny_holding (?_ : _))
      unfold setAdd
      refine wpAny_holding (wpAny_bind ((PySem.strKind prog w).pyHash (k := z) (strKind_is _ _ _ _) ?_))
      refine wpAny_setAddHashed_of (knd := PySem.strKind prog w) (s := { t with toks := t.toks + 1 }) (strKind_is _ _ _ _) rfl hS2 (by have := cntU_le xs i; unfold scanBound; omega) fun h2 but hS3 => ?_
      have hS4 : h2.SetOf (PySem.strKind prog w) T (upTo xs (i + 1)) (cntU xs (i + 1)) := SetOf_congr hS3 (fun y => by rw [← upTo_next lt, ez]) (by show _ = (if upTo xs i (xs.getD i Str.empty) = true then cntU xs i else cntU xs i + 1); rw [ez])
      refine wpAny_pure ⟨plainId_quiet PyProof.Rows.F.plain_set_update_loop _, ih (i + 1) _ (by omega) (W.frame _ t _ _ ht (Nat.le_succ _) fun b hb o eb => (but.2 b (fun c => apart (c ▸ hb))).trans eb) hS4 fun t2 mv2 hS5 => ?_⟩
      exact q t2 (Moved.trans W.gtrans ((mv.mono wide).then_heap (Nat.le_succ _) fun b o hb eb => (but.2 b (fun c => hb (c ▸ List.mem_cons_self))).trans eb) mv2) hS5
  exact all xs.length 0 s (Nat.zero_add _) h0 hT fin
/-- an empty set, as it is made -/
abbrev emptyS (led : Bool) : Obj := { cls := .type "set", dict := none, data := .set #[] 0 (.fresh 0 0 led) }
/-- the set of a list of unlike texts -/
theorem set_of_texts {l : Addr} {its : Array Value} {xs : List Str} {Q : Value → Shared → Prop} (calm : A.handled = none) (hl : s.heap.IsList l its) (ht : StrsAre its.toList xs) (few : xs.length ≤ 4000)
    (q : ∀ (h' : Heap) (tk : Nat), h'.SetOf (PySem.strKind prog w) s.heap.objs.size (upTo xs xs.length) (cntU xs xs.length) → (∀ b o, b < s.heap.objs.size → s.heap.get? b = some o → h'.get? b = some o) → Q (.ref s.heap.objs.size) { s with heap := h', toks := tk }) :
    wpAny (model prog w) A (call (.type "set") [.ref l]) Q E s := by
  have size : its.size = xs.length := by rw [← StrsAre.len_eq ht, Array.length_toList]
  obtain ⟨c, tl, m1⟩ := PySem.F.called_set.mro
  have m2 := PySem.F.called_set.made
  have m3 := PySem.F.called_set.sub
  refine wpAny_call (codeAny_of_tree (?_ : wpAny _ _ (callAny (.type "set") _) _ _ _))
  refine wpAny_pure ⟨Code.quiet_builtin _ (by decide +kernel), codeAny_builtin PySem.F.entry_type_call (?_ : _)⟩
  rw [Around.under_plain (weight_type_call_type "set" [.ref l] []) rfl]
  have m4 := PySem.F.called_set.notType
  have m5 := PySem.F.called_set.canCreate
  have m6 := PySem.F.typeCall_set_1 (.ref l)
  repeat (any_goals (first | assumption | wp_step))
  refine codeAny_mono (code_set_new_1 (.ref l) (E := E) (Q₁ := fun made t => ∃ led : Bool, made = .ref s.heap.objs.size ∧ t = { s with heap := s.heap.push (emptyS led) }) fun led => ⟨led, rfl, rfl⟩) fun r t hr => ?_
  rcases r with e | fl
  · exact hr
  rcases fl with made | _ | _ | _
  rotate_left
  all_goals first | exact hr.elim | skip
  obtain ⟨led, rfl, rfl⟩ := hr
  have at' : (s.heap.push (emptyS led)).get? s.heap.objs.size = some (emptyS led) := Heap.get?_push_size _ rfl
  have ty : Shared.TypeIs { s with heap := s.heap.push (emptyS led) } (.ref s.heap.objs.size) "set" := ⟨_, at', rfl⟩
  have m7 := PySem.F.called_set.init.lookup
  have m8 := PySem.F.called_set.init.bind (.ref s.heap.objs.size)
  repeat (any_goals (first | assumption | wp_step))
  refine codeAny_mono (codeAny_call_builtin (R := wants (fun r t => r = .none ∧ ∃ h' tk, t = { s with heap := h', toks := tk } ∧ h'.SetOf (PySem.strKind prog w) s.heap.objs.size (upTo xs xs.length) (cntU xs xs.length) ∧
      (∀ b o, b < s.heap.objs.size → s.heap.get? b = some o → h'.get? b = some o)) E) PySem.F.called_set.init.plain PySem.F.entry_set_init (check_set_init_1 ty (?_ : _))) fun r t hr => ?_
  · obtain ⟨⟨oc, od, oda, os⟩, ho, hc, n, hd⟩ := hl
    dsimp only at hc hd
    subst hc hd
    have ho2 : (s.heap.push (emptyS led)).get? l = some { cls := .type "list", dict := od, data := .seq its n, slots := os } := Heap.get?_push_of_some _ ho
    have n1 := PySem.F.sub_list_set
    have n2 := PySem.F.sub_list_frozenset
    have n3 : (Value.type "list" == Value.type "dict") = false := by decide
    have hl1 : (s.heap.push (emptyS led)).IsList l its := ⟨_, ho2, rfl, n, rfl⟩
    unfold Builtin.«set.__init__» noKeywords Builtin.Frozenset.updateFrom
    generalize ep : pyIter = pit
    wp_walk
    subst ep
    have lt : l < s.heap.objs.size := Heap.lt_size ho
    have lS : (s.heap.push (emptyS led)).objs.size = s.heap.objs.size + 1 := Heap.size_push ..
    refine wpAny_pyIter_list hl1 (wpAny_bind (wpAny_runValue ?_))
    have key : ∀ (i : Nat) (v : Value), its[i]? = some v → ∃ t, v = .str (xs.getD i Str.empty) t := fun i v hv => SS.strs_at ht i v (by rw [Array.getElem?_toList]; exact hv)
    have walk := (Walks.list (prog := prog) (w := w) (A := A.in1.in1.in1) (by simp [calm]) (s.heap.push (emptyS led)).objs.size l (by rw [lS]; exact Nat.ne_of_lt (Nat.lt_succ_of_lt lt)) its).toS
    rw [size] at walk
    refine texts_in walk (by rw [lS]; simp only [List.mem_cons, List.not_mem_nil, or_false, not_or]; exact ⟨Nat.ne_of_lt (Nat.lt_succ_self _), Nat.ne_of_gt lt⟩) few key (fun t mv hS => ?_) ⟨⟨_, Heap.get?_push_size _ rfl, rfl, rfl⟩, hl1.push _⟩ ?_
    · obtain ⟨h', g', d', tk', os'⟩ := t
      obtain rfl : g' = s.gens := mv.gens
      obtain rfl : d' = s.drawn := mv.drawn
      obtain rfl : os' = s.os := mv.os
      show wpAny (model prog w) _ _ _ _ _
      refine wpAny_pure ?_
      show wpAny (model prog w) _ (ret Value.none) _ _ _
      refine wpAny_pure ⟨rfl, h', tk', rfl, hS, fun b o hb eb => mv.heap b o (by rw [lS]; simp only [List.mem_cons, List.not_mem_nil, or_false, not_or]; exact ⟨Nat.ne_of_lt hb, Nat.ne_of_lt (Nat.lt_succ_of_lt hb)⟩) (Heap.get?_push_of_some _ (Heap.get?_push_of_some _ eb))⟩
    · exact SetOf_congr ((PyProof.Rows.setObjOf_fresh (knd := PySem.strKind prog w) led).setOf (Heap.get?_push_of_some _ at') (by unfold scanBound; omega)) (fun z => by simp [L2.upTo]) rfl
  · rcases r with e | fl
    · exact hr
    rcases fl with made | _ | _ | _
    rotate_left
    all_goals first | exact hr.elim | skip
    obtain ⟨rfl, h', tk, rfl, hS, keep⟩ := hr
    repeat (any_goals (first | assumption | wp_step))
    exact q _ _ hS keep
end
/-! ### len(set(xs)) -/
section
variable {X : Cx}
def kLenU (K : PySem.W.Frag) (Q : VK) : VK := fun x H1 => ∃ (l : Addr) (xs : List Str), x = .ref l ∧ SqL K H1 l (xs.map V.str) ∧ xs.length ≤ 4000 ∧ Q (.int (cntU xs xs.length : Nat)) H1
def tLenU (K : PySem.W.Frag) (ta : TE) : TE := fun σ H Q => ta σ H (kLenU K Q)
theorem i_lenU {K : PySem.W.Frag} {ta : TE} {σ : L2.St} {H : Hp} {Q : VK} (q : ta σ H (kLenU K Q)) : tLenU K ta σ H Q := q
theorem i_kLenU {K : PySem.W.Frag} {H : Hp} {Q : VK} {l : Addr} {xs : List Str} (h : SqL K H l (xs.map V.str)) (c : xs.length ≤ 4000) (q : Q (.int (cntU xs xs.length : Nat)) H) : kLenU K Q (.ref l) H := ⟨l, xs, rfl, h, c, q⟩
theorem pe_lenU {a : Expr} {ta : TE} {p p2 q pos : Pos} (hg : Gl X "len") (hm : X.mg "len" = none) (hg2 : Gl X "set") (hm2 : X.mg "set" = none) (ha : PE X a ta) (hc : X.calm = true := by rfl)
    (na : starEach [a] X.env = (false, eval a X.env) :: starEach [] X.env := by rfl) : PE X (.Call (.Name "len" p) [.Call (.Name "set" p2) [a] [] q] [] pos) (tLenU X.K ta) :=
  ⟨fun pins s σ H Q I h => Call_ (ld_blt I hg hm boot_len (PyProof.Rows.callWith_builtin1 (PyProof.Rows.args_cons (Call_ (ld_blt I hg2 hm2 boot_set (PyProof.Rows.callWith_type1 (PyProof.Rows.args_cons
    (thn (ha.run pins s σ H _ I h) fun v s1 ⟨x, H1, I1, r1, q1⟩ => PyProof.Rows.args_nil (by
      obtain ⟨l, xs, rfl, hq, few, q1⟩ := q1
      obtain rfl : v = Value.ref l := r1
      obtain ⟨its, r, pl, hz⟩ := I1.list hq
      refine set_of_texts (its := its.toArray) (I1.ok.hd hc) pl.isList (by simpa using strsAre_of r) few fun h' tk hS hk => PyProof.Rows.args_nil ?_
      obtain ⟨o, es, ep, t, ho, hex, hd, _, _, _, hf, hn⟩ := hS
      have I2 : Inv X pins σ H1 { s1 with heap := h', toks := tk } := I1.kept fun b o e => hk b o (Heap.lt_size e) e
      have cl := cntU_le xs xs.length
      exact call_len_set ho hex hd hf (by rw [hn]; omega) ⟨.int (cntU xs xs.length : Nat), H1, I2.tok _, ⟨_, by rw [hn]⟩, q1⟩)) na) na rfl))) rfl) rfl rfl))⟩
end
end LSU

/-! HXb: the head's facts over a part of the heap that is collected with a number of bits for what is seen (no list is searched for doubles), the statics' names with it. -/
namespace He
open PySem PySem.Spec PyProof.Rows L2
/-- those not seen yet, seen from now on -/
def newB {α : Type} : List Addr → Nat → List Addr → (Nat → List Addr → α) → α
  | [], v, acc, k => k v acc
  | a :: r, v, acc, k => HandSHeadRun.frNat a fun a => match Nat.beq (Nat.land (Nat.shiftRight v a) 1) 0 with
    | true => HandSHeadRun.frNat (Nat.lor v (Nat.shiftLeft 1 a)) fun v => newB r v (a :: acc) k
    | false => newB r v acc k
def refsAt (g : Addr → Option Obj) (a : Addr) : List Addr := match g a with
  | some o => refsD o
  | none => []
/-- every one that the list names, n steps on -/
def asB (g : Addr → Option Obj) : Nat → Nat → List Addr → List Addr → List Addr
  | 0, _, _, all => all
  | n + 1, v, now, all => newB (now.flatMap (refsAt g)) v [] fun v l => asB g n v l.reverse (all ++ l.reverse)
def obsBG (n : Nat) (ex : PySem.W.Frag → Bool) (fa : List Fa) (fn : List DefD) (g : Addr → Option Obj) : AlD := obsX ex fa fn (frG g (asB g n (Nat.shiftLeft 1 mainGlobals) [mainGlobals] [mainGlobals] ++ [cStatics]))
def hookB (n : Nat) (ex : PySem.W.Frag → Bool) (fa : List Fa) (fn : List DefD) : PySem.W.Hook where
  α := AlD
  obs := fun s => obsBG n ex fa fn s.heap.get?
  val := fun _ => valD fn
  says := fun _ h => ∃ K : PySem.W.Frag, K.In h ∧ SaysX ex fa fn K
  of := fun _ _ e => ⟨_, frG_in, e⟩
  keeps := fun _ _ _ ⟨K, hK, c⟩ k => ⟨K, PySem.W.Frag.In.keeps hK k, c⟩
theorem obsBG_eq {n : Nat} {ex : PySem.W.Frag → Bool} {fa : List Fa} {fn : List DefD} {g : Addr → Option Obj} {s : Shared} (h : ∀ a, g a = s.heap.get? a) : obsBG n ex fa fn g = (hookB n ex fa fn).obs s := by
  have e : g = s.heap.get? := funext h
  rw [e] <;> rfl
end He

set_option Elab.async false
set_option linter.all false
set_option maxRecDepth 100000
set_option maxHeartbeats 2000000
/-! HXkd: the head's facts (HXb) with dicts of the module whose keys are texts; what stands at a key, what isn't there. -/
namespace He
open PySem PySem.Spec PyProof.Rows L2
abbrev AlW : Type := AlD × List (Option (List (Option (Str × Int))))
def obsW (ex : PySem.W.Frag → Bool) (fa : List Fa) (fn : List DefD) (ts : List Tab) (K : PySem.W.Frag) : AlW := (obsX ex fa fn K, ts.map fun t => dicW K (t.1 K))
def valW (fn : List DefD) (ts : List Tab) (w : World) : AlW := (valD fn, ts.map fun t => some (keysIn w.params t.2))
def obsWG (n : Nat) (ex : PySem.W.Frag → Bool) (fa : List Fa) (fn : List DefD) (ts : List Tab) (g : Addr → Option Obj) : AlW := obsW ex fa fn ts (frG g (asB g n (Nat.shiftLeft 1 mainGlobals) [mainGlobals] [mainGlobals] ++ [cStatics]))
def SaysW (ex : PySem.W.Frag → Bool) (fa : List Fa) (fn : List DefD) (ts : List Tab) (w : World) (K : PySem.W.Frag) : Prop := obsW ex fa fn ts K = valW fn ts w
def hookW (n : Nat) (ex : PySem.W.Frag → Bool) (fa : List Fa) (fn : List DefD) (ts : List Tab) : PySem.W.Hook where
  α := AlW
  obs := fun s => obsWG n ex fa fn ts s.heap.get?
  val := fun w => valW fn ts w
  says := fun w h => ∃ K : PySem.W.Frag, K.In h ∧ SaysW ex fa fn ts w K
  of := fun _ _ e => ⟨_, frG_in, e⟩
  keeps := fun _ _ _ ⟨K, hK, c⟩ k => ⟨K, PySem.W.Frag.In.keeps hK k, c⟩
theorem obsWG_eq {n : Nat} {ex : PySem.W.Frag → Bool} {fa : List Fa} {fn : List DefD} {ts : List Tab} {g : Addr → Option Obj} {s : Shared} (h : ∀ a, g a = s.heap.get? a) : obsWG n ex fa fn ts g = (hookW n ex fa fn ts).obs s := by
  have e : g = s.heap.get? := funext h
  rw [e] <;> rfl
section
variable {ex : PySem.W.Frag → Bool} {fa : List Fa} {fn : List DefD} {ts : List Tab} {w : World} {K : PySem.W.Frag}
theorem SaysW.x (c : SaysW ex fa fn ts w K) : SaysX ex fa fn K := congrArg (fun z : AlW => z.1) c
theorem SaysW.keys (c : SaysW ex fa fn ts w K) (i : Nat) {t : Tab} (h : ts[i]? = some t := by rfl) : dicW K (t.1 K) = some (keysIn w.params t.2) := by
  have e : ts.map (fun t => dicW K (t.1 K)) = ts.map fun t => some (keysIn w.params t.2) := congrArg (fun z : AlW => z.2) c
  have e2 : (ts.map fun t => dicW K (t.1 K))[i]? = (ts.map fun t => some (keysIn w.params t.2))[i]? := by rw [e]
  rw [List.getElem?_map, List.getElem?_map, h] at e2
  exact Option.some.inj e2
end
/-! ### what a table holds -/
/-- a table with these keys, these values at them -/
structure KTab (K : PySem.W.Frag) (w : World) (d : Addr) (kvs : List (Str × Dv)) : Prop where
  dict : ∃ es n, KDict K w d es n
  at_ : ∀ z v, (z, v) ∈ kvs → ∃ u, PySem.W.nsIn K d z = some (some u) ∧ RelV (v.v K) u
  no : ∀ z, z ∉ kvs.map (·.1) → PySem.W.nsIn K d z = some none
theorem find_no {l : List DictEntry} {P : Params} : ∀ {l : List DictEntry} {ks : List Str} {z : Str}, l.map keyOf = keysIn P ks → z ∉ ks → l.find? (·.key.isStr z) = none ∧ l.any (·.refKey) = false
  | [], _, _, _, _ => ⟨rfl, rfl⟩
  | e :: r, [], _, h, _ => by cases h
  | e :: r, k :: ks, z, h, hz => by
    have h1 : keyOf e :: r.map keyOf = some (k, PyData.keyHash P k) :: keysIn P ks := h
    injection h1 with h2 h3
    obtain ⟨i1, i2⟩ := find_no (l := []) h3 (fun m => hz (List.mem_cons_of_mem _ m))
    unfold keyOf at h2
    split at h2
    · rename_i x t q
      have h4 := Option.some.inj h2
      obtain ⟨h5, h6⟩ := Prod.mk.inj h4
      have hne : x ≠ z := fun c => hz (by rw [← c, h5]; exact List.mem_cons_self)
      have e1 : e.key.isStr z = false := by
        rw [q]
        show (x == z) = false
        exact beq_eq_false_iff_ne.mpr hne
      refine ⟨?_, ?_⟩
      · rw [List.find?_cons, e1]
        exact i1
      · rw [List.any_cons, i2, Bool.or_false]
        unfold DictEntry.refKey
        rw [q]
    · cases h2
theorem ktab_ok {K : PySem.W.Frag} {w : World} {d : Addr} {kvs : List (Str × Dv)} (h : dicW K d = some (keysIn w.params (kvs.map (·.1)))) (hv : valsB K d kvs = true) : KTab K w d kvs := by
  obtain ⟨es, n, D⟩ := dicW_ok h
  refine ⟨⟨es, n, D⟩, fun z v hm => valsB_ok hv hm, fun z hz => ?_⟩
  have h2 : es.toList.map keyOf = keysIn w.params (kvs.map (·.1)) := by
    unfold dicW at h
    rw [D.at_] at h
    have h1 : (match decide (("dict" : String) = "dict") && ((#[] : Array Value).isEmpty && !(d == sysModules)) with
      | true => some (es.toList.map keyOf)
      | false => none) = some (keysIn w.params (kvs.map (·.1))) := h
    rw [D.low] at h1
    exact Option.some.inj h1
  obtain ⟨f1, f2⟩ := find_no (l := []) h2 hz
  unfold PySem.W.nsIn
  rw [D.at_]
  show (match es.toList.find? (·.key.isStr z) with
      | some e => some (some e.val)
      | none => if es.toList.any (·.refKey) then none else some none) = _
  rw [f1, f2]
  rfl
/-! ### the world's word on one row of the text, told apart -/
def wT (w : World) (b : Bool) : World := { w with params := { w.params with followText := fun s => cond (s == "special-get-raises") b (w.params.followText s) } }
theorem wT_eq (w : World) : wT w (w.params.followText "special-get-raises") = w := by
  have e : (fun s => cond (s == "special-get-raises") (w.params.followText "special-get-raises") (w.params.followText s)) = w.params.followText := by
    funext s
    cases c : s == "special-get-raises" with
    | false => rfl
    | true =>
      rw [eq_of_beq c]
      rfl
  unfold wT
  rw [e]
theorem wT_all {C : World → Prop} (h0 : ∀ w, C (wT w false)) (h1 : ∀ w, C (wT w true)) (w : World) : C w := by
  rw [← wT_eq w]
  cases w.params.followText "special-get-raises" with
  | false => exact h0 w
  | true => exact h1 w
end He
namespace KDX
open PySem PySem.Spec PyProof.Rows L2
/-- x not in the module's table -/
def rNotInK (K : PySem.W.Frag) (w : World) (d : Addr) : R2 := fun x y H Q => ∃ (z : Str) (kvs : List (Str × He.Dv)), x = .str z ∧ y = .ref d ∧ He.KTab K w d kvs ∧ Q (.bl (!decide (z ∈ kvs.map (·.1)))) H
/-- the module's table at a key -/
def rAtK (K : PySem.W.Frag) (w : World) (d : Addr) : R2 := fun x y H Q => ∃ (z : Str) (kvs : List (Str × He.Dv)) (v : He.Dv), x = .ref d ∧ y = .str z ∧ He.KTab K w d kvs ∧ (z, v) ∈ kvs ∧ Q (v.v K) H
section
variable {X : Cx} {d : Addr}
theorem op_notInK (h : ∃ es n, KDict X.K X.w d es n) : OpR X (compareOp .NotIn) (rNotInK X.K X.w d) := by
  obtain ⟨es, n, D⟩ := h
  intro pins s σ H x y v u Q I rx ry h
  obtain ⟨z, kvs, rfl, rfl, T, q⟩ := h
  by_cases c : z ∈ kvs.map (·.1)
  · obtain ⟨⟨z', v'⟩, hm, rfl⟩ := List.mem_map.mp c
    obtain ⟨u0, e, _⟩ := T.at_ z' v' hm
    refine op_notIn_kd D pins s σ H _ _ v u Q I rx ry ⟨_, some u0, rfl, rfl, e, ?_⟩
    rw [decide_eq_true c] at q
    exact q
  · refine op_notIn_kd D pins s σ H _ _ v u Q I rx ry ⟨_, none, rfl, rfl, T.no z c, ?_⟩
    rw [decide_eq_false c] at q
    exact q
theorem ix_atK : IxR X (rAtK X.K X.w d) := by
  intro value slice pins s σ H x y v u Q I rx ry h hs
  obtain ⟨z, kvs, v0, rfl, rfl, T, hm, q⟩ := h
  obtain ⟨es, n, D⟩ := T.dict
  obtain ⟨u0, e, r⟩ := T.at_ z v0 hm
  exact ix_kdict value slice pins s σ H _ _ v u Q I rx ry ⟨d, z, _, rfl, rfl, ⟨es, n, u0, D.at_, D.lit, e, r⟩, q⟩ hs
end
end KDX

set_option Elab.async false
set_option linter.all false
set_option maxRecDepth 100000
set_option maxHeartbeats 2000000
/-! HXcl: classes that share methods: making C(), where __init__ is object's; C(*xs); o.m() by the object's own class. -/
namespace CLX
open PySem PySem.Spec PyProof.Rows L2
/-- what a class without an own __init__ must have to be made -/
structure Mk0 (K : PySem.W.Frag) (C : Addr) : Prop where
  makes : PySem.W.makesIn K C = true
  init : PySem.W.findIn K (.ref C) "__init__" = some (some (.builtin "object.__init__"))
  top : PySem.W.mroIn K C (.type "object") = some true
  kp : PySem.W.keepIn K (.ref C) = true
def mk0B (K : PySem.W.Frag) (C : Addr) : Bool := PySem.W.makesIn K C && (He.eqO (PySem.W.findIn K (.ref C) "__init__") (some (some (.builtin "object.__init__"))) && (decide (PySem.W.mroIn K C (.type "object") = some true) && PySem.W.keepIn K (.ref C)))
theorem mk0_ok {K : PySem.W.Frag} {C : Addr} (h : mk0B K C = true) : Mk0 K C := by
  unfold mk0B at h
  simp only [Bool.and_eq_true, decide_eq_true_eq] at h
  exact ⟨h.1, He.eqO_ok h.2.1, h.2.2.1, h.2.2.2⟩
section
variable {X : Cx} {pins : List (Addr × Obj)} {σ : L2.St} {H : Hp} {s : Shared} {C : Addr} {Q : VK}
theorem run_mk0 (M : Mk0 X.K C) (I : Inv X pins σ H s) (h : ∀ x dx, H x = Option.none → H dx = Option.none → dx ≠ x → Q (.ref x) (upd (upd H dx (.own x)) x (.ins C dx []))) :
    wpAny (model X.prog X.w) X.A (call (.ref C) []) (EP X pins σ Q) X.xe s := by
  have hq := h (s.heap.objs.size + 1) s.heap.objs.size (I.hok.fresh (Nat.le_succ _)) (I.hok.fresh (Nat.le_refl _)) (Nat.ne_of_lt (Nat.lt_succ_self _))
  have I2 := Inv.made (C := C) I
  have ho : ((s.heap.push PySem.W.emptyDict).push (PySem.W.instObj C s.heap.objs.size)).get? (s.heap.objs.size + 1) = some (PySem.W.instObj C s.heap.objs.size) := by
    have := Heap.get?_push_size (s.heap.push PySem.W.emptyDict) (o := PySem.W.instObj C s.heap.objs.size) rfl
    rwa [Heap.size_push] at this
  have t1 : PySem.W.Looks (model X.prog X.w) ((s.heap.push PySem.W.emptyDict).push (PySem.W.instObj C s.heap.objs.size)) (typeOf (.ref (s.heap.objs.size + 1))) (.ref C) := NwA.type_at ho rfl
  have t2 : PySem.W.Looks (model X.prog X.w) ((s.heap.push PySem.W.emptyDict).push (PySem.W.instObj C s.heap.objs.size)) (isInstance (.ref (s.heap.objs.size + 1)) (.type "object")) true := t1.andThen (PySem.W.looks_mroIn I2.kIn M.top)
  refine wpAny_call (make_map0 I.kIn M.makes M.init (fun self => PySem.W.Looks.of_pure (PySem.W.oi_bind self)) ?_)
  refine codeAny_call_builtin PySem.W.oi_plain PySem.W.entry_oi (@PySem.W.check_slot (model X.prog X.w) _ _ _ "object.__init__" "object" "__init__" (.ref (s.heap.objs.size + 1)) [] [] _ PySem.W.oi_kind PySem.W.oi_split t2 (NwA.oi_args_any _ [] []) ?_)
  rw [PySem.W.oi_run]
  exact wpAny_pure (And.intro rfl ⟨V.ref (s.heap.objs.size + 1), _, I2, rfl, hq⟩)
end
def tMk0 (C : Addr) : TE := fun _ H Q => ∀ x dx, H x = Option.none → H dx = Option.none → dx ≠ x → Q (.ref x) (upd (upd H dx (.own x)) x (.ins C dx []))
section
variable {X : Cx} {CX : CXT} {k : Nat} {f C : Addr} {sp : Sp} {E : XK} {x m : Str} {e o : PySem.Expr} {te ta : TE} {p sp_ pos apos : Pos}
/-- C() -/
theorem pe_mk0 (M : Mk0 X.K C) (hg : Gl X x) (hm : X.mg x = some (.ref C)) (hdb : (x == ("__debug__" : Str)) = false := by decide) : PE X (.Call (.Name x p) [] [] pos) (tMk0 C) := by
  refine ⟨fun pins s σ H Q I h => ?_⟩
  refine wpAny_Call_Name_kw (ld_glob I hg hm ?_ hdb)
  exact PySem.W.callWith_K0 I.kIn M.kp (run_mk0 M I h)
/-- C(*xs) -/
def tMakeS (K : PySem.W.Frag) (C : Addr) (sp : Sp) (E : XK) (te : TE) : TE := fun σ H Q => te σ H fun y H1 => ∃ (a : Addr) (xs : List V), y = V.ref a ∧ (SqT K H1 a xs ∨ SqL K H1 a xs) ∧ ∀ x dx, H1 x = Option.none → H1 dx = Option.none → dx ≠ x →
  sp (V.ref x :: xs) (upd (upd H1 dx (.own x)) x (.ins C dx [])) (fun v H2 => v = .non ∧ Q (.ref x) H2) E
theorem pe_makeS (M : Mk X.K C f) (F : FnR X.prog X.w X.K X.mg X.base CX k f sp) (hr : Room (k + 1) X.A) (hg : Gl X x) (hm : X.mg x = some (.ref C)) (hx : Passes CX X E) (he : PE X e te) (hd : (x == ("__debug__" : Str)) = false := by decide)
    (hst : starEach [.Starred e sp_] X.env = [(true, eval e X.env)] := by rfl) : PE X (.Call (.Name x p) [.Starred e sp_] [] pos) (tMakeS X.K C sp E te) := by
  refine ⟨fun pins s σ H Q I h => ?_⟩
  refine wpAny_Call_Name_kw (ld_glob I hg hm ?_ hd)
  refine PySem.W.callWith_S (h₀ := X.base) I.ok.mod.kin M.kp (thn (he.run pins s σ H _ I h) fun v s1 ⟨y, H1, I1, ry, a, xs, ey, hxs, q⟩ => ?_) hst
  subst ey
  obtain rfl : v = Value.ref a := ry
  exact StX.star_any I1 hxs fun us s2 I2 rv => ⟨I2.kIn, StX.run_makeR M F hr hx I2 rv q⟩
/-- o.m(), by the object's own class -/
def tDyn0 (P : Program) (w : World) (K : PySem.W.Frag) (mg : Str → Option Value) (base : Heap) (CX : CXT) (n : Nat) (m : Str) (E : XK) (ta : TE) : TE := fun σ H Q => ta σ H fun x H1 => ∃ (a C dx f : Addr) (fs : List (Str × V)) (fd : FuncData) (ps : List Str) (sp : Sp) (k : Nat),
  x = .ref a ∧ H1 a = some (.ins C dx fs) ∧ Cls K C ∧ Meth K C m f ∧ fs.lookup m = Option.none ∧ FnOk P w K mg base CX k f fd ps sp ∧ k ≤ n ∧ Binds K fd ps [] ∧ sp [x] H1 Q E
theorem pe_dyn0 {n : Nat} {pl : Sem Bool} (he : PE X o ta) (hr : Room n X.A) (hx : Passes CX X E)
    (ht : eval (.Call (.Attribute o m apos) [] [] pos) X.env = (do
      let ov ← eval o X.env
      standAt apos.atName
      let (f, first) ← holding [ov] (getMethod ov m pl)
      callWith pos f first (backTo pos (starEach [] X.env)) (backToKw pos (keywordEach [] X.env))) := by rfl) :
    PE X (.Call (.Attribute o m apos) [] [] pos) (tDyn0 X.prog X.w X.K X.mg X.base CX n m E ta) := by
  refine ⟨fun pins s σ H Q I h => ?_⟩
  refine PySem.W.methodCall_KW (pl := pl) (thn (he.run pins s σ H _ I h) fun u s1 ⟨x, H1, I1, rx, a, C, dx, f, fs, fd, ps, sp, k, ex, ea, c, hm, l, F, kn, hb, q⟩ => ?_) ht
  subst ex
  obtain rfl : u = Value.ref a := rx
  refine getmeth_ok I1 ea c hm l ?_
  exact PySem.W.callWith_K0 (first := [.ref a]) I1.kIn hm.kp (run_fn (us := [.ref a]) (vs := [.ref a]) F (hr.mono kn) hb .nil hx I1 (.cons rfl .nil) q)
end
end CLX

set_option Elab.async false
set_option linter.all false
set_option maxRecDepth 100000
set_option maxHeartbeats 2000000
/-! HXma: match over a text (cases that are texts, and _). -/
namespace MAX
open PySem PySem.Spec PyProof.Rows L2
/-- the cases of a match, the subject's value known -/
structure PM (X : Cx) (cs : List MatchCase) (t : V → TS) : Prop where
  run : ∀ (pins : List (Addr × Obj)) (s : Shared) (σ : L2.St) (H : Hp) (D : Ends) (v : V) (u : Value) (first : Bool), Inv X pins σ H s → RelV v u → t v D σ H →
    wpAny (model X.prog X.w) X.A (matchCases cs X.env u first) (SP X pins D) X.xe s
def mNil : V → TS := fun _ D σ H => D.nx σ H
def mStr (z : Str) (tb : TS) (tr : V → TS) : V → TS := fun v D σ H => ∃ y : Str, v = .str y ∧ if decide (y = z) = true then tb D σ H else tr v D σ H
def mAny (tb : TS) : V → TS := fun _ D σ H => tb D σ H
def tMatch (te : TE) (tm : V → TS) : TS := fun D σ H => te σ H fun v H1 => tm v D σ H1
section
variable {X : Cx} {subject : PySem.Expr} {cs : List MatchCase} {body : List Stmt} {pos p1 p2 : Pos} {kk : Nat} {te : TE} {tm tr : V → TS} {tb : TS} {z : Str}
theorem pm_nil : PM X [] mNil := ⟨fun pins s σ H D v u first I r h => wpAny_matchCases_nil ⟨σ, H, I, h⟩⟩
theorem pm_any (hb : PSs X body tb) : PM X (⟨.MatchAs none none p1, none, body⟩ :: cs) (mAny tb) := by
  refine ⟨fun pins s σ H D v u first I r h => ?_⟩
  refine wpAny_matchCases_cons (wpAny_matchPattern_Capture ?_)
  show wpAny _ _ (assignInOrder [] []) _ _ _
  refine wpAny_pure ?_
  exact hb.run pins s σ H D I h
theorem pm_str (hb : PSs X body tb) (hr : PM X cs tr) (he : PE X (.Constant (.str z) kk p2) (tC (.str z)) := by exact pe_str) :
    PM X (⟨.MatchValue (.Constant (.str z) kk p2) p1, none, body⟩ :: cs) (mStr z tb tr) := by
  refine ⟨fun pins s σ H D v u first I r h => ?_⟩
  obtain ⟨y, rfl, h⟩ := h
  refine wpAny_matchCases_cons (wpAny_matchPattern_Value (thn (he.run pins s σ H (fun x H1 => x = .str z ∧ H1 = H) I ⟨rfl, rfl⟩) fun u2 s2 ⟨x, H1, I1, r1, ex, eh⟩ => ?_))
  subst ex eh
  refine thn (op_eq pins s2 σ H1 (.str y) (.str z) u u2 (fun v H2 => v = .bl (decide (y = z)) ∧ H2 = H1) I1 r r1 (HX.i_rEqS ⟨rfl, rfl⟩)) fun u3 s3 ⟨x3, H3, I3, r3, ex3, eh3⟩ => ?_
  subst ex3 eh3
  obtain rfl : u3 = Value.bool (decide (y = z)) := r3
  refine wpAny_truthy_bool ?_
  cases hb2 : decide (y = z) with
  | true =>
    rw [hb2] at h
    show wpAny _ _ (assignInOrder [] []) _ _ _
    exact wpAny_pure (hb.run pins s3 σ H3 D I3 h)
  | false =>
    rw [hb2] at h
    exact hr.run pins s3 σ H3 D (.str y) u false I3 r h
theorem ps_match (he : PE X subject te) (hm : PM X cs tm) : PS X (.Match subject cs pos) (tMatch te tm) := by
  refine ⟨fun pins s σ H D I h => ?_⟩
  refine wpAny_Match (thn (he.run pins s σ H _ I h) fun u s1 ⟨v, H1, I1, r1, q⟩ => ?_)
  exact hm.run pins s1 σ H1 D v u true I1 r1 q
end
end MAX

set_option Elab.async false
set_option linter.all false
set_option maxRecDepth 100000
set_option maxHeartbeats 4000000
namespace K25
open PySem PySem.Spec PyProof.Rows L2 HX
def top (i : Nat) : Stmt := PySem.Challenge.pw_reachbook_k25_questions_as_texts.main.body.getD i (.Pass ⟨0, 0, 0, 0⟩)
abbrev s_has_only : Stmt := (top 8)
abbrev N_has_only : List Str := ["text", "signs", "sign"]
theorem sc_has_only : FnScope N_has_only ["text", "signs"] (defScope s_has_only) := ⟨rfl, rfl, rfl, by decide +kernel, rfl, by decide +kernel, by decide +kernel⟩
abbrev s_is_name : Stmt := (top 9)
abbrev N_is_name : List Str := ["thing"]
theorem sc_is_name : FnScope N_is_name ["thing"] (defScope s_is_name) := ⟨rfl, rfl, rfl, by decide +kernel, rfl, by decide +kernel, by decide +kernel⟩
abbrev s_number_text : Stmt := (top 10)
abbrev N_number_text : List Str := ["number"]
theorem sc_number_text : FnScope N_number_text ["number"] (defScope s_number_text) := ⟨rfl, rfl, rfl, by decide +kernel, rfl, by decide +kernel, by decide +kernel⟩
abbrev s_need_all : Stmt := (top 12)
abbrev N_need_all : List Str := ["web", "names", "points", "name"]
theorem sc_need_all : FnScope N_need_all ["web", "names"] (defScope s_need_all) := ⟨rfl, rfl, rfl, by decide +kernel, rfl, by decide +kernel, by decide +kernel⟩
abbrev s_names_in : Stmt := (top 13)
abbrev N_names_in : List Str := ["web", "came", "name"]
theorem sc_names_in : FnScope N_names_in ["web", "came"] (defScope s_names_in) := ⟨rfl, rfl, rfl, by decide +kernel, rfl, by decide +kernel, by decide +kernel⟩
abbrev s_plain_steps : Stmt := (top 14)
abbrev N_plain_steps : List Str := ["names", "ties", "steps", "tie", "name"]
theorem sc_plain_steps : FnScope N_plain_steps ["names", "ties"] (defScope s_plain_steps) := ⟨rfl, rfl, rfl, by decide +kernel, rfl, by decide +kernel, by decide +kernel⟩
abbrev s_free_steps : Stmt := (top 15)
abbrev N_free_steps : List Str := ["names", "ties", "steps", "tie", "name"]
theorem sc_free_steps : FnScope N_free_steps ["names", "ties"] (defScope s_free_steps) := ⟨rfl, rfl, rfl, by decide +kernel, rfl, by decide +kernel, by decide +kernel⟩
abbrev s_came_from : Stmt := (top 16)
abbrev N_came_from : List Str := ["steps", "one", "came", "row", "done", "ahead", "number", "name"]
theorem sc_came_from : FnScope N_came_from ["steps", "one"] (defScope s_came_from) := ⟨rfl, rfl, rfl, by decide +kernel, rfl, by decide +kernel, by decide +kernel⟩
abbrev s_numbers_to : Stmt := (top 17)
abbrev N_numbers_to : List Str := ["came", "target", "numbers", "step", "number", "ahead"]
theorem sc_numbers_to : FnScope N_numbers_to ["came", "target"] (defScope s_numbers_to) := ⟨rfl, rfl, rfl, by decide +kernel, rfl, by decide +kernel, by decide +kernel⟩
abbrev s_Way_init : Stmt := (inClass (top 19) 0)
abbrev N_Way_init : List Str := ["self", "numbers"]
theorem sc_Way_init : FnScope N_Way_init ["self", "numbers"] (defScope s_Way_init) := ⟨rfl, rfl, rfl, by decide +kernel, rfl, by decide +kernel, by decide +kernel⟩
abbrev s_Border_init : Stmt := (inClass (top 20) 0)
abbrev N_Border_init : List Str := ["self", "names"]
theorem sc_Border_init : FnScope N_Border_init ["self", "names"] (defScope s_Border_init) := ⟨rfl, rfl, rfl, by decide +kernel, rfl, by decide +kernel, by decide +kernel⟩
abbrev s_Sides_init : Stmt := (inClass (top 21) 0)
abbrev N_Sides_init : List Str := ["self", "sides"]
theorem sc_Sides_init : FnScope N_Sides_init ["self", "sides"] (defScope s_Sides_init) := ⟨rfl, rfl, rfl, by decide +kernel, rfl, by decide +kernel, by decide +kernel⟩
abbrev s_OddRing_init : Stmt := (inClass (top 22) 0)
abbrev N_OddRing_init : List Str := ["self", "numbers"]
theorem sc_OddRing_init : FnScope N_OddRing_init ["self", "numbers"] (defScope s_OddRing_init) := ⟨rfl, rfl, rfl, by decide +kernel, rfl, by decide +kernel, by decide +kernel⟩
abbrev s_grouped : Stmt := (top 23)
abbrev N_grouped : List Str := ["names", "ties", "steps", "groups", "seen", "name", "came", "point"]
theorem sc_grouped : FnScope N_grouped ["names", "ties"] (defScope s_grouped) := ⟨rfl, rfl, rfl, by decide +kernel, rfl, by decide +kernel, by decide +kernel⟩
abbrev s_pieces : Stmt := (top 24)
abbrev N_pieces : List Str := ["web"]
theorem sc_pieces : FnScope N_pieces ["web"] (defScope s_pieces) := ⟨rfl, rfl, rfl, by decide +kernel, rfl, by decide +kernel, by decide +kernel⟩
abbrev s_way_or_border : Stmt := (top 25)
abbrev N_way_or_border : List Str := ["web", "came", "other"]
theorem sc_way_or_border : FnScope N_way_or_border ["web", "came", "other"] (defScope s_way_or_border) := ⟨rfl, rfl, rfl, by decide +kernel, rfl, by decide +kernel, by decide +kernel⟩
abbrev s_together : Stmt := (top 26)
abbrev N_together : List Str := ["web", "one", "other", "came"]
theorem sc_together : FnScope N_together ["web", "one", "other"] (defScope s_together) := ⟨rfl, rfl, rfl, by decide +kernel, rfl, by decide +kernel, by decide +kernel⟩
abbrev s_joining : Stmt := (top 27)
abbrev N_joining : List Str := ["names", "ties", "mark", "kept", "tie", "stays", "goes", "name"]
theorem sc_joining : FnScope N_joining ["names", "ties"] (defScope s_joining) := ⟨rfl, rfl, rfl, by decide +kernel, rfl, by decide +kernel, by decide +kernel⟩
abbrev s_ring : Stmt := (top 28)
abbrev N_ring : List Str := ["names", "ties", "tie", "came"]
theorem sc_ring : FnScope N_ring ["names", "ties", "tie"] (defScope s_ring) := ⟨rfl, rfl, rfl, by decide +kernel, rfl, by decide +kernel, by decide +kernel⟩
abbrev s_sides_by : Stmt := (top 29)
abbrev N_sides_by : List Str := ["names", "ties", "steps", "side", "first", "came", "name", "step"]
theorem sc_sides_by : FnScope N_sides_by ["names", "ties"] (defScope s_sides_by) := ⟨rfl, rfl, rfl, by decide +kernel, rfl, by decide +kernel, by decide +kernel⟩
abbrev s_sides : Stmt := (top 30)
abbrev N_sides : List Str := ["web", "names", "ties", "side", "tie"]
theorem sc_sides : FnScope N_sides ["web"] (defScope s_sides) := ⟨rfl, rfl, rfl, by decide +kernel, rfl, by decide +kernel, by decide +kernel⟩
abbrev s_need_points : Stmt := (top 32)
abbrev N_need_points : List Str := ["web", "names"]
theorem sc_need_points : FnScope N_need_points ["web", "names"] (defScope s_need_points) := ⟨rfl, rfl, rfl, by decide +kernel, rfl, by decide +kernel, by decide +kernel⟩
abbrev s_border_by : Stmt := (top 33)
abbrev N_border_by : List Str := ["web", "came"]
theorem sc_border_by : FnScope N_border_by ["web", "came"] (defScope s_border_by) := ⟨rfl, rfl, rfl, by decide +kernel, rfl, by decide +kernel, by decide +kernel⟩
abbrev s_way_by : Stmt := (top 34)
abbrev N_way_by : List Str := ["came", "target"]
theorem sc_way_by : FnScope N_way_by ["came", "target"] (defScope s_way_by) := ⟨rfl, rfl, rfl, by decide +kernel, rfl, by decide +kernel, by decide +kernel⟩
abbrev s_came_plainly : Stmt := (top 35)
abbrev N_came_plainly : List Str := ["web", "one"]
theorem sc_came_plainly : FnScope N_came_plainly ["web", "one"] (defScope s_came_plainly) := ⟨rfl, rfl, rfl, by decide +kernel, rfl, by decide +kernel, by decide +kernel⟩
abbrev s_came_without : Stmt := (top 36)
abbrev N_came_without : List Str := ["web", "one", "number", "ties", "tie"]
theorem sc_came_without : FnScope N_came_without ["web", "one", "number"] (defScope s_came_without) := ⟨rfl, rfl, rfl, by decide +kernel, rfl, by decide +kernel, by decide +kernel⟩
abbrev s_came_past : Stmt := (top 37)
abbrev N_came_past : List Str := ["web", "one", "name", "ties", "tie"]
theorem sc_came_past : FnScope N_came_past ["web", "one", "name"] (defScope s_came_past) := ⟨rfl, rfl, rfl, by decide +kernel, rfl, by decide +kernel, by decide +kernel⟩
abbrev s_must_ties : Stmt := (top 38)
abbrev N_must_ties : List Str := ["web", "one", "other", "came", "numbers", "number"]
theorem sc_must_ties : FnScope N_must_ties ["web", "one", "other"] (defScope s_must_ties) := ⟨rfl, rfl, rfl, by decide +kernel, rfl, by decide +kernel, by decide +kernel⟩
abbrev s_must_points : Stmt := (top 39)
abbrev N_must_points : List Str := ["web", "one", "other", "came", "names", "name"]
theorem sc_must_points : FnScope N_must_points ["web", "one", "other"] (defScope s_must_points) := ⟨rfl, rfl, rfl, by decide +kernel, rfl, by decide +kernel, by decide +kernel⟩
abbrev s_way_past : Stmt := (top 40)
abbrev N_way_past : List Str := ["web", "one", "other", "name"]
theorem sc_way_past : FnScope N_way_past ["web", "one", "other", "name"] (defScope s_way_past) := ⟨rfl, rfl, rfl, by decide +kernel, rfl, by decide +kernel, by decide +kernel⟩
abbrev s_leaves : Stmt := (top 41)
abbrev N_leaves : List Str := ["web", "ties", "tie"]
theorem sc_leaves : FnScope N_leaves ["web"] (defScope s_leaves) := ⟨rfl, rfl, rfl, by decide +kernel, rfl, by decide +kernel, by decide +kernel⟩
abbrev s_Ring_init : Stmt := (inClass (top 43) 0)
abbrev N_Ring_init : List Str := ["self", "numbers"]
theorem sc_Ring_init : FnScope N_Ring_init ["self", "numbers"] (defScope s_Ring_init) := ⟨rfl, rfl, rfl, by decide +kernel, rfl, by decide +kernel, by decide +kernel⟩
abbrev s_comes : Stmt := (top 44)
abbrev N_comes : List Str := ["web", "one", "other", "came"]
theorem sc_comes : FnScope N_comes ["web", "one", "other"] (defScope s_comes) := ⟨rfl, rfl, rfl, by decide +kernel, rfl, by decide +kernel, by decide +kernel⟩
abbrev s_knots_by_points : Stmt := (top 45)
abbrev N_knots_by_points : List Str := ["web", "names", "steps", "came", "found", "name", "knot", "point"]
theorem sc_knots_by_points : FnScope N_knots_by_points ["web"] (defScope s_knots_by_points) := ⟨rfl, rfl, rfl, by decide +kernel, rfl, by decide +kernel, by decide +kernel⟩
abbrev s_is_led_into : Stmt := (top 46)
abbrev N_is_led_into : List Str := ["ties", "knot", "names"]
theorem sc_is_led_into : FnScope N_is_led_into ["ties", "knot", "names"] (defScope s_is_led_into) := ⟨rfl, rfl, rfl, by decide +kernel, rfl, by decide +kernel, by decide +kernel⟩
abbrev s_first_free : Stmt := (top 47)
abbrev N_first_free : List Str := ["ties", "left", "names", "free", "knot", "name"]
theorem sc_first_free : FnScope N_first_free ["ties", "left"] (defScope s_first_free) := ⟨rfl, rfl, rfl, by decide +kernel, rfl, by decide +kernel, by decide +kernel⟩
abbrev s_knots : Stmt := (top 48)
abbrev N_knots : List Str := ["web", "ties", "left", "order", "knot"]
theorem sc_knots : FnScope N_knots ["web"] (defScope s_knots) := ⟨rfl, rfl, rfl, by decide +kernel, rfl, by decide +kernel, by decide +kernel⟩
abbrev s_ring_through : Stmt := (top 49)
abbrev N_ring_through : List Str := ["web", "one", "other", "there", "back"]
theorem sc_ring_through : FnScope N_ring_through ["web", "one", "other"] (defScope s_ring_through) := ⟨rfl, rfl, rfl, by decide +kernel, rfl, by decide +kernel, by decide +kernel⟩
abbrev s_starts : Stmt := (top 50)
abbrev N_starts : List Str := ["web", "names", "ties", "knot"]
theorem sc_starts : FnScope N_starts ["web"] (defScope s_starts) := ⟨rfl, rfl, rfl, by decide +kernel, rfl, by decide +kernel, by decide +kernel⟩
abbrev s_Forest_init : Stmt := (inClass (top 52) 0)
abbrev N_Forest_init : List Str := ["self", "numbers", "load"]
theorem sc_Forest_init : FnScope N_Forest_init ["self", "numbers", "load"] (defScope s_Forest_init) := ⟨rfl, rfl, rfl, by decide +kernel, rfl, by decide +kernel, by decide +kernel⟩
abbrev s_Least_init : Stmt := (inClass (top 53) 0)
abbrev N_Least_init : List Str := ["self", "numbers", "load", "heights"]
theorem sc_Least_init : FnScope N_Least_init ["self", "numbers", "load", "heights"] (defScope s_Least_init) := ⟨rfl, rfl, rfl, by decide +kernel, rfl, by decide +kernel, by decide +kernel⟩
abbrev s_Fewest_init : Stmt := (inClass (top 54) 0)
abbrev N_Fewest_init : List Str := ["self", "numbers", "layers", "layer"]
theorem sc_Fewest_init : FnScope N_Fewest_init ["self", "numbers", "layers"] (defScope s_Fewest_init) := ⟨rfl, rfl, rfl, by decide +kernel, rfl, by decide +kernel, by decide +kernel⟩
abbrev s_Apart_init : Stmt := (inClass (top 55) 0)
abbrev N_Apart_init : List Str := ["self", "ways", "wall", "way"]
theorem sc_Apart_init : FnScope N_Apart_init ["self", "ways", "wall"] (defScope s_Apart_init) := ⟨rfl, rfl, rfl, by decide +kernel, rfl, by decide +kernel, by decide +kernel⟩
abbrev s_lightest : Stmt := (top 56)
abbrev N_lightest : List Str := ["web", "ties", "kept", "tie"]
theorem sc_lightest : FnScope N_lightest ["web"] (defScope s_lightest) := ⟨rfl, rfl, rfl, by decide +kernel, rfl, by decide +kernel, by decide +kernel⟩
abbrev s_least_came : Stmt := (top 57)
abbrev N_least_came : List Str := ["web", "one", "steps", "loads", "came", "heights", "left", "ahead", "number", "name", "height", "tie"]
theorem sc_least_came : FnScope N_least_came ["web", "one"] (defScope s_least_came) := ⟨rfl, rfl, rfl, by decide +kernel, rfl, by decide +kernel, by decide +kernel⟩
abbrev s_least_way : Stmt := (top 58)
abbrev N_least_way : List Str := ["web", "one", "other", "came", "heights", "ordered", "name"]
theorem sc_least_way : FnScope N_least_way ["web", "one", "other"] (defScope s_least_way) := ⟨rfl, rfl, rfl, by decide +kernel, rfl, by decide +kernel, by decide +kernel⟩
abbrev s_layers : Stmt := (top 59)
abbrev N_layers : List Str := ["web", "came", "depths", "name", "step", "layers", "_"]
theorem sc_layers : FnScope N_layers ["web", "came"] (defScope s_layers) := ⟨rfl, rfl, rfl, by decide +kernel, rfl, by decide +kernel, by decide +kernel⟩
abbrev s_fewest : Stmt := (top 60)
abbrev N_fewest : List Str := ["web", "one", "other", "came"]
theorem sc_fewest : FnScope N_fewest ["web", "one", "other"] (defScope s_fewest) := ⟨rfl, rfl, rfl, by decide +kernel, rfl, by decide +kernel, by decide +kernel⟩
abbrev s_open_steps : Stmt := (top 61)
abbrev N_open_steps : List Str := ["web", "gone", "steps", "tie", "least", "name"]
theorem sc_open_steps : FnScope N_open_steps ["web", "gone"] (defScope s_open_steps) := ⟨rfl, rfl, rfl, by decide +kernel, rfl, by decide +kernel, by decide +kernel⟩
abbrev s_gone_steps : Stmt := (top 62)
abbrev N_gone_steps : List Str := ["web", "gone", "steps", "tie", "name"]
theorem sc_gone_steps : FnScope N_gone_steps ["web", "gone"] (defScope s_gone_steps) := ⟨rfl, rfl, rfl, by decide +kernel, rfl, by decide +kernel, by decide +kernel⟩
abbrev s_go : Stmt := (top 63)
abbrev N_go : List Str := ["web", "gone", "came", "other", "name", "number", "ahead"]
theorem sc_go : FnScope N_go ["web", "gone", "came", "other"] (defScope s_go) := ⟨rfl, rfl, rfl, by decide +kernel, rfl, by decide +kernel, by decide +kernel⟩
abbrev s_ways_gone : Stmt := (top 64)
abbrev N_ways_gone : List Str := ["web", "gone", "one", "other", "ways", "came", "way", "number"]
theorem sc_ways_gone : FnScope N_ways_gone ["web", "gone", "one", "other"] (defScope s_ways_gone) := ⟨rfl, rfl, rfl, by decide +kernel, rfl, by decide +kernel, by decide +kernel⟩
abbrev s_ties_out : Stmt := (top 65)
abbrev N_ties_out : List Str := ["web", "came", "numbers", "tie", "leads_out", "leads_back_out"]
theorem sc_ties_out : FnScope N_ties_out ["web", "came"] (defScope s_ties_out) := ⟨rfl, rfl, rfl, by decide +kernel, rfl, by decide +kernel, by decide +kernel⟩
abbrev s_ways_apart : Stmt := (top 66)
abbrev N_ways_apart : List Str := ["web", "one", "other", "gone", "came", "tie"]
theorem sc_ways_apart : FnScope N_ways_apart ["web", "one", "other"] (defScope s_ways_apart) := ⟨rfl, rfl, rfl, by decide +kernel, rfl, by decide +kernel, by decide +kernel⟩
abbrev s_row : Stmt := (top 69)
abbrev N_row : List Str := ["word", "words"]
theorem sc_row : FnScope N_row ["word", "words"] (defScope s_row) := ⟨rfl, rfl, rfl, by decide +kernel, rfl, by decide +kernel, by decide +kernel⟩
abbrev s_number_row : Stmt := (top 70)
abbrev N_number_row : List Str := ["word", "numbers", "number"]
theorem sc_number_row : FnScope N_number_row ["word", "numbers"] (defScope s_number_row) := ⟨rfl, rfl, rfl, by decide +kernel, rfl, by decide +kernel, by decide +kernel⟩
abbrev s_name_rows : Stmt := (top 71)
abbrev N_name_rows : List Str := ["word", "groups", "names"]
theorem sc_name_rows : FnScope N_name_rows ["word", "groups"] (defScope s_name_rows) := ⟨rfl, rfl, rfl, by decide +kernel, rfl, by decide +kernel, by decide +kernel⟩
abbrev s_border_rows : Stmt := (top 72)
abbrev N_border_rows : List Str := ["border"]
theorem sc_border_rows : FnScope N_border_rows ["border"] (defScope s_border_rows) := ⟨rfl, rfl, rfl, by decide +kernel, rfl, by decide +kernel, by decide +kernel⟩
abbrev s_way_rows : Stmt := (top 73)
abbrev N_way_rows : List Str := ["found"]
theorem sc_way_rows : FnScope N_way_rows ["found"] (defScope s_way_rows) := ⟨rfl, rfl, rfl, by decide +kernel, rfl, by decide +kernel, by decide +kernel⟩
abbrev s_Question_text : Stmt := (inClass (top 74) 1)
abbrev N_Question_text : List Str := ["self"]
theorem sc_Question_text : FnScope N_Question_text ["self"] (defScope s_Question_text) := ⟨rfl, rfl, rfl, by decide +kernel, rfl, by decide +kernel, by decide +kernel⟩
abbrev s_Question_matter : Stmt := (inClass (top 74) 2)
abbrev N_Question_matter : List Str := ["self"]
theorem sc_Question_matter : FnScope N_Question_matter ["self"] (defScope s_Question_matter) := ⟨rfl, rfl, rfl, by decide +kernel, rfl, by decide +kernel, by decide +kernel⟩
abbrev s_Question_has_loads : Stmt := (inClass (top 74) 3)
abbrev N_Question_has_loads : List Str := ["self"]
theorem sc_Question_has_loads : FnScope N_Question_has_loads ["self"] (defScope s_Question_has_loads) := ⟨rfl, rfl, rfl, by decide +kernel, rfl, by decide +kernel, by decide +kernel⟩
abbrev s_Question_told : Stmt := (inClass (top 74) 4)
abbrev N_Question_told : List Str := ["self", "web"]
theorem sc_Question_told : FnScope N_Question_told ["self", "web"] (defScope s_Question_told) := ⟨rfl, rfl, rfl, by decide +kernel, rfl, by decide +kernel, by decide +kernel⟩
abbrev s_OfTwo_init : Stmt := (inClass (top 75) 0)
abbrev N_OfTwo_init : List Str := ["self", "one", "other"]
theorem sc_OfTwo_init : FnScope N_OfTwo_init ["self", "one", "other"] (defScope s_OfTwo_init) := ⟨rfl, rfl, rfl, by decide +kernel, rfl, by decide +kernel, by decide +kernel⟩
abbrev s_OfTwo_matter : Stmt := (inClass (top 75) 1)
abbrev N_OfTwo_matter : List Str := ["self"]
theorem sc_OfTwo_matter : FnScope N_OfTwo_matter ["self"] (defScope s_OfTwo_matter) := ⟨rfl, rfl, rfl, by decide +kernel, rfl, by decide +kernel, by decide +kernel⟩
abbrev s_HangsTogether_told : Stmt := (inClass (top 76) 1)
abbrev N_HangsTogether_told : List Str := ["self", "web"]
theorem sc_HangsTogether_told : FnScope N_HangsTogether_told ["self", "web"] (defScope s_HangsTogether_told) := ⟨rfl, rfl, rfl, by decide +kernel, rfl, by decide +kernel, by decide +kernel⟩
abbrev s_ComesThere_told : Stmt := (inClass (top 77) 1)
abbrev N_ComesThere_told : List Str := ["self", "web"]
theorem sc_ComesThere_told : FnScope N_ComesThere_told ["self", "web"] (defScope s_ComesThere_told) := ⟨rfl, rfl, rfl, by decide +kernel, rfl, by decide +kernel, by decide +kernel⟩
abbrev s_MustTies_told : Stmt := (inClass (top 78) 1)
abbrev N_MustTies_told : List Str := ["self", "web", "found"]
theorem sc_MustTies_told : FnScope N_MustTies_told ["self", "web"] (defScope s_MustTies_told) := ⟨rfl, rfl, rfl, by decide +kernel, rfl, by decide +kernel, by decide +kernel⟩
abbrev s_MustPoints_told : Stmt := (inClass (top 79) 1)
abbrev N_MustPoints_told : List Str := ["self", "web", "found"]
theorem sc_MustPoints_told : FnScope N_MustPoints_told ["self", "web"] (defScope s_MustPoints_told) := ⟨rfl, rfl, rfl, by decide +kernel, rfl, by decide +kernel, by decide +kernel⟩
abbrev s_PastPoint_init : Stmt := (inClass (top 80) 1)
abbrev N_PastPoint_init : List Str := ["self", "one", "other", "name"]
theorem sc_PastPoint_init : FnScope N_PastPoint_init ["self", "one", "other", "name"] (defScope s_PastPoint_init) := ⟨rfl, rfl, rfl, by decide +kernel, rfl, by decide +kernel, by decide +kernel⟩
abbrev s_PastPoint_matter : Stmt := (inClass (top 80) 2)
abbrev N_PastPoint_matter : List Str := ["self"]
theorem sc_PastPoint_matter : FnScope N_PastPoint_matter ["self"] (defScope s_PastPoint_matter) := ⟨rfl, rfl, rfl, by decide +kernel, rfl, by decide +kernel, by decide +kernel⟩
abbrev s_PastPoint_told : Stmt := (inClass (top 80) 3)
abbrev N_PastPoint_told : List Str := ["self", "web"]
theorem sc_PastPoint_told : FnScope N_PastPoint_told ["self", "web"] (defScope s_PastPoint_told) := ⟨rfl, rfl, rfl, by decide +kernel, rfl, by decide +kernel, by decide +kernel⟩
abbrev s_RingThrough_told : Stmt := (inClass (top 81) 1)
abbrev N_RingThrough_told : List Str := ["self", "web", "found"]
theorem sc_RingThrough_told : FnScope N_RingThrough_told ["self", "web"] (defScope s_RingThrough_told) := ⟨rfl, rfl, rfl, by decide +kernel, rfl, by decide +kernel, by decide +kernel⟩
abbrev s_LeastWay_has_loads : Stmt := (inClass (top 82) 1)
abbrev N_LeastWay_has_loads : List Str := ["self"]
theorem sc_LeastWay_has_loads : FnScope N_LeastWay_has_loads ["self"] (defScope s_LeastWay_has_loads) := ⟨rfl, rfl, rfl, by decide +kernel, rfl, by decide +kernel, by decide +kernel⟩
abbrev s_LeastWay_told : Stmt := (inClass (top 82) 2)
abbrev N_LeastWay_told : List Str := ["self", "web", "found", "heights", "name"]
theorem sc_LeastWay_told : FnScope N_LeastWay_told ["self", "web"] (defScope s_LeastWay_told) := ⟨rfl, rfl, rfl, by decide +kernel, rfl, by decide +kernel, by decide +kernel⟩
abbrev s_FewestTies_told : Stmt := (inClass (top 83) 1)
abbrev N_FewestTies_told : List Str := ["self", "web", "found"]
theorem sc_FewestTies_told : FnScope N_FewestTies_told ["self", "web"] (defScope s_FewestTies_told) := ⟨rfl, rfl, rfl, by decide +kernel, rfl, by decide +kernel, by decide +kernel⟩
abbrev s_WaysApart_told : Stmt := (inClass (top 84) 1)
abbrev N_WaysApart_told : List Str := ["self", "web", "found", "rows", "numbers"]
theorem sc_WaysApart_told : FnScope N_WaysApart_told ["self", "web"] (defScope s_WaysApart_told) := ⟨rfl, rfl, rfl, by decide +kernel, rfl, by decide +kernel, by decide +kernel⟩
abbrev s_ThePieces_told : Stmt := (inClass (top 85) 1)
abbrev N_ThePieces_told : List Str := ["self", "web"]
theorem sc_ThePieces_told : FnScope N_ThePieces_told ["self", "web"] (defScope s_ThePieces_told) := ⟨rfl, rfl, rfl, by decide +kernel, rfl, by decide +kernel, by decide +kernel⟩
abbrev s_TheKnots_told : Stmt := (inClass (top 86) 1)
abbrev N_TheKnots_told : List Str := ["self", "web"]
theorem sc_TheKnots_told : FnScope N_TheKnots_told ["self", "web"] (defScope s_TheKnots_told) := ⟨rfl, rfl, rfl, by decide +kernel, rfl, by decide +kernel, by decide +kernel⟩
abbrev s_TwoSides_told : Stmt := (inClass (top 87) 1)
abbrev N_TwoSides_told : List Str := ["self", "web", "found", "names", "name"]
theorem sc_TwoSides_told : FnScope N_TwoSides_told ["self", "web"] (defScope s_TwoSides_told) := ⟨rfl, rfl, rfl, by decide +kernel, rfl, by decide +kernel, by decide +kernel⟩
abbrev s_LightestForest_has_loads : Stmt := (inClass (top 88) 1)
abbrev N_LightestForest_has_loads : List Str := ["self"]
theorem sc_LightestForest_has_loads : FnScope N_LightestForest_has_loads ["self"] (defScope s_LightestForest_has_loads) := ⟨rfl, rfl, rfl, by decide +kernel, rfl, by decide +kernel, by decide +kernel⟩
abbrev s_LightestForest_told : Stmt := (inClass (top 88) 2)
abbrev N_LightestForest_told : List Str := ["self", "web", "found"]
theorem sc_LightestForest_told : FnScope N_LightestForest_told ["self", "web"] (defScope s_LightestForest_told) := ⟨rfl, rfl, rfl, by decide +kernel, rfl, by decide +kernel, by decide +kernel⟩
abbrev s_TheStarts_told : Stmt := (inClass (top 89) 1)
abbrev N_TheStarts_told : List Str := ["self", "web"]
theorem sc_TheStarts_told : FnScope N_TheStarts_told ["self", "web"] (defScope s_TheStarts_told) := ⟨rfl, rfl, rfl, by decide +kernel, rfl, by decide +kernel, by decide +kernel⟩
abbrev s_TheLeaves_told : Stmt := (inClass (top 90) 1)
abbrev N_TheLeaves_told : List Str := ["self", "web"]
theorem sc_TheLeaves_told : FnScope N_TheLeaves_told ["self", "web"] (defScope s_TheLeaves_told) := ⟨rfl, rfl, rfl, by decide +kernel, rfl, by decide +kernel, by decide +kernel⟩
abbrev s_need_names : Stmt := (top 91)
abbrev N_need_names : List Str := ["words", "many", "place", "at", "word"]
theorem sc_need_names : FnScope N_need_names ["words", "many"] (defScope s_need_names) := ⟨rfl, rfl, rfl, by decide +kernel, rfl, by decide +kernel, by decide +kernel⟩
abbrev s_question : Stmt := (top 92)
abbrev N_question : List Str := ["word", "names"]
theorem sc_question : FnScope N_question ["word", "names"] (defScope s_question) := ⟨rfl, rfl, rfl, by decide +kernel, rfl, by decide +kernel, by decide +kernel⟩
abbrev s_question_of : Stmt := (top 93)
abbrev N_question_of : List Str := ["text", "words"]
theorem sc_question_of : FnScope N_question_of ["text"] (defScope s_question_of) := ⟨rfl, rfl, rfl, by decide +kernel, rfl, by decide +kernel, by decide +kernel⟩
abbrev s_law_number : Stmt := (top 95)
abbrev N_law_number : List Str := ["_law_script", "_law_k", "_law_cell", "_law_more"]
theorem sc_law_number : FnScope N_law_number ["_law_script", "_law_k"] (defScope s_law_number) := ⟨rfl, rfl, rfl, by decide +kernel, rfl, by decide +kernel, by decide +kernel⟩
abbrev s_law_names : Stmt := (top 96)
abbrev N_law_names : List Str := ["_law_number_here", "_law_many", "_law_letters", "_law_step", "_law_base", "_law_border", "_law_at", "_law_signs", "_law_j", "_law_k", "_law_sign"]
theorem sc_law_names : FnScope N_law_names ["_law_number_here", "_law_many"] (defScope s_law_names) := ⟨rfl, rfl, rfl, by decide +kernel, rfl, by decide +kernel, by decide +kernel⟩
abbrev s_law_kinds : Stmt := (top 97)
abbrev N_law_kinds : List Str := ["_law_found", "_law_some", "_law_word", "_law_is_so"]
theorem sc_law_kinds : FnScope N_law_kinds ["_law_found"] (defScope s_law_kinds) := ⟨rfl, rfl, rfl, by decide +kernel, rfl, by decide +kernel, by decide +kernel⟩
abbrev s_law_made : Stmt := (top 98)
abbrev N_law_made : List Str := ["_law_word", "_law_names_here"]
theorem sc_law_made : FnScope N_law_made ["_law_word", "_law_names_here"] (defScope s_law_made) := ⟨rfl, rfl, rfl, by decide +kernel, rfl, by decide +kernel, by decide +kernel⟩
abbrev s_law_right : Stmt := (top 99)
abbrev N_law_right : List Str := ["_law_found", "_law_word", "_law_names_here", "_law_turn", "_law_told"]
theorem sc_law_right : FnScope N_law_right ["_law_found", "_law_word", "_law_names_here"] (defScope s_law_right) := ⟨rfl, rfl, rfl, by decide +kernel, rfl, by decide +kernel, by decide +kernel⟩
abbrev s_law : Stmt := (top 100)
abbrev N_law : List Str := ["_law_script", "_law_twos", "_law_wholes", "_law_k", "_law_number_here", "_law_names_here", "_law_some", "_law_word", "_law_j"]
theorem sc_law : FnScope N_law ["_law_script"] (defScope s_law) := ⟨rfl, rfl, rfl, by decide +kernel, rfl, by decide +kernel, by decide +kernel⟩
structure Tx (K : PySem.W.Frag) (mg : Str → Option Value) where
  b_NotImplementedError : mg "NotImplementedError" = none
  b_any : mg "any" = none
  b_bool : mg "bool" = none
  b_dict : mg "dict" = none
  b_enumerate : mg "enumerate" = none
  b_isinstance : mg "isinstance" = none
  b_len : mg "len" = none
  b_list : mg "list" = none
  b_max : mg "max" = none
  b_min : mg "min" = none
  b_point : mg "point" = none
  b_range : mg "range" = none
  b_set : mg "set" = none
  b_sorted : mg "sorted" = none
  b_str : mg "str" = none
  b_sum : mg "sum" = none
  b_tie : mg "tie" = none
  g_NAMES_BEHIND : mg "NAMES_BEHIND" = some (.ref (He.ga K "NAMES_BEHIND"))
  c_LETTERS : ∃ t, mg "LETTERS" = some (.str "abcdefghijklmnopqrstuvwxyz" t)
  c_MOST_LETTERS : ∃ t, mg "MOST_LETTERS" = some (.int 12 t)
  g_Way : mg "Way" = some (.ref (He.ga K "Way"))
  cl_Way : Cls K (He.ga K "Way")
  mk_Way : Mk K (He.ga K "Way") (He.ma K (He.ga K "Way") "__init__")
  na_Way_numbers : NoAttr K (He.ga K "Way") "numbers"
  g_Border : mg "Border" = some (.ref (He.ga K "Border"))
  cl_Border : Cls K (He.ga K "Border")
  mk_Border : Mk K (He.ga K "Border") (He.ma K (He.ga K "Border") "__init__")
  na_Border_names : NoAttr K (He.ga K "Border") "names"
  g_Sides : mg "Sides" = some (.ref (He.ga K "Sides"))
  cl_Sides : Cls K (He.ga K "Sides")
  mk_Sides : Mk K (He.ga K "Sides") (He.ma K (He.ga K "Sides") "__init__")
  na_Sides_sides : NoAttr K (He.ga K "Sides") "sides"
  g_OddRing : mg "OddRing" = some (.ref (He.ga K "OddRing"))
  cl_OddRing : Cls K (He.ga K "OddRing")
  mk_OddRing : Mk K (He.ga K "OddRing") (He.ma K (He.ga K "OddRing") "__init__")
  na_OddRing_numbers : NoAttr K (He.ga K "OddRing") "numbers"
  g_Ring : mg "Ring" = some (.ref (He.ga K "Ring"))
  cl_Ring : Cls K (He.ga K "Ring")
  mk_Ring : Mk K (He.ga K "Ring") (He.ma K (He.ga K "Ring") "__init__")
  na_Ring_numbers : NoAttr K (He.ga K "Ring") "numbers"
  g_Forest : mg "Forest" = some (.ref (He.ga K "Forest"))
  cl_Forest : Cls K (He.ga K "Forest")
  mk_Forest : Mk K (He.ga K "Forest") (He.ma K (He.ga K "Forest") "__init__")
  na_Forest_numbers : NoAttr K (He.ga K "Forest") "numbers"
  na_Forest_load : NoAttr K (He.ga K "Forest") "load"
  g_Least : mg "Least" = some (.ref (He.ga K "Least"))
  cl_Least : Cls K (He.ga K "Least")
  mk_Least : Mk K (He.ga K "Least") (He.ma K (He.ga K "Least") "__init__")
  na_Least_numbers : NoAttr K (He.ga K "Least") "numbers"
  na_Least_load : NoAttr K (He.ga K "Least") "load"
  na_Least_heights : NoAttr K (He.ga K "Least") "heights"
  g_Fewest : mg "Fewest" = some (.ref (He.ga K "Fewest"))
  cl_Fewest : Cls K (He.ga K "Fewest")
  mk_Fewest : Mk K (He.ga K "Fewest") (He.ma K (He.ga K "Fewest") "__init__")
  na_Fewest_numbers : NoAttr K (He.ga K "Fewest") "numbers"
  na_Fewest_layers : NoAttr K (He.ga K "Fewest") "layers"
  g_Apart : mg "Apart" = some (.ref (He.ga K "Apart"))
  cl_Apart : Cls K (He.ga K "Apart")
  mk_Apart : Mk K (He.ga K "Apart") (He.ma K (He.ga K "Apart") "__init__")
  na_Apart_ways : NoAttr K (He.ga K "Apart") "ways"
  na_Apart_wall : NoAttr K (He.ga K "Apart") "wall"
  g_Question : mg "Question" = some (.ref (He.ga K "Question"))
  g_OfTwo : mg "OfTwo" = some (.ref (He.ga K "OfTwo"))
  g_HangsTogether : mg "HangsTogether" = some (.ref (He.ga K "HangsTogether"))
  g_ComesThere : mg "ComesThere" = some (.ref (He.ga K "ComesThere"))
  g_MustTies : mg "MustTies" = some (.ref (He.ga K "MustTies"))
  g_MustPoints : mg "MustPoints" = some (.ref (He.ga K "MustPoints"))
  g_PastPoint : mg "PastPoint" = some (.ref (He.ga K "PastPoint"))
  g_RingThrough : mg "RingThrough" = some (.ref (He.ga K "RingThrough"))
  g_LeastWay : mg "LeastWay" = some (.ref (He.ga K "LeastWay"))
  g_FewestTies : mg "FewestTies" = some (.ref (He.ga K "FewestTies"))
  g_WaysApart : mg "WaysApart" = some (.ref (He.ga K "WaysApart"))
  g_ThePieces : mg "ThePieces" = some (.ref (He.ga K "ThePieces"))
  g_TheKnots : mg "TheKnots" = some (.ref (He.ga K "TheKnots"))
  g_TwoSides : mg "TwoSides" = some (.ref (He.ga K "TwoSides"))
  g_LightestForest : mg "LightestForest" = some (.ref (He.ga K "LightestForest"))
  g_TheStarts : mg "TheStarts" = some (.ref (He.ga K "TheStarts"))
  g_TheLeaves : mg "TheLeaves" = some (.ref (He.ga K "TheLeaves"))
  b_super : mg "super" = none
  g_WebError : mg "WebError" = some (.ref (He.ga K "WebError"))
  g_BadText : mg "BadText" = some (.ref (He.ga K "BadText"))
  xm_BadText : PySem.W.exmOne K (.ref (He.ga K "BadText")) (.ref (He.ga K "WebError")) = some true
  g_has_only : mg "_has_only" = some (.ref (He.ga K "_has_only"))
  g_is_name : mg "is_name" = some (.ref (He.ga K "is_name"))
  g_number_text : mg "number_text" = some (.ref (He.ga K "number_text"))
  g_need_all : mg "need_all" = some (.ref (He.ga K "need_all"))
  g_names_in : mg "names_in" = some (.ref (He.ga K "names_in"))
  g_plain_steps : mg "plain_steps" = some (.ref (He.ga K "plain_steps"))
  g_free_steps : mg "free_steps" = some (.ref (He.ga K "free_steps"))
  g_came_from : mg "came_from" = some (.ref (He.ga K "came_from"))
  g_numbers_to : mg "numbers_to" = some (.ref (He.ga K "numbers_to"))
  g_grouped : mg "grouped" = some (.ref (He.ga K "grouped"))
  g_pieces : mg "pieces" = some (.ref (He.ga K "pieces"))
  g_way_or_border : mg "way_or_border" = some (.ref (He.ga K "way_or_border"))
  g_together : mg "together" = some (.ref (He.ga K "together"))
  g_joining : mg "joining" = some (.ref (He.ga K "joining"))
  g_ring : mg "_ring" = some (.ref (He.ga K "_ring"))
  g_sides_by : mg "_sides_by" = some (.ref (He.ga K "_sides_by"))
  g_sides : mg "sides" = some (.ref (He.ga K "sides"))
  g_need_points : mg "need_points" = some (.ref (He.ga K "need_points"))
  g_border_by : mg "border_by" = some (.ref (He.ga K "border_by"))
  g_way_by : mg "way_by" = some (.ref (He.ga K "way_by"))
  g_came_plainly : mg "_came_plainly" = some (.ref (He.ga K "_came_plainly"))
  g_came_without : mg "_came_without" = some (.ref (He.ga K "_came_without"))
  g_came_past : mg "_came_past" = some (.ref (He.ga K "_came_past"))
  g_must_ties : mg "must_ties" = some (.ref (He.ga K "must_ties"))
  g_must_points : mg "must_points" = some (.ref (He.ga K "must_points"))
  g_way_past : mg "way_past" = some (.ref (He.ga K "way_past"))
  g_leaves : mg "leaves" = some (.ref (He.ga K "leaves"))
  g_comes : mg "comes" = some (.ref (He.ga K "comes"))
  g_knots_by_points : mg "_knots_by_points" = some (.ref (He.ga K "_knots_by_points"))
  g_is_led_into : mg "_is_led_into" = some (.ref (He.ga K "_is_led_into"))
  g_first_free : mg "_first_free" = some (.ref (He.ga K "_first_free"))
  g_knots : mg "knots" = some (.ref (He.ga K "knots"))
  g_ring_through : mg "ring_through" = some (.ref (He.ga K "ring_through"))
  g_starts : mg "starts" = some (.ref (He.ga K "starts"))
  g_lightest : mg "lightest" = some (.ref (He.ga K "lightest"))
  g_least_came : mg "_least_came" = some (.ref (He.ga K "_least_came"))
  g_least_way : mg "least_way" = some (.ref (He.ga K "least_way"))
  g_layers : mg "_layers" = some (.ref (He.ga K "_layers"))
  g_fewest : mg "fewest" = some (.ref (He.ga K "fewest"))
  g_open_steps : mg "_open_steps" = some (.ref (He.ga K "_open_steps"))
  g_gone_steps : mg "_gone_steps" = some (.ref (He.ga K "_gone_steps"))
  g_go : mg "_go" = some (.ref (He.ga K "_go"))
  g_ways_gone : mg "_ways_gone" = some (.ref (He.ga K "_ways_gone"))
  g_ties_out : mg "_ties_out" = some (.ref (He.ga K "_ties_out"))
  g_ways_apart : mg "ways_apart" = some (.ref (He.ga K "ways_apart"))
  g_row : mg "_row" = some (.ref (He.ga K "_row"))
  g_number_row : mg "_number_row" = some (.ref (He.ga K "_number_row"))
  g_name_rows : mg "_name_rows" = some (.ref (He.ga K "_name_rows"))
  g_border_rows : mg "_border_rows" = some (.ref (He.ga K "_border_rows"))
  g_way_rows : mg "_way_rows" = some (.ref (He.ga K "_way_rows"))
  g_need_names : mg "_need_names" = some (.ref (He.ga K "_need_names"))
  g_question : mg "_question" = some (.ref (He.ga K "_question"))
  g_question_of : mg "question_of" = some (.ref (He.ga K "question_of"))
  g_law_number : mg "_law_number" = some (.ref (He.ga K "_law_number"))
  g_law_names : mg "_law_names" = some (.ref (He.ga K "_law_names"))
  g_law_kinds : mg "_law_kinds" = some (.ref (He.ga K "_law_kinds"))
  g_law_made : mg "_law_made" = some (.ref (He.ga K "_law_made"))
  g_law_right : mg "_law_right" = some (.ref (He.ga K "_law_right"))
  g_law : mg "law" = some (.ref (He.ga K "law"))
  fd_has_only : FuncData
  F_has_only : FunD K "_has_only" "_has_only" (defArgs s_has_only) (defBody s_has_only) (defScope s_has_only) [] [] (He.ga K "_has_only") fd_has_only
  k_has_only : Binds K fd_has_only ["text", "signs"] []
  fd_is_name : FuncData
  F_is_name : FunD K "is_name" "is_name" (defArgs s_is_name) (defBody s_is_name) (defScope s_is_name) [] [] (He.ga K "is_name") fd_is_name
  k_is_name : Binds K fd_is_name ["thing"] []
  fd_number_text : FuncData
  F_number_text : FunD K "number_text" "number_text" (defArgs s_number_text) (defBody s_number_text) (defScope s_number_text) [] [] (He.ga K "number_text") fd_number_text
  k_number_text : Binds K fd_number_text ["number"] []
  fd_need_all : FuncData
  F_need_all : FunD K "need_all" "need_all" (defArgs s_need_all) (defBody s_need_all) (defScope s_need_all) [] [] (He.ga K "need_all") fd_need_all
  k_need_all : Binds K fd_need_all ["web", "names"] []
  fd_names_in : FuncData
  F_names_in : FunD K "names_in" "names_in" (defArgs s_names_in) (defBody s_names_in) (defScope s_names_in) [] [] (He.ga K "names_in") fd_names_in
  k_names_in : Binds K fd_names_in ["web", "came"] []
  fd_plain_steps : FuncData
  F_plain_steps : FunD K "plain_steps" "plain_steps" (defArgs s_plain_steps) (defBody s_plain_steps) (defScope s_plain_steps) [] [] (He.ga K "plain_steps") fd_plain_steps
  k_plain_steps : Binds K fd_plain_steps ["names", "ties"] []
  fd_free_steps : FuncData
  F_free_steps : FunD K "free_steps" "free_steps" (defArgs s_free_steps) (defBody s_free_steps) (defScope s_free_steps) [] [] (He.ga K "free_steps") fd_free_steps
  k_free_steps : Binds K fd_free_steps ["names", "ties"] []
  fd_came_from : FuncData
  F_came_from : FunD K "came_from" "came_from" (defArgs s_came_from) (defBody s_came_from) (defScope s_came_from) [] [] (He.ga K "came_from") fd_came_from
  k_came_from : Binds K fd_came_from ["steps", "one"] []
  fd_numbers_to : FuncData
  F_numbers_to : FunD K "numbers_to" "numbers_to" (defArgs s_numbers_to) (defBody s_numbers_to) (defScope s_numbers_to) [] [] (He.ga K "numbers_to") fd_numbers_to
  k_numbers_to : Binds K fd_numbers_to ["came", "target"] []
  fd_Way_init : FuncData
  F_Way_init : FunD K "__init__" "Way.__init__" (defArgs s_Way_init) (defBody s_Way_init) (defScope s_Way_init) [] [] (He.ma K (He.ga K "Way") "__init__") fd_Way_init
  k_Way_init : Binds K fd_Way_init ["self", "numbers"] []
  fd_Border_init : FuncData
  F_Border_init : FunD K "__init__" "Border.__init__" (defArgs s_Border_init) (defBody s_Border_init) (defScope s_Border_init) [] [] (He.ma K (He.ga K "Border") "__init__") fd_Border_init
  k_Border_init : Binds K fd_Border_init ["self", "names"] []
  fd_Sides_init : FuncData
  F_Sides_init : FunD K "__init__" "Sides.__init__" (defArgs s_Sides_init) (defBody s_Sides_init) (defScope s_Sides_init) [] [] (He.ma K (He.ga K "Sides") "__init__") fd_Sides_init
  k_Sides_init : Binds K fd_Sides_init ["self", "sides"] []
  fd_OddRing_init : FuncData
  F_OddRing_init : FunD K "__init__" "OddRing.__init__" (defArgs s_OddRing_init) (defBody s_OddRing_init) (defScope s_OddRing_init) [] [] (He.ma K (He.ga K "OddRing") "__init__") fd_OddRing_init
  k_OddRing_init : Binds K fd_OddRing_init ["self", "numbers"] []
  fd_grouped : FuncData
  F_grouped : FunD K "grouped" "grouped" (defArgs s_grouped) (defBody s_grouped) (defScope s_grouped) [] [] (He.ga K "grouped") fd_grouped
  k_grouped : Binds K fd_grouped ["names", "ties"] []
  fd_pieces : FuncData
  F_pieces : FunD K "pieces" "pieces" (defArgs s_pieces) (defBody s_pieces) (defScope s_pieces) [] [] (He.ga K "pieces") fd_pieces
  k_pieces : Binds K fd_pieces ["web"] []
  fd_way_or_border : FuncData
  F_way_or_border : FunD K "way_or_border" "way_or_border" (defArgs s_way_or_border) (defBody s_way_or_border) (defScope s_way_or_border) [] [] (He.ga K "way_or_border") fd_way_or_border
  k_way_or_border : Binds K fd_way_or_border ["web", "came", "other"] []
  fd_together : FuncData
  F_together : FunD K "together" "together" (defArgs s_together) (defBody s_together) (defScope s_together) [] [] (He.ga K "together") fd_together
  k_together : Binds K fd_together ["web", "one", "other"] []
  fd_joining : FuncData
  F_joining : FunD K "joining" "joining" (defArgs s_joining) (defBody s_joining) (defScope s_joining) [] [] (He.ga K "joining") fd_joining
  k_joining : Binds K fd_joining ["names", "ties"] []
  fd_ring : FuncData
  F_ring : FunD K "_ring" "_ring" (defArgs s_ring) (defBody s_ring) (defScope s_ring) [] [] (He.ga K "_ring") fd_ring
  k_ring : Binds K fd_ring ["names", "ties", "tie"] []
  fd_sides_by : FuncData
  F_sides_by : FunD K "_sides_by" "_sides_by" (defArgs s_sides_by) (defBody s_sides_by) (defScope s_sides_by) [] [] (He.ga K "_sides_by") fd_sides_by
  k_sides_by : Binds K fd_sides_by ["names", "ties"] []
  fd_sides : FuncData
  F_sides : FunD K "sides" "sides" (defArgs s_sides) (defBody s_sides) (defScope s_sides) [] [] (He.ga K "sides") fd_sides
  k_sides : Binds K fd_sides ["web"] []
  fd_need_points : FuncData
  F_need_points : FunD K "need_points" "need_points" (defArgs s_need_points) (defBody s_need_points) (defScope s_need_points) [] [] (He.ga K "need_points") fd_need_points
  k_need_points : Binds K fd_need_points ["web", "names"] []
  fd_border_by : FuncData
  F_border_by : FunD K "border_by" "border_by" (defArgs s_border_by) (defBody s_border_by) (defScope s_border_by) [] [] (He.ga K "border_by") fd_border_by
  k_border_by : Binds K fd_border_by ["web", "came"] []
  fd_way_by : FuncData
  F_way_by : FunD K "way_by" "way_by" (defArgs s_way_by) (defBody s_way_by) (defScope s_way_by) [] [] (He.ga K "way_by") fd_way_by
  k_way_by : Binds K fd_way_by ["came", "target"] []
  fd_came_plainly : FuncData
  F_came_plainly : FunD K "_came_plainly" "_came_plainly" (defArgs s_came_plainly) (defBody s_came_plainly) (defScope s_came_plainly) [] [] (He.ga K "_came_plainly") fd_came_plainly
  k_came_plainly : Binds K fd_came_plainly ["web", "one"] []
  fd_came_without : FuncData
  F_came_without : FunD K "_came_without" "_came_without" (defArgs s_came_without) (defBody s_came_without) (defScope s_came_without) [] [] (He.ga K "_came_without") fd_came_without
  k_came_without : Binds K fd_came_without ["web", "one", "number"] []
  fd_came_past : FuncData
  F_came_past : FunD K "_came_past" "_came_past" (defArgs s_came_past) (defBody s_came_past) (defScope s_came_past) [] [] (He.ga K "_came_past") fd_came_past
  k_came_past : Binds K fd_came_past ["web", "one", "name"] []
  fd_must_ties : FuncData
  F_must_ties : FunD K "must_ties" "must_ties" (defArgs s_must_ties) (defBody s_must_ties) (defScope s_must_ties) [] [] (He.ga K "must_ties") fd_must_ties
  k_must_ties : Binds K fd_must_ties ["web", "one", "other"] []
  fd_must_points : FuncData
  F_must_points : FunD K "must_points" "must_points" (defArgs s_must_points) (defBody s_must_points) (defScope s_must_points) [] [] (He.ga K "must_points") fd_must_points
  k_must_points : Binds K fd_must_points ["web", "one", "other"] []
  fd_way_past : FuncData
  F_way_past : FunD K "way_past" "way_past" (defArgs s_way_past) (defBody s_way_past) (defScope s_way_past) [] [] (He.ga K "way_past") fd_way_past
  k_way_past : Binds K fd_way_past ["web", "one", "other", "name"] []
  fd_leaves : FuncData
  F_leaves : FunD K "leaves" "leaves" (defArgs s_leaves) (defBody s_leaves) (defScope s_leaves) [] [] (He.ga K "leaves") fd_leaves
  k_leaves : Binds K fd_leaves ["web"] []
  fd_Ring_init : FuncData
  F_Ring_init : FunD K "__init__" "Ring.__init__" (defArgs s_Ring_init) (defBody s_Ring_init) (defScope s_Ring_init) [] [] (He.ma K (He.ga K "Ring") "__init__") fd_Ring_init
  k_Ring_init : Binds K fd_Ring_init ["self", "numbers"] []
  fd_comes : FuncData
  F_comes : FunD K "comes" "comes" (defArgs s_comes) (defBody s_comes) (defScope s_comes) [] [] (He.ga K "comes") fd_comes
  k_comes : Binds K fd_comes ["web", "one", "other"] []
  fd_knots_by_points : FuncData
  F_knots_by_points : FunD K "_knots_by_points" "_knots_by_points" (defArgs s_knots_by_points) (defBody s_knots_by_points) (defScope s_knots_by_points) [] [] (He.ga K "_knots_by_points") fd_knots_by_points
  k_knots_by_points : Binds K fd_knots_by_points ["web"] []
  fd_is_led_into : FuncData
  F_is_led_into : FunD K "_is_led_into" "_is_led_into" (defArgs s_is_led_into) (defBody s_is_led_into) (defScope s_is_led_into) [] [] (He.ga K "_is_led_into") fd_is_led_into
  k_is_led_into : Binds K fd_is_led_into ["ties", "knot", "names"] []
  fd_first_free : FuncData
  F_first_free : FunD K "_first_free" "_first_free" (defArgs s_first_free) (defBody s_first_free) (defScope s_first_free) [] [] (He.ga K "_first_free") fd_first_free
  k_first_free : Binds K fd_first_free ["ties", "left"] []
  fd_knots : FuncData
  F_knots : FunD K "knots" "knots" (defArgs s_knots) (defBody s_knots) (defScope s_knots) [] [] (He.ga K "knots") fd_knots
  k_knots : Binds K fd_knots ["web"] []
  fd_ring_through : FuncData
  F_ring_through : FunD K "ring_through" "ring_through" (defArgs s_ring_through) (defBody s_ring_through) (defScope s_ring_through) [] [] (He.ga K "ring_through") fd_ring_through
  k_ring_through : Binds K fd_ring_through ["web", "one", "other"] []
  fd_starts : FuncData
  F_starts : FunD K "starts" "starts" (defArgs s_starts) (defBody s_starts) (defScope s_starts) [] [] (He.ga K "starts") fd_starts
  k_starts : Binds K fd_starts ["web"] []
  fd_Forest_init : FuncData
  F_Forest_init : FunD K "__init__" "Forest.__init__" (defArgs s_Forest_init) (defBody s_Forest_init) (defScope s_Forest_init) [] [] (He.ma K (He.ga K "Forest") "__init__") fd_Forest_init
  k_Forest_init : Binds K fd_Forest_init ["self", "numbers", "load"] []
  fd_Least_init : FuncData
  F_Least_init : FunD K "__init__" "Least.__init__" (defArgs s_Least_init) (defBody s_Least_init) (defScope s_Least_init) [] [] (He.ma K (He.ga K "Least") "__init__") fd_Least_init
  k_Least_init : Binds K fd_Least_init ["self", "numbers", "load", "heights"] []
  fd_Fewest_init : FuncData
  F_Fewest_init : FunD K "__init__" "Fewest.__init__" (defArgs s_Fewest_init) (defBody s_Fewest_init) (defScope s_Fewest_init) [] [] (He.ma K (He.ga K "Fewest") "__init__") fd_Fewest_init
  k_Fewest_init : Binds K fd_Fewest_init ["self", "numbers", "layers"] []
  fd_Apart_init : FuncData
  F_Apart_init : FunD K "__init__" "Apart.__init__" (defArgs s_Apart_init) (defBody s_Apart_init) (defScope s_Apart_init) [] [] (He.ma K (He.ga K "Apart") "__init__") fd_Apart_init
  k_Apart_init : Binds K fd_Apart_init ["self", "ways", "wall"] []
  fd_lightest : FuncData
  F_lightest : FunD K "lightest" "lightest" (defArgs s_lightest) (defBody s_lightest) (defScope s_lightest) [] [] (He.ga K "lightest") fd_lightest
  k_lightest : Binds K fd_lightest ["web"] []
  fd_least_came : FuncData
  F_least_came : FunD K "_least_came" "_least_came" (defArgs s_least_came) (defBody s_least_came) (defScope s_least_came) [] [] (He.ga K "_least_came") fd_least_came
  k_least_came : Binds K fd_least_came ["web", "one"] []
  fd_least_way : FuncData
  F_least_way : FunD K "least_way" "least_way" (defArgs s_least_way) (defBody s_least_way) (defScope s_least_way) [] [] (He.ga K "least_way") fd_least_way
  k_least_way : Binds K fd_least_way ["web", "one", "other"] []
  fd_layers : FuncData
  F_layers : FunD K "_layers" "_layers" (defArgs s_layers) (defBody s_layers) (defScope s_layers) [] [] (He.ga K "_layers") fd_layers
  k_layers : Binds K fd_layers ["web", "came"] []
  fd_fewest : FuncData
  F_fewest : FunD K "fewest" "fewest" (defArgs s_fewest) (defBody s_fewest) (defScope s_fewest) [] [] (He.ga K "fewest") fd_fewest
  k_fewest : Binds K fd_fewest ["web", "one", "other"] []
  fd_open_steps : FuncData
  F_open_steps : FunD K "_open_steps" "_open_steps" (defArgs s_open_steps) (defBody s_open_steps) (defScope s_open_steps) [] [] (He.ga K "_open_steps") fd_open_steps
  k_open_steps : Binds K fd_open_steps ["web", "gone"] []
  fd_gone_steps : FuncData
  F_gone_steps : FunD K "_gone_steps" "_gone_steps" (defArgs s_gone_steps) (defBody s_gone_steps) (defScope s_gone_steps) [] [] (He.ga K "_gone_steps") fd_gone_steps
  k_gone_steps : Binds K fd_gone_steps ["web", "gone"] []
  fd_go : FuncData
  F_go : FunD K "_go" "_go" (defArgs s_go) (defBody s_go) (defScope s_go) [] [] (He.ga K "_go") fd_go
  k_go : Binds K fd_go ["web", "gone", "came", "other"] []
  fd_ways_gone : FuncData
  F_ways_gone : FunD K "_ways_gone" "_ways_gone" (defArgs s_ways_gone) (defBody s_ways_gone) (defScope s_ways_gone) [] [] (He.ga K "_ways_gone") fd_ways_gone
  k_ways_gone : Binds K fd_ways_gone ["web", "gone", "one", "other"] []
  fd_ties_out : FuncData
  F_ties_out : FunD K "_ties_out" "_ties_out" (defArgs s_ties_out) (defBody s_ties_out) (defScope s_ties_out) [] [] (He.ga K "_ties_out") fd_ties_out
  k_ties_out : Binds K fd_ties_out ["web", "came"] []
  fd_ways_apart : FuncData
  F_ways_apart : FunD K "ways_apart" "ways_apart" (defArgs s_ways_apart) (defBody s_ways_apart) (defScope s_ways_apart) [] [] (He.ga K "ways_apart") fd_ways_apart
  k_ways_apart : Binds K fd_ways_apart ["web", "one", "other"] []
  fd_row : FuncData
  F_row : FunD K "_row" "_row" (defArgs s_row) (defBody s_row) (defScope s_row) [] [] (He.ga K "_row") fd_row
  k_row : Binds K fd_row ["word", "words"] []
  fd_number_row : FuncData
  F_number_row : FunD K "_number_row" "_number_row" (defArgs s_number_row) (defBody s_number_row) (defScope s_number_row) [] [] (He.ga K "_number_row") fd_number_row
  k_number_row : Binds K fd_number_row ["word", "numbers"] []
  fd_name_rows : FuncData
  F_name_rows : FunD K "_name_rows" "_name_rows" (defArgs s_name_rows) (defBody s_name_rows) (defScope s_name_rows) [] [] (He.ga K "_name_rows") fd_name_rows
  k_name_rows : Binds K fd_name_rows ["word", "groups"] []
  fd_border_rows : FuncData
  F_border_rows : FunD K "_border_rows" "_border_rows" (defArgs s_border_rows) (defBody s_border_rows) (defScope s_border_rows) [] [] (He.ga K "_border_rows") fd_border_rows
  k_border_rows : Binds K fd_border_rows ["border"] []
  fd_way_rows : FuncData
  F_way_rows : FunD K "_way_rows" "_way_rows" (defArgs s_way_rows) (defBody s_way_rows) (defScope s_way_rows) [] [] (He.ga K "_way_rows") fd_way_rows
  k_way_rows : Binds K fd_way_rows ["found"] []
  fd_Question_text : FuncData
  F_Question_text : FunD K "text" "Question.text" (defArgs s_Question_text) (defBody s_Question_text) (defScope s_Question_text) [] [] (He.ma K (He.ga K "Question") "text") fd_Question_text
  k_Question_text : Binds K fd_Question_text ["self"] []
  fd_Question_matter : FuncData
  F_Question_matter : FunD K "matter" "Question.matter" (defArgs s_Question_matter) (defBody s_Question_matter) (defScope s_Question_matter) [] [] (He.ma K (He.ga K "Question") "matter") fd_Question_matter
  k_Question_matter : Binds K fd_Question_matter ["self"] []
  fd_Question_has_loads : FuncData
  F_Question_has_loads : FunD K "has_loads" "Question.has_loads" (defArgs s_Question_has_loads) (defBody s_Question_has_loads) (defScope s_Question_has_loads) [] [] (He.ma K (He.ga K "Question") "has_loads") fd_Question_has_loads
  k_Question_has_loads : Binds K fd_Question_has_loads ["self"] []
  fd_Question_told : FuncData
  F_Question_told : FunD K "told" "Question.told" (defArgs s_Question_told) (defBody s_Question_told) (defScope s_Question_told) [] [] (He.ma K (He.ga K "Question") "told") fd_Question_told
  k_Question_told : Binds K fd_Question_told ["self", "web"] []
  fd_OfTwo_init : FuncData
  F_OfTwo_init : FunD K "__init__" "OfTwo.__init__" (defArgs s_OfTwo_init) (defBody s_OfTwo_init) (defScope s_OfTwo_init) [] [] (He.ma K (He.ga K "OfTwo") "__init__") fd_OfTwo_init
  k_OfTwo_init : Binds K fd_OfTwo_init ["self", "one", "other"] []
  fd_OfTwo_matter : FuncData
  F_OfTwo_matter : FunD K "matter" "OfTwo.matter" (defArgs s_OfTwo_matter) (defBody s_OfTwo_matter) (defScope s_OfTwo_matter) [] [] (He.ma K (He.ga K "OfTwo") "matter") fd_OfTwo_matter
  k_OfTwo_matter : Binds K fd_OfTwo_matter ["self"] []
  fd_HangsTogether_told : FuncData
  F_HangsTogether_told : FunD K "told" "HangsTogether.told" (defArgs s_HangsTogether_told) (defBody s_HangsTogether_told) (defScope s_HangsTogether_told) [] [] (He.ma K (He.ga K "HangsTogether") "told") fd_HangsTogether_told
  k_HangsTogether_told : Binds K fd_HangsTogether_told ["self", "web"] []
  fd_ComesThere_told : FuncData
  F_ComesThere_told : FunD K "told" "ComesThere.told" (defArgs s_ComesThere_told) (defBody s_ComesThere_told) (defScope s_ComesThere_told) [] [] (He.ma K (He.ga K "ComesThere") "told") fd_ComesThere_told
  k_ComesThere_told : Binds K fd_ComesThere_told ["self", "web"] []
  fd_MustTies_told : FuncData
  F_MustTies_told : FunD K "told" "MustTies.told" (defArgs s_MustTies_told) (defBody s_MustTies_told) (defScope s_MustTies_told) [] [] (He.ma K (He.ga K "MustTies") "told") fd_MustTies_told
  k_MustTies_told : Binds K fd_MustTies_told ["self", "web"] []
  fd_MustPoints_told : FuncData
  F_MustPoints_told : FunD K "told" "MustPoints.told" (defArgs s_MustPoints_told) (defBody s_MustPoints_told) (defScope s_MustPoints_told) [] [] (He.ma K (He.ga K "MustPoints") "told") fd_MustPoints_told
  k_MustPoints_told : Binds K fd_MustPoints_told ["self", "web"] []
  fd_PastPoint_init : FuncData
  F_PastPoint_init : FunD K "__init__" "PastPoint.__init__" (defArgs s_PastPoint_init) (defBody s_PastPoint_init) (defScope s_PastPoint_init) [] [] (He.ma K (He.ga K "PastPoint") "__init__") fd_PastPoint_init
  k_PastPoint_init : Binds K fd_PastPoint_init ["self", "one", "other", "name"] []
  fd_PastPoint_matter : FuncData
  F_PastPoint_matter : FunD K "matter" "PastPoint.matter" (defArgs s_PastPoint_matter) (defBody s_PastPoint_matter) (defScope s_PastPoint_matter) [] [] (He.ma K (He.ga K "PastPoint") "matter") fd_PastPoint_matter
  k_PastPoint_matter : Binds K fd_PastPoint_matter ["self"] []
  fd_PastPoint_told : FuncData
  F_PastPoint_told : FunD K "told" "PastPoint.told" (defArgs s_PastPoint_told) (defBody s_PastPoint_told) (defScope s_PastPoint_told) [] [] (He.ma K (He.ga K "PastPoint") "told") fd_PastPoint_told
  k_PastPoint_told : Binds K fd_PastPoint_told ["self", "web"] []
  fd_RingThrough_told : FuncData
  F_RingThrough_told : FunD K "told" "RingThrough.told" (defArgs s_RingThrough_told) (defBody s_RingThrough_told) (defScope s_RingThrough_told) [] [] (He.ma K (He.ga K "RingThrough") "told") fd_RingThrough_told
  k_RingThrough_told : Binds K fd_RingThrough_told ["self", "web"] []
  fd_LeastWay_has_loads : FuncData
  F_LeastWay_has_loads : FunD K "has_loads" "LeastWay.has_loads" (defArgs s_LeastWay_has_loads) (defBody s_LeastWay_has_loads) (defScope s_LeastWay_has_loads) [] [] (He.ma K (He.ga K "LeastWay") "has_loads") fd_LeastWay_has_loads
  k_LeastWay_has_loads : Binds K fd_LeastWay_has_loads ["self"] []
  fd_LeastWay_told : FuncData
  F_LeastWay_told : FunD K "told" "LeastWay.told" (defArgs s_LeastWay_told) (defBody s_LeastWay_told) (defScope s_LeastWay_told) [] [] (He.ma K (He.ga K "LeastWay") "told") fd_LeastWay_told
  k_LeastWay_told : Binds K fd_LeastWay_told ["self", "web"] []
  fd_FewestTies_told : FuncData
  F_FewestTies_told : FunD K "told" "FewestTies.told" (defArgs s_FewestTies_told) (defBody s_FewestTies_told) (defScope s_FewestTies_told) [] [] (He.ma K (He.ga K "FewestTies") "told") fd_FewestTies_told
  k_FewestTies_told : Binds K fd_FewestTies_told ["self", "web"] []
  fd_WaysApart_told : FuncData
  F_WaysApart_told : FunD K "told" "WaysApart.told" (defArgs s_WaysApart_told) (defBody s_WaysApart_told) (defScope s_WaysApart_told) [] [] (He.ma K (He.ga K "WaysApart") "told") fd_WaysApart_told
  k_WaysApart_told : Binds K fd_WaysApart_told ["self", "web"] []
  fd_ThePieces_told : FuncData
  F_ThePieces_told : FunD K "told" "ThePieces.told" (defArgs s_ThePieces_told) (defBody s_ThePieces_told) (defScope s_ThePieces_told) [] [] (He.ma K (He.ga K "ThePieces") "told") fd_ThePieces_told
  k_ThePieces_told : Binds K fd_ThePieces_told ["self", "web"] []
  fd_TheKnots_told : FuncData
  F_TheKnots_told : FunD K "told" "TheKnots.told" (defArgs s_TheKnots_told) (defBody s_TheKnots_told) (defScope s_TheKnots_told) [] [] (He.ma K (He.ga K "TheKnots") "told") fd_TheKnots_told
  k_TheKnots_told : Binds K fd_TheKnots_told ["self", "web"] []
  fd_TwoSides_told : FuncData
  F_TwoSides_told : FunD K "told" "TwoSides.told" (defArgs s_TwoSides_told) (defBody s_TwoSides_told) (defScope s_TwoSides_told) [] [] (He.ma K (He.ga K "TwoSides") "told") fd_TwoSides_told
  k_TwoSides_told : Binds K fd_TwoSides_told ["self", "web"] []
  fd_LightestForest_has_loads : FuncData
  F_LightestForest_has_loads : FunD K "has_loads" "LightestForest.has_loads" (defArgs s_LightestForest_has_loads) (defBody s_LightestForest_has_loads) (defScope s_LightestForest_has_loads) [] [] (He.ma K (He.ga K "LightestForest") "has_loads") fd_LightestForest_has_loads
  k_LightestForest_has_loads : Binds K fd_LightestForest_has_loads ["self"] []
  fd_LightestForest_told : FuncData
  F_LightestForest_told : FunD K "told" "LightestForest.told" (defArgs s_LightestForest_told) (defBody s_LightestForest_told) (defScope s_LightestForest_told) [] [] (He.ma K (He.ga K "LightestForest") "told") fd_LightestForest_told
  k_LightestForest_told : Binds K fd_LightestForest_told ["self", "web"] []
  fd_TheStarts_told : FuncData
  F_TheStarts_told : FunD K "told" "TheStarts.told" (defArgs s_TheStarts_told) (defBody s_TheStarts_told) (defScope s_TheStarts_told) [] [] (He.ma K (He.ga K "TheStarts") "told") fd_TheStarts_told
  k_TheStarts_told : Binds K fd_TheStarts_told ["self", "web"] []
  fd_TheLeaves_told : FuncData
  F_TheLeaves_told : FunD K "told" "TheLeaves.told" (defArgs s_TheLeaves_told) (defBody s_TheLeaves_told) (defScope s_TheLeaves_told) [] [] (He.ma K (He.ga K "TheLeaves") "told") fd_TheLeaves_told
  k_TheLeaves_told : Binds K fd_TheLeaves_told ["self", "web"] []
  fd_need_names : FuncData
  F_need_names : FunD K "_need_names" "_need_names" (defArgs s_need_names) (defBody s_need_names) (defScope s_need_names) [] [] (He.ga K "_need_names") fd_need_names
  k_need_names : Binds K fd_need_names ["words", "many"] []
  fd_question : FuncData
  F_question : FunD K "_question" "_question" (defArgs s_question) (defBody s_question) (defScope s_question) [] [] (He.ga K "_question") fd_question
  k_question : Binds K fd_question ["word", "names"] []
  fd_question_of : FuncData
  F_question_of : FunD K "question_of" "question_of" (defArgs s_question_of) (defBody s_question_of) (defScope s_question_of) [] [] (He.ga K "question_of") fd_question_of
  k_question_of : Binds K fd_question_of ["text"] []
  fd_law_number : FuncData
  F_law_number : FunD K "_law_number" "_law_number" (defArgs s_law_number) (defBody s_law_number) (defScope s_law_number) [] [] (He.ga K "_law_number") fd_law_number
  k_law_number : Binds K fd_law_number ["_law_script", "_law_k"] []
  fd_law_names : FuncData
  F_law_names : FunD K "_law_names" "_law_names" (defArgs s_law_names) (defBody s_law_names) (defScope s_law_names) [] [] (He.ga K "_law_names") fd_law_names
  k_law_names : Binds K fd_law_names ["_law_number_here", "_law_many"] []
  fd_law_kinds : FuncData
  F_law_kinds : FunD K "_law_kinds" "_law_kinds" (defArgs s_law_kinds) (defBody s_law_kinds) (defScope s_law_kinds) [] [] (He.ga K "_law_kinds") fd_law_kinds
  k_law_kinds : Binds K fd_law_kinds ["_law_found"] []
  fd_law_made : FuncData
  F_law_made : FunD K "_law_made" "_law_made" (defArgs s_law_made) (defBody s_law_made) (defScope s_law_made) [] [] (He.ga K "_law_made") fd_law_made
  k_law_made : Binds K fd_law_made ["_law_word", "_law_names_here"] []
  fd_law_right : FuncData
  F_law_right : FunD K "_law_right" "_law_right" (defArgs s_law_right) (defBody s_law_right) (defScope s_law_right) [] [] (He.ga K "_law_right") fd_law_right
  k_law_right : Binds K fd_law_right ["_law_found", "_law_word", "_law_names_here"] []
  fd_law : FuncData
  F_law : FunD K "law" "law" (defArgs s_law) (defBody s_law) (defScope s_law) [] [] (He.ga K "law") fd_law
  k_law : Binds K fd_law ["_law_script"] []
/-- how many names stand behind a word -/
def kvN : List (Str × He.Dv) := [("together", .int 2), ("comes", .int 2), ("must", .int 2), ("points", .int 2), ("past", .int 3), ("ring", .int 2), ("least", .int 2), ("fewest", .int 2), ("apart", .int 2), ("pieces", .int 0), ("knots", .int 0), ("sides", .int 0), ("lightest", .int 0), ("starts", .int 0), ("leaves", .int 0)]
structure Js (P : Program) (w : World) (K : PySem.W.Frag) (mg : Str → Option Value) (base : Heap) : Prop where
  i_BadText : EVX.IniOk P w K mg base "BadText" "place"
  kt : He.KTab K w (He.ga K "NAMES_BEHIND") kvN
/-! ### the questions' classes -/
def clB (K : PySem.W.Frag) (C : Addr) : Bool := PySem.W.plainGet K C Str.empty && (PySem.W.hasDictIn K C && (PySem.W.plainOver K C && He.eqO (PySem.W.findIn K (.ref C) "__setattr__") (some (some (.builtin "object.__setattr__")))))
def meB (K : PySem.W.Frag) (C : Addr) (m : Str) (f : Addr) : Bool := He.eqO (PySem.W.findIn K (.ref C) m) (some (some (.ref f))) && (PySem.W.isFn K (.ref f) && PySem.W.keepIn K (.ref f))
def noB (K : PySem.W.Frag) (C : Addr) (f : Str) : Bool := He.eqO (PySem.W.findIn K (.ref C) f) (some none)
def mkB (K : PySem.W.Frag) (C f : Addr) : Bool := PySem.W.makesIn K C && (He.eqO (PySem.W.findIn K (.ref C) "__init__") (some (some (.ref f))) && (PySem.W.isFn K (.ref f) && PySem.W.keepIn K (.ref C)))
def two : List (Str × Str) := [("HangsTogether", "together"), ("ComesThere", "comes"), ("MustTies", "must"), ("MustPoints", "points"), ("RingThrough", "ring"), ("LeastWay", "least"), ("FewestTies", "fewest"), ("WaysApart", "apart")]
def none0 : List (Str × Str) := [("ThePieces", "pieces"), ("TheKnots", "knots"), ("TwoSides", "sides"), ("LightestForest", "lightest"), ("TheStarts", "starts"), ("TheLeaves", "leaves")]
/-- all classes, as the law asks for them -/
def cls : List Str := two.map (·.1) ++ (("PastPoint" : Str) :: none0.map (·.1))
/-- whose has_loads a class has -/
def lo (C : Str) : Str := if C ∈ (["LeastWay", "LightestForest"] : List Str) then C else "Question"
/-- what an instance of a class is -/
def isA (K : PySem.W.Frag) (x : Str) : Bool :=
  decide (PySem.W.findIn K (.ref (He.ga K x)) "__class__" = some (some (.builtin "object.__class__"))) && decide (PySem.W.mroIn K (He.ga K x) (.type "object") = some true)
def isTo (K : PySem.W.Frag) (x y : Str) (b : Bool) : Bool := decide (PySem.W.kitOne K (.ref (He.ga K x)) (.ref (He.ga K y)) = some b)
def ggB (K : PySem.W.Frag) : Bool := decide (PySem.W.specialIn K (.builtin "object.__class__") "__get__" = some (some (.builtin "getset_descriptor.__get__"))) && decide (PySem.W.takesIn K (.builtin "object.__class__") = some true)
def isqB (K : PySem.W.Frag) (C : Str) : Bool := isA K C && (isTo K C "Question" true && cls.all fun y => isTo K C y (decide (y = C)))
/-- a question's class: its word, whose matter it has -/
def qB (K : PySem.W.Frag) (C b z : Str) : Bool := clB K (He.ga K C) && (He.conB K C "WORD" (.str z) && (meB K (He.ga K C) "text" (He.ma K (He.ga K "Question") "text") && (meB K (He.ga K C) "matter" (He.ma K (He.ga K b) "matter") && (noB K (He.ga K C) "one" && (noB K (He.ga K C) "other" && (noB K (He.ga K C) "name" && (meB K (He.ga K C) "has_loads" (He.ma K (He.ga K (lo C)) "has_loads") && isqB K C)))))))
structure QC (K : PySem.W.Frag) (C b z : Str) : Prop where
  cl : Cls K (He.ga K C)
  word : ∃ u, Con K (He.ga K C) "WORD" (.str z) u
  text : Meth K (He.ga K C) "text" (He.ma K (He.ga K "Question") "text")
  matter : Meth K (He.ga K C) "matter" (He.ma K (He.ga K b) "matter")
  n1 : NoAttr K (He.ga K C) "one"
  n2 : NoAttr K (He.ga K C) "other"
  n3 : NoAttr K (He.ga K C) "name"
  loads : Meth K (He.ga K C) "has_loads" (He.ma K (He.ga K (lo C)) "has_loads")
  isq : isqB K C = true
theorem me_ok {K : PySem.W.Frag} {C f : Addr} {m : Str} (h : meB K C m f = true) : Meth K C m f := by
  unfold meB at h
  simp only [Bool.and_eq_true] at h
  exact ⟨He.eqO_ok h.1, h.2.1, h.2.2⟩
theorem q_ok {K : PySem.W.Frag} {C b z : Str} (h : qB K C b z = true) : QC K C b z := by
  unfold qB clB noB at h
  simp only [Bool.and_eq_true] at h
  obtain ⟨⟨a1, a2, a3, a4⟩, h2, h3, h4, h5, h6, h7, h8, h9⟩ := h
  exact ⟨⟨a1, a2, a3, He.eqO_ok a4⟩, He.conB_ok h2, me_ok h3, me_ok h4, He.eqO_ok h5, He.eqO_ok h6, He.eqO_ok h7, me_ok h8, h9⟩
theorem mk_ok {K : PySem.W.Frag} {C f : Addr} (h : mkB K C f = true) : Mk K C f := by
  unfold mkB at h
  simp only [Bool.and_eq_true] at h
  exact ⟨h.1, He.eqO_ok h.2.1, h.2.2.1, h.2.2.2⟩
def qs (K : PySem.W.Frag) : Bool := (two.all fun c => qB K c.1 "OfTwo" c.2 && mkB K (He.ga K c.1) (He.ma K (He.ga K "OfTwo") "__init__")) && ((qB K "PastPoint" "PastPoint" "past" && mkB K (He.ga K "PastPoint") (He.ma K (He.ga K "PastPoint") "__init__")) && (none0.all fun c => qB K c.1 "Question" c.2 && CLX.mk0B K (He.ga K c.1)))
def extra (K : PySem.W.Frag) : Bool := EVX.iniB K "/claim/cut.py" "BadText" "place" && (ggB K && (qs K && He.valsB K (He.ga K "NAMES_BEHIND") kvN))
section
variable {K : PySem.W.Frag} {C z : Str}
theorem ktabB (xk : extra K = true) : He.valsB K (He.ga K "NAMES_BEHIND") kvN = true := by
  unfold extra at xk
  simp only [Bool.and_eq_true] at xk
  exact xk.2.2.2
theorem gg_of (xk : extra K = true) : ggB K = true := by
  unfold extra at xk
  simp only [Bool.and_eq_true] at xk
  exact xk.2.1
theorem qs_of (xk : extra K = true) : qs K = true := by
  unfold extra at xk
  simp only [Bool.and_eq_true] at xk
  exact xk.2.2.1
theorem q_two (xk : extra K = true) (h : (C, z) ∈ two) : QC K C "OfTwo" z ∧ Mk K (He.ga K C) (He.ma K (He.ga K "OfTwo") "__init__") := by
  have q := qs_of xk
  unfold qs at q
  rw [Bool.and_eq_true] at q
  have := List.all_eq_true.mp q.1 (C, z) h
  rw [Bool.and_eq_true] at this
  exact ⟨q_ok this.1, mk_ok this.2⟩
theorem q_three (xk : extra K = true) : QC K "PastPoint" "PastPoint" "past" ∧ Mk K (He.ga K "PastPoint") (He.ma K (He.ga K "PastPoint") "__init__") := by
  have q := qs_of xk
  unfold qs at q
  rw [Bool.and_eq_true, Bool.and_eq_true, Bool.and_eq_true] at q
  exact ⟨q_ok q.2.1.1, mk_ok q.2.1.2⟩
theorem q_none (xk : extra K = true) (h : (C, z) ∈ none0) : QC K C "Question" z ∧ CLX.Mk0 K (He.ga K C) := by
  have q := qs_of xk
  unfold qs at q
  rw [Bool.and_eq_true, Bool.and_eq_true] at q
  have := List.all_eq_true.mp q.2.2 (C, z) h
  rw [Bool.and_eq_true] at this
  exact ⟨q_ok this.1, CLX.mk0_ok this.2⟩
theorem mk_two (xk : extra K = true) (h : C ∈ two.map (·.1)) : Mk K (He.ga K C) (He.ma K (He.ga K "OfTwo") "__init__") := by
  obtain ⟨⟨c, z⟩, hm, rfl⟩ := List.mem_map.mp h
  exact (q_two xk hm).2
theorem mk_three (xk : extra K = true) (h : C ∈ (["PastPoint"] : List Str)) : Mk K (He.ga K C) (He.ma K (He.ga K "PastPoint") "__init__") := by
  rw [List.mem_singleton.mp h]
  exact (q_three xk).2
theorem mk_none (xk : extra K = true) (h : C ∈ none0.map (·.1)) : CLX.Mk0 K (He.ga K C) := by
  obtain ⟨⟨c, z⟩, hm, rfl⟩ := List.mem_map.mp h
  exact (q_none xk hm).2
end
end K25

set_option Elab.async false
set_option linter.all false
set_option maxRecDepth 100000
set_option maxHeartbeats 4000000

namespace K25
open PySem PySem.Spec PyProof.Rows L2 HX
def d_has_only : He.DefD := ⟨("_has_only", none), "_has_only", "_has_only", defArgs s_has_only, defBody s_has_only, defScope s_has_only, [], []⟩
def d_is_name : He.DefD := ⟨("is_name", none), "is_name", "is_name", defArgs s_is_name, defBody s_is_name, defScope s_is_name, [], []⟩
def d_number_text : He.DefD := ⟨("number_text", none), "number_text", "number_text", defArgs s_number_text, defBody s_number_text, defScope s_number_text, [], []⟩
def d_need_all : He.DefD := ⟨("need_all", none), "need_all", "need_all", defArgs s_need_all, defBody s_need_all, defScope s_need_all, [], []⟩
def d_names_in : He.DefD := ⟨("names_in", none), "names_in", "names_in", defArgs s_names_in, defBody s_names_in, defScope s_names_in, [], []⟩
def d_plain_steps : He.DefD := ⟨("plain_steps", none), "plain_steps", "plain_steps", defArgs s_plain_steps, defBody s_plain_steps, defScope s_plain_steps, [], []⟩
def d_free_steps : He.DefD := ⟨("free_steps", none), "free_steps", "free_steps", defArgs s_free_steps, defBody s_free_steps, defScope s_free_steps, [], []⟩
def d_came_from : He.DefD := ⟨("came_from", none), "came_from", "came_from", defArgs s_came_from, defBody s_came_from, defScope s_came_from, [], []⟩
def d_numbers_to : He.DefD := ⟨("numbers_to", none), "numbers_to", "numbers_to", defArgs s_numbers_to, defBody s_numbers_to, defScope s_numbers_to, [], []⟩
def d_Way_init : He.DefD := ⟨("Way", some "__init__"), "__init__", "Way.__init__", defArgs s_Way_init, defBody s_Way_init, defScope s_Way_init, [], []⟩
def d_Border_init : He.DefD := ⟨("Border", some "__init__"), "__init__", "Border.__init__", defArgs s_Border_init, defBody s_Border_init, defScope s_Border_init, [], []⟩
def d_Sides_init : He.DefD := ⟨("Sides", some "__init__"), "__init__", "Sides.__init__", defArgs s_Sides_init, defBody s_Sides_init, defScope s_Sides_init, [], []⟩
def d_OddRing_init : He.DefD := ⟨("OddRing", some "__init__"), "__init__", "OddRing.__init__", defArgs s_OddRing_init, defBody s_OddRing_init, defScope s_OddRing_init, [], []⟩
def d_grouped : He.DefD := ⟨("grouped", none), "grouped", "grouped", defArgs s_grouped, defBody s_grouped, defScope s_grouped, [], []⟩
def d_pieces : He.DefD := ⟨("pieces", none), "pieces", "pieces", defArgs s_pieces, defBody s_pieces, defScope s_pieces, [], []⟩
def d_way_or_border : He.DefD := ⟨("way_or_border", none), "way_or_border", "way_or_border", defArgs s_way_or_border, defBody s_way_or_border, defScope s_way_or_border, [], []⟩
def d_together : He.DefD := ⟨("together", none), "together", "together", defArgs s_together, defBody s_together, defScope s_together, [], []⟩
def d_joining : He.DefD := ⟨("joining", none), "joining", "joining", defArgs s_joining, defBody s_joining, defScope s_joining, [], []⟩
def d_ring : He.DefD := ⟨("_ring", none), "_ring", "_ring", defArgs s_ring, defBody s_ring, defScope s_ring, [], []⟩
def d_sides_by : He.DefD := ⟨("_sides_by", none), "_sides_by", "_sides_by", defArgs s_sides_by, defBody s_sides_by, defScope s_sides_by, [], []⟩
def d_sides : He.DefD := ⟨("sides", none), "sides", "sides", defArgs s_sides, defBody s_sides, defScope s_sides, [], []⟩
def d_need_points : He.DefD := ⟨("need_points", none), "need_points", "need_points", defArgs s_need_points, defBody s_need_points, defScope s_need_points, [], []⟩
def d_border_by : He.DefD := ⟨("border_by", none), "border_by", "border_by", defArgs s_border_by, defBody s_border_by, defScope s_border_by, [], []⟩
def d_way_by : He.DefD := ⟨("way_by", none), "way_by", "way_by", defArgs s_way_by, defBody s_way_by, defScope s_way_by, [], []⟩
def d_came_plainly : He.DefD := ⟨("_came_plainly", none), "_came_plainly", "_came_plainly", defArgs s_came_plainly, defBody s_came_plainly, defScope s_came_plainly, [], []⟩
def d_came_without : He.DefD := ⟨("_came_without", none), "_came_without", "_came_without", defArgs s_came_without, defBody s_came_without, defScope s_came_without, [], []⟩
def d_came_past : He.DefD := ⟨("_came_past", none), "_came_past", "_came_past", defArgs s_came_past, defBody s_came_past, defScope s_came_past, [], []⟩
def d_must_ties : He.DefD := ⟨("must_ties", none), "must_ties", "must_ties", defArgs s_must_ties, defBody s_must_ties, defScope s_must_ties, [], []⟩
def d_must_points : He.DefD := ⟨("must_points", none), "must_points", "must_points", defArgs s_must_points, defBody s_must_points, defScope s_must_points, [], []⟩
def d_way_past : He.DefD := ⟨("way_past", none), "way_past", "way_past", defArgs s_way_past, defBody s_way_past, defScope s_way_past, [], []⟩
def d_leaves : He.DefD := ⟨("leaves", none), "leaves", "leaves", defArgs s_leaves, defBody s_leaves, defScope s_leaves, [], []⟩
def d_Ring_init : He.DefD := ⟨("Ring", some "__init__"), "__init__", "Ring.__init__", defArgs s_Ring_init, defBody s_Ring_init, defScope s_Ring_init, [], []⟩
def d_comes : He.DefD := ⟨("comes", none), "comes", "comes", defArgs s_comes, defBody s_comes, defScope s_comes, [], []⟩
def d_knots_by_points : He.DefD := ⟨("_knots_by_points", none), "_knots_by_points", "_knots_by_points", defArgs s_knots_by_points, defBody s_knots_by_points, defScope s_knots_by_points, [], []⟩
def d_is_led_into : He.DefD := ⟨("_is_led_into", none), "_is_led_into", "_is_led_into", defArgs s_is_led_into, defBody s_is_led_into, defScope s_is_led_into, [], []⟩
def d_first_free : He.DefD := ⟨("_first_free", none), "_first_free", "_first_free", defArgs s_first_free, defBody s_first_free, defScope s_first_free, [], []⟩
def d_knots : He.DefD := ⟨("knots", none), "knots", "knots", defArgs s_knots, defBody s_knots, defScope s_knots, [], []⟩
def d_ring_through : He.DefD := ⟨("ring_through", none), "ring_through", "ring_through", defArgs s_ring_through, defBody s_ring_through, defScope s_ring_through, [], []⟩
def d_starts : He.DefD := ⟨("starts", none), "starts", "starts", defArgs s_starts, defBody s_starts, defScope s_starts, [], []⟩
def d_Forest_init : He.DefD := ⟨("Forest", some "__init__"), "__init__", "Forest.__init__", defArgs s_Forest_init, defBody s_Forest_init, defScope s_Forest_init, [], []⟩
def d_Least_init : He.DefD := ⟨("Least", some "__init__"), "__init__", "Least.__init__", defArgs s_Least_init, defBody s_Least_init, defScope s_Least_init, [], []⟩
def d_Fewest_init : He.DefD := ⟨("Fewest", some "__init__"), "__init__", "Fewest.__init__", defArgs s_Fewest_init, defBody s_Fewest_init, defScope s_Fewest_init, [], []⟩
def d_Apart_init : He.DefD := ⟨("Apart", some "__init__"), "__init__", "Apart.__init__", defArgs s_Apart_init, defBody s_Apart_init, defScope s_Apart_init, [], []⟩
def d_lightest : He.DefD := ⟨("lightest", none), "lightest", "lightest", defArgs s_lightest, defBody s_lightest, defScope s_lightest, [], []⟩
def d_least_came : He.DefD := ⟨("_least_came", none), "_least_came", "_least_came", defArgs s_least_came, defBody s_least_came, defScope s_least_came, [], []⟩
def d_least_way : He.DefD := ⟨("least_way", none), "least_way", "least_way", defArgs s_least_way, defBody s_least_way, defScope s_least_way, [], []⟩
def d_layers : He.DefD := ⟨("_layers", none), "_layers", "_layers", defArgs s_layers, defBody s_layers, defScope s_layers, [], []⟩
def d_fewest : He.DefD := ⟨("fewest", none), "fewest", "fewest", defArgs s_fewest, defBody s_fewest, defScope s_fewest, [], []⟩
def d_open_steps : He.DefD := ⟨("_open_steps", none), "_open_steps", "_open_steps", defArgs s_open_steps, defBody s_open_steps, defScope s_open_steps, [], []⟩
def d_gone_steps : He.DefD := ⟨("_gone_steps", none), "_gone_steps", "_gone_steps", defArgs s_gone_steps, defBody s_gone_steps, defScope s_gone_steps, [], []⟩
def d_go : He.DefD := ⟨("_go", none), "_go", "_go", defArgs s_go, defBody s_go, defScope s_go, [], []⟩
def d_ways_gone : He.DefD := ⟨("_ways_gone", none), "_ways_gone", "_ways_gone", defArgs s_ways_gone, defBody s_ways_gone, defScope s_ways_gone, [], []⟩
def d_ties_out : He.DefD := ⟨("_ties_out", none), "_ties_out", "_ties_out", defArgs s_ties_out, defBody s_ties_out, defScope s_ties_out, [], []⟩
def d_ways_apart : He.DefD := ⟨("ways_apart", none), "ways_apart", "ways_apart", defArgs s_ways_apart, defBody s_ways_apart, defScope s_ways_apart, [], []⟩
def d_row : He.DefD := ⟨("_row", none), "_row", "_row", defArgs s_row, defBody s_row, defScope s_row, [], []⟩
def d_number_row : He.DefD := ⟨("_number_row", none), "_number_row", "_number_row", defArgs s_number_row, defBody s_number_row, defScope s_number_row, [], []⟩
def d_name_rows : He.DefD := ⟨("_name_rows", none), "_name_rows", "_name_rows", defArgs s_name_rows, defBody s_name_rows, defScope s_name_rows, [], []⟩
def d_border_rows : He.DefD := ⟨("_border_rows", none), "_border_rows", "_border_rows", defArgs s_border_rows, defBody s_border_rows, defScope s_border_rows, [], []⟩
def d_way_rows : He.DefD := ⟨("_way_rows", none), "_way_rows", "_way_rows", defArgs s_way_rows, defBody s_way_rows, defScope s_way_rows, [], []⟩
def d_Question_text : He.DefD := ⟨("Question", some "text"), "text", "Question.text", defArgs s_Question_text, defBody s_Question_text, defScope s_Question_text, [], []⟩
def d_Question_matter : He.DefD := ⟨("Question", some "matter"), "matter", "Question.matter", defArgs s_Question_matter, defBody s_Question_matter, defScope s_Question_matter, [], []⟩
def d_Question_has_loads : He.DefD := ⟨("Question", some "has_loads"), "has_loads", "Question.has_loads", defArgs s_Question_has_loads, defBody s_Question_has_loads, defScope s_Question_has_loads, [], []⟩
def d_Question_told : He.DefD := ⟨("Question", some "told"), "told", "Question.told", defArgs s_Question_told, defBody s_Question_told, defScope s_Question_told, [], []⟩
def d_OfTwo_init : He.DefD := ⟨("OfTwo", some "__init__"), "__init__", "OfTwo.__init__", defArgs s_OfTwo_init, defBody s_OfTwo_init, defScope s_OfTwo_init, [], []⟩
def d_OfTwo_matter : He.DefD := ⟨("OfTwo", some "matter"), "matter", "OfTwo.matter", defArgs s_OfTwo_matter, defBody s_OfTwo_matter, defScope s_OfTwo_matter, [], []⟩
def d_HangsTogether_told : He.DefD := ⟨("HangsTogether", some "told"), "told", "HangsTogether.told", defArgs s_HangsTogether_told, defBody s_HangsTogether_told, defScope s_HangsTogether_told, [], []⟩
def d_ComesThere_told : He.DefD := ⟨("ComesThere", some "told"), "told", "ComesThere.told", defArgs s_ComesThere_told, defBody s_ComesThere_told, defScope s_ComesThere_told, [], []⟩
def d_MustTies_told : He.DefD := ⟨("MustTies", some "told"), "told", "MustTies.told", defArgs s_MustTies_told, defBody s_MustTies_told, defScope s_MustTies_told, [], []⟩
def d_MustPoints_told : He.DefD := ⟨("MustPoints", some "told"), "told", "MustPoints.told", defArgs s_MustPoints_told, defBody s_MustPoints_told, defScope s_MustPoints_told, [], []⟩
def d_PastPoint_init : He.DefD := ⟨("PastPoint", some "__init__"), "__init__", "PastPoint.__init__", defArgs s_PastPoint_init, defBody s_PastPoint_init, defScope s_PastPoint_init, [], []⟩
def d_PastPoint_matter : He.DefD := ⟨("PastPoint", some "matter"), "matter", "PastPoint.matter", defArgs s_PastPoint_matter, defBody s_PastPoint_matter, defScope s_PastPoint_matter, [], []⟩
def d_PastPoint_told : He.DefD := ⟨("PastPoint", some "told"), "told", "PastPoint.told", defArgs s_PastPoint_told, defBody s_PastPoint_told, defScope s_PastPoint_told, [], []⟩
def d_RingThrough_told : He.DefD := ⟨("RingThrough", some "told"), "told", "RingThrough.told", defArgs s_RingThrough_told, defBody s_RingThrough_told, defScope s_RingThrough_told, [], []⟩
def d_LeastWay_has_loads : He.DefD := ⟨("LeastWay", some "has_loads"), "has_loads", "LeastWay.has_loads", defArgs s_LeastWay_has_loads, defBody s_LeastWay_has_loads, defScope s_LeastWay_has_loads, [], []⟩
def d_LeastWay_told : He.DefD := ⟨("LeastWay", some "told"), "told", "LeastWay.told", defArgs s_LeastWay_told, defBody s_LeastWay_told, defScope s_LeastWay_told, [], []⟩
def d_FewestTies_told : He.DefD := ⟨("FewestTies", some "told"), "told", "FewestTies.told", defArgs s_FewestTies_told, defBody s_FewestTies_told, defScope s_FewestTies_told, [], []⟩
def d_WaysApart_told : He.DefD := ⟨("WaysApart", some "told"), "told", "WaysApart.told", defArgs s_WaysApart_told, defBody s_WaysApart_told, defScope s_WaysApart_told, [], []⟩
def d_ThePieces_told : He.DefD := ⟨("ThePieces", some "told"), "told", "ThePieces.told", defArgs s_ThePieces_told, defBody s_ThePieces_told, defScope s_ThePieces_told, [], []⟩
def d_TheKnots_told : He.DefD := ⟨("TheKnots", some "told"), "told", "TheKnots.told", defArgs s_TheKnots_told, defBody s_TheKnots_told, defScope s_TheKnots_told, [], []⟩
def d_TwoSides_told : He.DefD := ⟨("TwoSides", some "told"), "told", "TwoSides.told", defArgs s_TwoSides_told, defBody s_TwoSides_told, defScope s_TwoSides_told, [], []⟩
def d_LightestForest_has_loads : He.DefD := ⟨("LightestForest", some "has_loads"), "has_loads", "LightestForest.has_loads", defArgs s_LightestForest_has_loads, defBody s_LightestForest_has_loads, defScope s_LightestForest_has_loads, [], []⟩
def d_LightestForest_told : He.DefD := ⟨("LightestForest", some "told"), "told", "LightestForest.told", defArgs s_LightestForest_told, defBody s_LightestForest_told, defScope s_LightestForest_told, [], []⟩
def d_TheStarts_told : He.DefD := ⟨("TheStarts", some "told"), "told", "TheStarts.told", defArgs s_TheStarts_told, defBody s_TheStarts_told, defScope s_TheStarts_told, [], []⟩
def d_TheLeaves_told : He.DefD := ⟨("TheLeaves", some "told"), "told", "TheLeaves.told", defArgs s_TheLeaves_told, defBody s_TheLeaves_told, defScope s_TheLeaves_told, [], []⟩
def d_need_names : He.DefD := ⟨("_need_names", none), "_need_names", "_need_names", defArgs s_need_names, defBody s_need_names, defScope s_need_names, [], []⟩
def d_question : He.DefD := ⟨("_question", none), "_question", "_question", defArgs s_question, defBody s_question, defScope s_question, [], []⟩
def d_question_of : He.DefD := ⟨("question_of", none), "question_of", "question_of", defArgs s_question_of, defBody s_question_of, defScope s_question_of, [], []⟩
def d_law_number : He.DefD := ⟨("_law_number", none), "_law_number", "_law_number", defArgs s_law_number, defBody s_law_number, defScope s_law_number, [], []⟩
def d_law_names : He.DefD := ⟨("_law_names", none), "_law_names", "_law_names", defArgs s_law_names, defBody s_law_names, defScope s_law_names, [], []⟩
def d_law_kinds : He.DefD := ⟨("_law_kinds", none), "_law_kinds", "_law_kinds", defArgs s_law_kinds, defBody s_law_kinds, defScope s_law_kinds, [], []⟩
def d_law_made : He.DefD := ⟨("_law_made", none), "_law_made", "_law_made", defArgs s_law_made, defBody s_law_made, defScope s_law_made, [], []⟩
def d_law_right : He.DefD := ⟨("_law_right", none), "_law_right", "_law_right", defArgs s_law_right, defBody s_law_right, defScope s_law_right, [], []⟩
def d_law : He.DefD := ⟨("law", none), "law", "law", defArgs s_law, defBody s_law, defScope s_law, [], []⟩
def fn : List He.DefD := [d_has_only, d_is_name, d_number_text, d_need_all, d_names_in, d_plain_steps, d_free_steps, d_came_from, d_numbers_to, d_Way_init, d_Border_init, d_Sides_init, d_OddRing_init, d_grouped, d_pieces, d_way_or_border, d_together, d_joining, d_ring, d_sides_by, d_sides, d_need_points, d_border_by, d_way_by, d_came_plainly, d_came_without, d_came_past, d_must_ties, d_must_points, d_way_past, d_leaves, d_Ring_init, d_comes, d_knots_by_points, d_is_led_into, d_first_free, d_knots, d_ring_through, d_starts, d_Forest_init, d_Least_init, d_Fewest_init, d_Apart_init, d_lightest, d_least_came, d_least_way, d_layers, d_fewest, d_open_steps, d_gone_steps, d_go, d_ways_gone, d_ties_out, d_ways_apart, d_row, d_number_row, d_name_rows, d_border_rows, d_way_rows, d_Question_text, d_Question_matter, d_Question_has_loads, d_Question_told, d_OfTwo_init, d_OfTwo_matter, d_HangsTogether_told, d_ComesThere_told, d_MustTies_told, d_MustPoints_told, d_PastPoint_init, d_PastPoint_matter, d_PastPoint_told, d_RingThrough_told, d_LeastWay_has_loads, d_LeastWay_told, d_FewestTies_told, d_WaysApart_told, d_ThePieces_told, d_TheKnots_told, d_TwoSides_told, d_LightestForest_has_loads, d_LightestForest_told, d_TheStarts_told, d_TheLeaves_told, d_need_names, d_question, d_question_of, d_law_number, d_law_names, d_law_kinds, d_law_made, d_law_right, d_law]
def fa : List He.Fa := [.free "NotImplementedError", .free "any", .free "bool", .free "dict", .free "enumerate", .free "isinstance", .free "len", .free "list", .free "max", .free "min", .free "point", .free "range", .free "set", .free "sorted", .free "str", .free "sum", .free "tie", .glo "NAMES_BEHIND", .str "LETTERS" "abcdefghijklmnopqrstuvwxyz", .int "MOST_LETTERS" 12, .glo "Way", .cls "Way", .mkr "Way", .noat "Way" "numbers", .glo "Border", .cls "Border", .mkr "Border", .noat "Border" "names", .glo "Sides", .cls "Sides", .mkr "Sides", .noat "Sides" "sides", .glo "OddRing", .cls "OddRing", .mkr "OddRing", .noat "OddRing" "numbers", .glo "Ring", .cls "Ring", .mkr "Ring", .noat "Ring" "numbers", .glo "Forest", .cls "Forest", .mkr "Forest", .noat "Forest" "numbers", .noat "Forest" "load", .glo "Least", .cls "Least", .mkr "Least", .noat "Least" "numbers", .noat "Least" "load", .noat "Least" "heights", .glo "Fewest", .cls "Fewest", .mkr "Fewest", .noat "Fewest" "numbers", .noat "Fewest" "layers", .glo "Apart", .cls "Apart", .mkr "Apart", .noat "Apart" "ways", .noat "Apart" "wall", .glo "Question", .glo "OfTwo", .glo "HangsTogether", .glo "ComesThere", .glo "MustTies", .glo "MustPoints", .glo "PastPoint", .glo "RingThrough", .glo "LeastWay", .glo "FewestTies", .glo "WaysApart", .glo "ThePieces", .glo "TheKnots", .glo "TwoSides", .glo "LightestForest", .glo "TheStarts", .glo "TheLeaves", .free "super", .glo "WebError", .glo "BadText", .exm "BadText" "WebError" true, .glo "_has_only", .glo "is_name", .glo "number_text", .glo "need_all", .glo "names_in", .glo "plain_steps", .glo "free_steps", .glo "came_from", .glo "numbers_to", .glo "grouped", .glo "pieces", .glo "way_or_border", .glo "together", .glo "joining", .glo "_ring", .glo "_sides_by", .glo "sides", .glo "need_points", .glo "border_by", .glo "way_by", .glo "_came_plainly", .glo "_came_without", .glo "_came_past", .glo "must_ties", .glo "must_points", .glo "way_past", .glo "leaves", .glo "comes", .glo "_knots_by_points", .glo "_is_led_into", .glo "_first_free", .glo "knots", .glo "ring_through", .glo "starts", .glo "lightest", .glo "_least_came", .glo "least_way", .glo "_layers", .glo "fewest", .glo "_open_steps", .glo "_gone_steps", .glo "_go", .glo "_ways_gone", .glo "_ties_out", .glo "ways_apart", .glo "_row", .glo "_number_row", .glo "_name_rows", .glo "_border_rows", .glo "_way_rows", .glo "_need_names", .glo "_question", .glo "question_of", .glo "_law_number", .glo "_law_names", .glo "_law_kinds", .glo "_law_made", .glo "_law_right", .glo "law"]
abbrev R : PySem.W.OpenRow := PySem.W.OpenLaw.row PySem.Challenge.rw_reachbook_k25_questions_as_texts
def kts : List He.Tab := [((fun K => He.ga K "NAMES_BEHIND"), ["together", "comes", "must", "points", "past", "ring", "least", "fewest", "apart", "pieces", "knots", "sides", "lightest", "starts", "leaves"])]
abbrev hk : PySem.W.Hook := He.hookW 6 extra fa fn kts
def ob (s : PySem.W.SharedT) : He.AlW := He.obsWG 6 extra fa fn kts (HandSHeadRun.getT s)
theorem ob_eq (s : PySem.W.SharedT) : ob s = hk.obs s.abs := He.obsWG_eq (HandSHeadRun.getT_eq s)
def loose0 : List Str := ["WebError", "SamePoint", "NoPoint", "BadText", "_has_only", "is_name", "number_text", "need_all", "names_in", "plain_steps", "free_steps", "came_from", "numbers_to", "Way", "Border", "Sides", "OddRing", "grouped", "pieces", "way_or_border", "together", "joining", "_ring", "_sides_by", "sides", "need_points", "border_by", "way_by", "_came_plainly", "_came_without"]
def loose1 : List Str := ["_came_past", "must_ties", "must_points", "way_past", "leaves", "Ring", "comes", "_knots_by_points", "_is_led_into", "_first_free", "knots", "ring_through", "starts", "Forest", "Least", "Fewest", "Apart", "lightest", "_least_came", "least_way", "_layers", "fewest", "_open_steps", "_gone_steps", "_go", "_ways_gone", "_ties_out", "ways_apart", "_row", "_number_row"]
def loose2 : List Str := ["_name_rows", "_border_rows", "_way_rows", "Question", "OfTwo", "HangsTogether", "ComesThere", "MustTies", "MustPoints", "PastPoint", "RingThrough", "LeastWay", "FewestTies", "WaysApart", "ThePieces", "TheKnots", "TwoSides", "LightestForest", "TheStarts", "TheLeaves", "_need_names", "_question", "question_of", "_law_number", "_law_names", "_law_kinds", "_law_made", "_law_right", "LETTERS", "MOST_LETTERS"]
def loose3 : List Str := ["NAMES_BEHIND"]
def loose : List Str := loose0 ++ loose1 ++ loose2 ++ loose3
theorem run_false (w : World) : HandSHeadRun.RunEq R (PySem.W.view R.prog [100]) hk ob 20000 loose (He.wT w false) := by
  intro os
  kernel_rfl
theorem run_true (w : World) : HandSHeadRun.RunEq R (PySem.W.view R.prog [100]) hk ob 20000 loose (He.wT w true) := by
  intro os
  kernel_rfl
theorem run (w : World) : HandSHeadRun.RunEq R (PySem.W.view R.prog [100]) hk ob 20000 loose w := He.wT_all run_false run_true w
end K25

set_option Elab.async false
set_option linter.all false
set_option maxRecDepth 100000
set_option maxHeartbeats 2000000
/-! KW: webs as plain data, and how they lie in the heap. -/
namespace WB
open PySem PySem.Spec PyProof.Rows L2 HX
/-! ### two lists side by side -/
inductive Two {α β : Type} (R : α → β → Prop) : List α → List β → Prop where
  | nil : Two R [] []
  | cons {a : α} {b : β} {as : List α} {bs : List β} (h : R a b) (t : Two R as bs) : Two R (a :: as) (b :: bs)
namespace Two
variable {α β γ δ : Type} {R : α → β → Prop} {as : List α} {bs : List β}
theorem len (h : Two R as bs) : as.length = bs.length := by
  induction h with
  | nil => rfl
  | cons _ _ ih => simp [ih]
theorem mono {S : α → β → Prop} (h : Two R as bs) (c : ∀ a b, R a b → S a b) : Two S as bs := by
  induction h with
  | nil => exact .nil
  | cons h _ ih => exact .cons (c _ _ h) ih
theorem app {cs : List α} {ds : List β} (h : Two R as bs) (g : Two R cs ds) : Two R (as ++ cs) (bs ++ ds) := by
  induction h with
  | nil => exact g
  | cons h _ ih => exact .cons h ih
theorem get (h : Two R as bs) : ∀ {i : Nat} {a : α}, as[i]? = some a → ∃ b, bs[i]? = some b ∧ R a b := by
  induction h with
  | nil => intro i a e; simp at e
  | cons h _ ih =>
    intro i a e
    cases i with
    | zero => cases e; exact ⟨_, rfl, h⟩
    | succ j => exact ih e
theorem getr (h : Two R as bs) : ∀ {i : Nat} {b : β}, bs[i]? = some b → ∃ a, as[i]? = some a ∧ R a b := by
  induction h with
  | nil => intro i a e; simp at e
  | cons h _ ih =>
    intro i a e
    cases i with
    | zero => cases e; exact ⟨_, rfl, h⟩
    | succ j => exact ih e
theorem map {S : γ → δ → Prop} {f : α → γ} {g : β → δ} (h : Two R as bs) (c : ∀ a b, R a b → S (f a) (g b)) : Two S (as.map f) (bs.map g) := by
  induction h with
  | nil => exact .nil
  | cons h _ ih => exact .cons (c _ _ h) ih
theorem filter {p : α → Bool} {q : β → Bool} (h : Two R as bs) (c : ∀ a b, R a b → p a = q b) : Two R (as.filter p) (bs.filter q) := by
  induction h with
  | nil => exact .nil
  | cons h t ih =>
    rw [List.filter_cons, List.filter_cons, c _ _ h]
    split
    · exact .cons h ih
    · exact ih
theorem any {p : α → Bool} {q : β → Bool} (h : Two R as bs) (c : ∀ a b, R a b → p a = q b) : as.any p = bs.any q := by
  induction h with
  | nil => rfl
  | cons h t ih => rw [List.any_cons, List.any_cons, c _ _ h, ih]
theorem find {p : α → Bool} {q : β → Bool} (h : Two R as bs) (c : ∀ a b, R a b → p a = q b) : (as.find? p = none ∧ bs.find? q = none) ∨ ∃ a b, as.find? p = some a ∧ bs.find? q = some b ∧ R a b := by
  induction h with
  | nil => exact .inl ⟨rfl, rfl⟩
  | @cons a b as bs h t ih =>
    rw [List.find?_cons, List.find?_cons, c _ _ h]
    cases q b with
    | true => exact .inr ⟨a, b, rfl, rfl, h⟩
    | false => exact ih
theorem take (h : Two R as bs) : ∀ n, Two R (as.take n) (bs.take n) := by
  induction h with
  | nil => intro n; simp; exact .nil
  | cons h t ih =>
    intro n
    cases n with
    | zero => exact .nil
    | succ m => exact .cons h (ih m)
theorem mem (h : Two R as bs) {a : α} (ha : a ∈ as) : ∃ b ∈ bs, R a b := by
  obtain ⟨i, hi⟩ := List.mem_iff_getElem?.mp ha
  obtain ⟨b, e, r⟩ := h.get hi
  exact ⟨b, List.mem_iff_getElem?.mpr ⟨i, e⟩, r⟩
end Two
/-! ### ties by their numbers -/
structure Ti where
  t : Str
  h : Str
  c : Int
  o : Bool
  deriving DecidableEq
abbrev Ts := List (Int × Ti)
def tget (ts : Ts) (n : Int) : Option Ti := (ts.find? fun x => decide (x.1 = n)).map (·.2)
def tput (ts : Ts) (n : Int) (t : Ti) : Ts := if (ts.any fun x => decide (x.1 = n)) = true then ts.map fun x => if x.1 = n then (x.1, t) else x else ts ++ [(n, t)]
def tdrop (ts : Ts) (n : Int) : Ts := ts.filter fun x => decide (x.1 ≠ n)
def turn (x y : Str) (t : Ti) : Ti := { t with t := if t.t = x then y else t.t, h := if t.h = x then y else t.h }
/-- a dict of numbers to things at addresses -/
def DP (R : Int → Ti → Addr → Prop) (kvs : List (Key × V)) (ts : Ts) : Prop := Two (fun kv nt => ∃ a, kv = ((Sum.inl nt.1 : Key), V.ref a) ∧ R nt.1 nt.2 a) kvs ts
namespace DP
variable {R S : Int → Ti → Addr → Prop} {kvs : List (Key × V)} {ts : Ts} {n : Int} {t : Ti} {a : Addr}
theorem nil : DP R [] [] := Two.nil
theorem mono (h : DP R kvs ts) (c : ∀ n t a, R n t a → S n t a) : DP S kvs ts := Two.mono h fun _ _ ⟨a, e, r⟩ => ⟨a, e, c _ _ _ r⟩
theorem len (h : DP R kvs ts) : kvs.length = ts.length := Two.len h
theorem keys (h : DP R kvs ts) : kvs.map (·.1) = (ts.map (·.1)).map Sum.inl := by
  induction h with
  | nil => rfl
  | cons h _ ih =>
    obtain ⟨a, rfl, _⟩ := h
    simp only [List.map_cons, ih]
theorem key_eq {kv : Key × V} {nt : Int × Ti} (h : ∃ a, kv = ((Sum.inl nt.1 : Key), V.ref a) ∧ R nt.1 nt.2 a) (n : Int) : decide (kv.1 = Sum.inl n) = decide (nt.1 = n) := by
  obtain ⟨a, rfl, _⟩ := h
  have : ((Sum.inl nt.1 : Key) = Sum.inl n) ↔ nt.1 = n := ⟨fun e => Sum.inl.inj e, fun e => by rw [e]⟩
  exact decide_eq_decide.mpr this
theorem get (h : DP R kvs ts) (e : tget ts n = some t) : ∃ a, valV kvs (Sum.inl n) = some (.ref a) ∧ R n t a := by
  rcases Two.find (p := fun kv => decide (kv.1 = (Sum.inl n : Key))) (q := fun x => decide (x.1 = n)) h (fun _ _ r => key_eq r n) with ⟨_, e2⟩ | ⟨kv, nt, e1, e2, a, rfl, r⟩
  · unfold tget at e; rw [e2] at e; simp at e
  · unfold tget at e
    rw [e2] at e
    have hn : nt.1 = n := by simpa using List.find?_some e2
    obtain ⟨m, u⟩ := nt
    cases e
    cases hn
    refine ⟨a, ?_, r⟩
    unfold valV
    rw [e1]; rfl
theorem none (h : DP R kvs ts) (e : tget ts n = none) : valV kvs (Sum.inl n) = .none := by
  rcases Two.find (p := fun kv => decide (kv.1 = (Sum.inl n : Key))) (q := fun x => decide (x.1 = n)) h (fun _ _ r => key_eq r n) with ⟨e1, e2⟩ | ⟨kv, nt, e1, e2, a, rfl, r⟩
  · unfold valV; rw [e1]; rfl
  · unfold tget at e; rw [e2] at e; simp at e
theorem some (h : DP R kvs ts) : (valV kvs (Sum.inl n)).isSome = (tget ts n).isSome := by
  cases e : tget ts n with
  | none => rw [h.none e]; rfl
  | some t =>
    obtain ⟨a, e2, _⟩ := h.get e
    rw [e2]; rfl
theorem put (h : DP R kvs ts) (r : R n t a) : DP R (putK kvs (Sum.inl n) (.ref a)) (tput ts n t) := by
  unfold putK tput
  have e := Two.any (p := fun kv => decide (kv.1 = (Sum.inl n : Key))) (q := fun x => decide (x.1 = n)) h (fun _ _ r => key_eq r n)
  rw [e]
  split
  · refine Two.map h fun kv nt r' => ?_
    have k := key_eq r' n
    obtain ⟨b, rfl, r2⟩ := r'
    by_cases hn : nt.1 = n
    · rw [if_pos hn, if_pos (by rw [hn])]
      exact ⟨a, rfl, by rw [hn]; exact r⟩
    · rw [if_neg hn, if_neg (fun e => hn (Sum.inl.inj e))]
      exact ⟨b, rfl, r2⟩
  · exact Two.app h (.cons ⟨a, rfl, r⟩ .nil)
theorem drop (h : DP R kvs ts) : DP R (dropK kvs (Sum.inl n)) (tdrop ts n) := by
  refine Two.filter h fun kv nt r => ?_
  have k := key_eq r n
  simp only [ne_eq, decide_not]
  rw [k]
theorem item (h : DP R kvs ts) {i : Nat} {kv : Key × V} (e : kvs[i]? = .some kv) : ∃ n t a, ts[i]? = .some (n, t) ∧ kv = (Sum.inl n, .ref a) ∧ R n t a := by
  obtain ⟨⟨n, t⟩, e1, a, rfl, r⟩ := Two.get h e
  exact ⟨n, t, a, e1, rfl, r⟩
theorem take (h : DP R kvs ts) (n : Nat) : DP R (kvs.take n) (ts.take n) := Two.take h n
theorem snoc (h : DP R kvs ts) (r : R n t a) : DP R (kvs ++ [(Sum.inl n, .ref a)]) (ts ++ [(n, t)]) := Two.app h (.cons ⟨a, rfl, r⟩ .nil)
end DP
/-! ### plain facts of ties -/
theorem tget_mem {ts : Ts} {n : Int} {t : Ti} (h : tget ts n = some t) : (n, t) ∈ ts := by
  unfold tget at h
  cases e : ts.find? fun x => decide (x.1 = n) with
  | none => rw [e] at h; simp at h
  | some x =>
    rw [e] at h
    have hn : x.1 = n := by simpa using List.find?_some e
    have hm := List.mem_of_find?_eq_some e
    obtain ⟨m, u⟩ := x
    cases h; cases hn
    exact hm
theorem tput_new {ts : Ts} {n : Int} {t : Ti} (h : ∀ x ∈ ts, x.1 ≠ n) : tput ts n t = ts ++ [(n, t)] := by
  unfold tput
  rw [if_neg]
  intro e
  obtain ⟨x, hx, e2⟩ := List.any_eq_true.mp e
  exact h x hx (by simpa using e2)
abbrev Rise (ts : Ts) : Prop := ts.Pairwise fun a b => a.1 < b.1
theorem tget_of {ts : Ts} (hs : Rise ts) {n : Int} {t : Ti} (h : (n, t) ∈ ts) : tget ts n = some t := by
  induction ts with
  | nil => simp at h
  | cons x r ih =>
    unfold tget
    rw [List.find?_cons]
    by_cases e : x.1 = n
    · rw [decide_eq_true e]
      rcases List.mem_cons.mp h with h | h
      · rw [← h]; rfl
      · have := (List.pairwise_cons.mp hs).1 _ h
        simp at this; omega
    · rw [decide_eq_false e]
      rcases List.mem_cons.mp h with h | h
      · exact absurd (by rw [← h]) e
      · exact ih (List.pairwise_cons.mp hs).2 h
theorem tput_keys {ts : Ts} {n : Int} {t u : Ti} (h : tget ts n = some u) : (tput ts n t).map (·.1) = ts.map (·.1) := by
  have a : (ts.any fun x => decide (x.1 = n)) = true := List.any_eq_true.mpr ⟨_, tget_mem h, by simp⟩
  unfold tput
  rw [if_pos a, List.map_map]
  apply List.map_congr_left
  intro x _
  show (if x.1 = n then (x.1, t) else x).1 = x.1
  split <;> rfl
theorem tput_eq {ts : Ts} {n : Int} {t u : Ti} (h : tget ts n = some u) : tput ts n t = ts.map fun x => if x.1 = n then (x.1, t) else x := by
  have a : (ts.any fun x => decide (x.1 = n)) = true := List.any_eq_true.mpr ⟨_, tget_mem h, by simp⟩
  unfold tput
  rw [if_pos a]
theorem rise_keys {ts us : Ts} (e : us.map (·.1) = ts.map (·.1)) (h : Rise ts) : Rise us := by
  have h1 : (ts.map (·.1)).Pairwise (· < ·) := List.pairwise_map.mpr h
  rw [← e] at h1
  exact List.pairwise_map.mp h1
/-! ### a web -/
structure Wb where
  ps : List Str
  ts : Ts
  g : Int
/-- a good name -/
def isNm (z : Str) : Bool := decide (1 ≤ z.length) && decide (z.length ≤ 12) && z.cps.toList.all fun c => decide (97 ≤ c) && decide (c ≤ 122)
def most : Int := 10 ^ 60
theorem most_pos : (0 : Int) < 10 ^ (60 : Int).toNat + 1 := by decide +kernel
structure TieOk (ps : List Str) (g : Int) (n : Int) (u : Ti) : Prop where
  lo : 1 ≤ n
  hi : n ≤ g
  t : u.t ∈ ps
  h : u.h ∈ ps
  ne : u.t ≠ u.h
  c0 : 0 ≤ u.c
  c1 : u.c ≤ most
structure Wok (w : Wb) : Prop where
  nd : w.ps.Nodup
  nm : ∀ x ∈ w.ps, isNm x = true
  le : w.ps.length ≤ 16
  tl : w.ts.length ≤ 48
  rise : Rise w.ts
  ok : ∀ n t, (n, t) ∈ w.ts → TieOk w.ps w.g n t
  g0 : 0 ≤ w.g
namespace Wb
def put (w : Wb) (x : Str) : Wb := { w with ps := w.ps ++ [x] }
def gone (w : Wb) (x : Str) : Wb := { w with ps := w.ps.erase x }
def ren (w : Wb) (x y : Str) : Wb := { w with ps := w.ps.set (w.ps.idxOf x) y, ts := w.ts.map fun nt => (nt.1, turn x y nt.2) }
def tie (w : Wb) (t : Ti) : Wb := { w with ts := w.ts ++ [(w.g + 1, t)], g := w.g + 1 }
def untie (w : Wb) (n : Int) : Wb := { w with ts := tdrop w.ts n }
def load (w : Wb) (n c : Int) : Wb := { w with ts := w.ts.map fun nt => if nt.1 = n then (nt.1, { nt.2 with c := c }) else nt }
def join (w : Wb) (x y : Str) : Wb := { w with ps := w.ps.erase y, ts := (w.ts.map fun nt => (nt.1, turn y x nt.2)).filter fun nt => decide (nt.2.t ≠ nt.2.h) }
def part (w : Wb) (x y : Str) (ns : List Int) : Wb := { w with ps := w.ps ++ [y], ts := w.ts.map fun nt => if nt.1 ∈ ns then (nt.1, turn x y nt.2) else nt }
end Wb
theorem Wok.put {w : Wb} (h : Wok w) {x : Str} (hx : x ∉ w.ps) (hn : isNm x = true) (hl : w.ps.length < 16) : Wok (w.put x) where
  nd := List.nodup_append.mpr ⟨h.nd, by simp, fun a ha b hb e => hx (by rw [List.mem_singleton.mp hb] at e; rw [← e]; exact ha)⟩
  nm := fun z hz => by
    rcases List.mem_append.mp hz with hz | hz
    · exact h.nm z hz
    · rw [List.mem_singleton.mp hz]; exact hn
  le := by
    show (w.ps ++ [x]).length ≤ 16
    rw [List.length_append, List.length_singleton]; omega
  tl := h.tl
  rise := h.rise
  ok := fun n t ht => have o := h.ok n t ht; { o with t := List.mem_append.mpr (.inl o.t), h := List.mem_append.mpr (.inl o.h) }
  g0 := h.g0
theorem Wok.gone {w : Wb} (h : Wok w) {x : Str} (hx : ∀ n t, (n, t) ∈ w.ts → t.t ≠ x ∧ t.h ≠ x) : Wok (w.gone x) where
  nd := h.nd.erase x
  nm := fun z hz => h.nm z (List.mem_of_mem_erase hz)
  le := Nat.le_trans (List.length_erase_le ..) h.le
  tl := h.tl
  rise := h.rise
  ok := fun n t ht => have o := h.ok n t ht; { o with t := (List.mem_erase_of_ne (hx n t ht).1).mpr o.t, h := (List.mem_erase_of_ne (hx n t ht).2).mpr o.h }
  g0 := h.g0
theorem set_idx {ps : List Str} {x y z : Str} (hx : x ∈ ps) (hz : z ∈ ps) (hne : z ≠ x) : z ∈ ps.set (ps.idxOf x) y := by
  induction ps with
  | nil => simp at hx
  | cons p r ih =>
    rw [List.idxOf_cons]
    by_cases e : p = x
    · subst e
      simp only [beq_self_eq_true, cond_true, List.set_cons_zero]
      rcases List.mem_cons.mp hz with h | h
      · exact absurd h hne
      · exact List.mem_cons_of_mem _ h
    · have eb : (p == x) = false := by simpa using e
      simp only [eb, cond_false, List.set_cons_succ]
      rcases List.mem_cons.mp hz with h | h
      · rw [h]; exact List.mem_cons_self
      · exact List.mem_cons_of_mem _ (ih ((List.mem_cons.mp hx).resolve_left (fun q => e q.symm)) h)
theorem set_new {ps : List Str} {x y : Str} (hx : x ∈ ps) : y ∈ ps.set (ps.idxOf x) y := by
  have hl : ps.idxOf x < ps.length := List.idxOf_lt_length_iff.mpr hx
  exact List.mem_iff_getElem?.mpr ⟨ps.idxOf x, by simp [hl]⟩
theorem set_nd {ps : List Str} {y : Str} (h : ps.Nodup) (hy : y ∉ ps) : ∀ i : Nat, (ps.set i y).Nodup := by
  induction ps with
  | nil => intro i; simp
  | cons p r ih =>
    intro i
    obtain ⟨h1, h2⟩ := List.nodup_cons.mp h
    cases i with
    | zero => exact List.nodup_cons.mpr ⟨fun m => hy (List.mem_cons_of_mem _ m), h2⟩
    | succ j =>
      refine List.nodup_cons.mpr ⟨fun m => ?_, ih h2 (fun m => hy (List.mem_cons_of_mem _ m)) j⟩
      rcases List.mem_or_eq_of_mem_set m with m | m
      · exact h1 m
      · exact hy (by rw [← m]; exact List.mem_cons_self)
theorem turn_end {x y : Str} {t : Ti} {ps : List Str} {z : Str} (hz : z = t.t ∨ z = t.h) : True := trivial
theorem Wok.ren {w : Wb} (h : Wok w) {x y : Str} (hx : x ∈ w.ps) (hy : y ∉ w.ps) (hn : isNm y = true) : Wok (w.ren x y) where
  nd := set_nd h.nd hy _
  nm := fun z hz => by
    rcases List.mem_or_eq_of_mem_set hz with m | m
    · exact h.nm z m
    · rw [m]; exact hn
  le := by
    show (w.ps.set _ y).length ≤ 16
    rw [List.length_set]; exact h.le
  tl := by
    show (w.ts.map _).length ≤ 48
    rw [List.length_map]; exact h.tl
  rise := rise_keys (by show (w.ts.map _).map _ = _; rw [List.map_map]; rfl) h.rise
  ok := fun n t ht => by
    obtain ⟨⟨m, u⟩, hm, e⟩ := List.mem_map.mp ht
    cases e
    have o := h.ok m u hm
    have ends : ∀ z, z ∈ w.ps → (if z = x then y else z) ∈ w.ps.set (w.ps.idxOf x) y := fun z hz => by
      split
      · exact set_new hx
      · rename_i hne; exact set_idx hx hz hne
    refine ⟨o.lo, o.hi, ends _ o.t, ends _ o.h, ?_, o.c0, o.c1⟩
    show (if u.t = x then y else u.t) ≠ (if u.h = x then y else u.h)
    have n1 : y ≠ u.t := fun e => hy (by rw [e]; exact o.t)
    have n2 : y ≠ u.h := fun e => hy (by rw [e]; exact o.h)
    have n3 := o.ne
    split
    · rename_i e1
      rw [if_neg (fun e2 => n3 (e1.trans e2.symm))]
      exact n2
    · split
      · exact n1.symm
      · exact n3
  g0 := h.g0
theorem Wok.tie {w : Wb} (h : Wok w) {t : Ti} (h1 : t.t ∈ w.ps) (h2 : t.h ∈ w.ps) (h3 : t.t ≠ t.h) (c0 : 0 ≤ t.c) (c1 : t.c ≤ most) (hl : w.ts.length < 48) : Wok (w.tie t) where
  nd := h.nd
  nm := h.nm
  le := h.le
  tl := by
    show (w.ts ++ _).length ≤ 48
    rw [List.length_append, List.length_singleton]; omega
  rise := by
    refine List.pairwise_append.mpr ⟨h.rise, by simp, fun a ha b hb => ?_⟩
    rw [List.mem_singleton.mp hb]
    have := (h.ok a.1 a.2 ha).hi
    show a.1 < w.g + 1
    omega
  ok := fun n u hu => by
    have hg := h.g0
    rcases List.mem_append.mp hu with hu | hu
    · have o := h.ok n u hu
      exact { o with hi := by have := o.hi; show n ≤ w.g + 1; omega }
    · cases List.mem_singleton.mp hu
      exact ⟨by omega, Int.le_refl _, h1, h2, h3, c0, c1⟩
  g0 := by have := h.g0; show 0 ≤ w.g + 1; omega
theorem Wok.untie {w : Wb} (h : Wok w) (n : Int) : Wok (w.untie n) where
  nd := h.nd
  nm := h.nm
  le := h.le
  tl := Nat.le_trans (List.length_filter_le ..) h.tl
  rise := h.rise.filter _
  ok := fun m t ht => h.ok m t (List.mem_filter.mp ht).1
  g0 := h.g0
theorem Wok.load {w : Wb} (h : Wok w) {n c : Int} (c0 : 0 ≤ c) (c1 : c ≤ most) : Wok (w.load n c) where
  nd := h.nd
  nm := h.nm
  le := h.le
  tl := by
    show (w.ts.map _).length ≤ 48
    rw [List.length_map]; exact h.tl
  rise := rise_keys (by
    show (w.ts.map _).map _ = _
    rw [List.map_map]
    apply List.map_congr_left
    intro x _
    show (if x.1 = n then (x.1, { x.2 with c := c }) else x).1 = x.1
    split <;> rfl) h.rise
  ok := fun m t ht => by
    obtain ⟨⟨k, u⟩, hm, e⟩ := List.mem_map.mp ht
    have o := h.ok k u hm
    by_cases hk : k = n
    · rw [if_pos hk] at e
      cases e
      exact { o with c0 := c0, c1 := c1 }
    · rw [if_neg hk] at e
      cases e
      exact o
  g0 := h.g0
theorem Wok.join {w : Wb} (h : Wok w) {x y : Str} (hx : x ∈ w.ps) (hy : y ∈ w.ps) (hne : x ≠ y) : Wok (w.join x y) where
  nd := h.nd.erase y
  nm := fun z hz => h.nm z (List.mem_of_mem_erase hz)
  le := Nat.le_trans (List.length_erase_le ..) h.le
  tl := Nat.le_trans (List.length_filter_le ..) (by rw [List.length_map]; exact h.tl)
  rise := by
    have r : Rise (w.ts.map fun nt => (nt.1, turn y x nt.2)) := rise_keys (by rw [List.map_map]; rfl) h.rise
    exact r.filter _
  ok := fun n t ht => by
    obtain ⟨h1, h2⟩ := List.mem_filter.mp ht
    obtain ⟨⟨m, u⟩, hm, e⟩ := List.mem_map.mp h1
    cases e
    have o := h.ok m u hm
    have ends : ∀ z, z ∈ w.ps → (if z = y then x else z) ∈ w.ps.erase y := fun z hz => by
      split
      · exact (List.mem_erase_of_ne hne).mpr hx
      · rename_i hn; exact (List.mem_erase_of_ne hn).mpr hz
    exact ⟨o.lo, o.hi, ends _ o.t, ends _ o.h, by simpa using h2, o.c0, o.c1⟩
  g0 := h.g0
theorem Wok.part {w : Wb} (h : Wok w) {x y : Str} {ns : List Int} (hy : y ∉ w.ps) (hn : isNm y = true) (hl : w.ps.length < 16) : Wok (w.part x y ns) where
  nd := (h.put hy hn hl).nd
  nm := (h.put hy hn hl).nm
  le := (h.put hy hn hl).le
  tl := by
    show (w.ts.map _).length ≤ 48
    rw [List.length_map]; exact h.tl
  rise := rise_keys (by
    show (w.ts.map _).map _ = _
    rw [List.map_map]
    apply List.map_congr_left
    intro z _
    show (if z.1 ∈ ns then (z.1, turn x y z.2) else z).1 = z.1
    split <;> rfl) h.rise
  ok := fun n t ht => by
    obtain ⟨⟨m, u⟩, hm, e⟩ := List.mem_map.mp ht
    have o := h.ok m u hm
    have inl : ∀ z, z ∈ w.ps → z ∈ w.ps ++ [y] := fun z hz => List.mem_append.mpr (.inl hz)
    by_cases hk : m ∈ ns
    · rw [if_pos hk] at e
      cases e
      have ends : ∀ z, z ∈ w.ps → (if z = x then y else z) ∈ w.ps ++ [y] := fun z hz => by
        split
        · exact List.mem_append.mpr (.inr (by simp))
        · exact inl z hz
      refine ⟨o.lo, o.hi, ends _ o.t, ends _ o.h, ?_, o.c0, o.c1⟩
      show (if u.t = x then y else u.t) ≠ (if u.h = x then y else u.h)
      have n1 : y ≠ u.t := fun e => hy (by rw [e]; exact o.t)
      have n2 : y ≠ u.h := fun e => hy (by rw [e]; exact o.h)
      have n3 := o.ne
      split
      · rename_i e1
        rw [if_neg (fun e2 => n3 (e1.trans e2.symm))]
        exact n2
      · split
        · exact n1.symm
        · exact n3
    · rw [if_neg hk] at e
      cases e
      exact { o with t := inl _ o.t, h := inl _ o.h }
  g0 := h.g0
end WB

set_option Elab.async false
set_option linter.all false
set_option maxRecDepth 100000
set_option maxHeartbeats 2000000
/-! KG: ways in a web, as plain data. -/
namespace WB
open PySem PySem.Spec PyProof.Rows L2 HX
/-- the steps from a point, as they may be gone -/
def freeOne (x : Str) (nt : Int × Ti) : List (Int × Str) := (if nt.2.t = x then [(nt.1, nt.2.h)] else []) ++ (if nt.2.o = false ∧ nt.2.h = x then [(nt.1, nt.2.t)] else [])
def freeS (ts : Ts) (x : Str) : List (Int × Str) := ts.flatMap (freeOne x)
/-- .. one-way ties as plain ones -/
def plainOne (x : Str) (nt : Int × Ti) : List (Int × Str) := (if nt.2.t = x then [(nt.1, nt.2.h)] else []) ++ (if nt.2.h = x then [(nt.1, nt.2.t)] else [])
def plainS (ts : Ts) (x : Str) : List (Int × Str) := ts.flatMap (plainOne x)
abbrev Steps := Str → List (Int × Str)
abbrev Came := List (Str × Option (Int × Str))
def keysC (cm : Came) : List Str := cm.map (·.1)
def see (cm : Came) (a : Str) (s : Int × Str) : Came := if s.2 ∈ keysC cm then cm else cm ++ [(s.2, some (s.1, a))]
def seeAll (cm : Came) (a : Str) (ss : List (Int × Str)) : Came := ss.foldl (fun c s => see c a s) cm
def bfs (S : Steps) : Nat → Came → Nat → Came
  | 0, cm, _ => cm
  | f + 1, cm, d => match cm[d]? with
    | none => cm
    | some p => bfs S f (seeAll cm p.1 (S p.1)) (d + 1)
def came (S : Steps) (one : Str) : Came := bfs S 17 [(one, none)] 0
/-! ### what a came keeps -/
/-- all but the first stand behind the one that they are come to from -/
structure CmOk (S : Steps) (one : Str) (cm : Came) : Prop where
  nd : (keysC cm).Nodup
  hd : cm[0]? = some (one, none)
  from' : ∀ (i : Nat) (y : Str) (o : Option (Int × Str)), cm[i]? = some (y, o) → 0 < i → ∃ n a, o = some (n, a) ∧ (n, y) ∈ S a ∧ ∃ j, j < i ∧ (keysC cm)[j]? = some a
/-- the first d are done with -/
def Done (S : Steps) (cm : Came) (d : Nat) : Prop := ∀ i a, i < d → (keysC cm)[i]? = some a → ∀ s ∈ S a, s.2 ∈ keysC cm
theorem keysC_app {a b : Came} : keysC (a ++ b) = keysC a ++ keysC b := List.map_append ..
theorem keysC_len {a : Came} : (keysC a).length = a.length := List.length_map ..
theorem keysC_get {cm : Came} {i : Nat} {y : Str} {o : Option (Int × Str)} (h : cm[i]? = some (y, o)) : (keysC cm)[i]? = some y := by
  unfold keysC
  rw [List.getElem?_map, h]; rfl
theorem see_pre (cm : Came) (a : Str) (s : Int × Str) : ∃ r, see cm a s = cm ++ r := by
  unfold see
  split
  · exact ⟨[], by simp⟩
  · exact ⟨_, rfl⟩
theorem seeAll_pre (a : Str) : ∀ (ss : List (Int × Str)) (cm : Came), ∃ r, seeAll cm a ss = cm ++ r
  | [], cm => ⟨[], by simp [seeAll]⟩
  | s :: ss, cm => by
    obtain ⟨r1, e1⟩ := see_pre cm a s
    obtain ⟨r2, e2⟩ := seeAll_pre a ss (see cm a s)
    refine ⟨r1 ++ r2, ?_⟩
    show seeAll (see cm a s) a ss = _
    rw [e2, e1, List.append_assoc]
theorem get_app {α : Type} {a b : List α} {i : Nat} {x : α} (h : a[i]? = some x) : (a ++ b)[i]? = some x := by
  rw [List.getElem?_append_left (List.getElem?_eq_some_iff.mp h).1]; exact h
theorem CmOk.see {S : Steps} {one a : Str} {cm : Came} (h : CmOk S one cm) {s : Int × Str} (hs : s ∈ S a) (ha : a ∈ keysC cm) : CmOk S one (see cm a s) := by
  unfold WB.see
  split
  · exact h
  · rename_i hn
    refine ⟨?_, get_app h.hd, ?_⟩
    · rw [keysC_app]
      exact List.nodup_append.mpr ⟨h.nd, by simp [keysC], fun x hx y hy e => hn (by simp [keysC] at hy; rw [← hy, ← e]; exact hx)⟩
    · intro i y o hi h0
      rcases Nat.lt_or_ge i cm.length with hl | hl
      · rw [List.getElem?_append_left hl] at hi
        obtain ⟨n, b, e, m, j, hj, hk⟩ := h.from' i y o hi h0
        exact ⟨n, b, e, m, j, hj, by rw [keysC_app]; exact get_app hk⟩
      · rw [List.getElem?_append_right hl] at hi
        have hi0 : i - cm.length = 0 := by
          have := (List.getElem?_eq_some_iff.mp hi).1
          simp at this; omega
        rw [hi0] at hi
        cases hi
        obtain ⟨j, hj⟩ := List.mem_iff_getElem?.mp ha
        refine ⟨s.1, a, rfl, hs, j, ?_, by rw [keysC_app]; exact get_app hj⟩
        have := (List.getElem?_eq_some_iff.mp hj).1
        rw [keysC_len] at this
        omega
theorem mem_keys_see {cm : Came} {a x : Str} {s : Int × Str} (h : x ∈ keysC cm) : x ∈ keysC (see cm a s) := by
  obtain ⟨r, e⟩ := see_pre cm a s
  rw [e, keysC_app]
  exact List.mem_append.mpr (.inl h)
theorem CmOk.seeAll {S : Steps} {one a : Str} : ∀ (ss : List (Int × Str)) {cm : Came} (h : CmOk S one cm) (hs : ∀ s ∈ ss, s ∈ S a) (ha : a ∈ keysC cm), CmOk S one (seeAll cm a ss)
  | [], _, h, _, _ => h
  | s :: ss, cm, h, hs, ha => CmOk.seeAll ss (h.see (hs s (List.mem_cons_self ..)) ha) (fun t ht => hs t (List.mem_cons_of_mem _ ht)) (mem_keys_see ha)
theorem seeAll_has {a : Str} : ∀ (ss : List (Int × Str)) {cm : Came}, ∀ s ∈ ss, s.2 ∈ keysC (seeAll cm a ss)
  | [], _, s, hs => by simp at hs
  | t :: ss, cm, s, hs => by
    show s.2 ∈ keysC (seeAll (see cm a t) a ss)
    rcases List.mem_cons.mp hs with rfl | hs
    · obtain ⟨r, e⟩ := seeAll_pre a ss (see cm a s)
      rw [e, keysC_app]
      refine List.mem_append.mpr (.inl ?_)
      unfold see
      split
      · assumption
      · rw [keysC_app]; simp [keysC]
    · exact seeAll_has ss s hs
theorem Done.step {S : Steps} {cm : Came} {d : Nat} {a : Str} {o : Option (Int × Str)} (h : Done S cm d) (hd : cm[d]? = some (a, o)) : Done S (seeAll cm a (S a)) (d + 1) := by
  obtain ⟨r, e⟩ := seeAll_pre a (S a) cm
  intro i b hi hb s hs
  have hdl := (List.getElem?_eq_some_iff.mp hd).1
  have hb2 : (keysC cm)[i]? = some b := by
    rw [e, keysC_app, List.getElem?_append_left (by rw [keysC_len]; omega)] at hb
    exact hb
  rcases Nat.lt_or_ge i d with hl | hl
  · rw [e, keysC_app]
    exact List.mem_append.mpr (.inl (h i b hl hb2 s hs))
  · have : i = d := by omega
    subst this
    rw [keysC_get hd] at hb2
    cases hb2
    exact seeAll_has _ s hs
/-- the loop's end: all points come to are points of ps -/
theorem CmOk.keys_in {S : Steps} {one : Str} {cm : Came} {ps : List Str} (h : CmOk S one cm) (h1 : one ∈ ps) (hS : ∀ a ∈ ps, ∀ s ∈ S a, s.2 ∈ ps) : ∀ y ∈ keysC cm, y ∈ ps := by
  have : ∀ (i : Nat) y, (keysC cm)[i]? = some y → y ∈ ps := by
    intro i
    induction i using Nat.strongRecOn with
    | _ i ih =>
      intro y hy
      have hi := (List.getElem?_eq_some_iff.mp hy).1
      rw [keysC_len] at hi
      obtain ⟨⟨z, o⟩, e⟩ : ∃ p, cm[i]? = some p := ⟨_, List.getElem?_eq_getElem hi⟩
      have e2 := keysC_get e
      rw [hy] at e2
      cases e2
      rcases Nat.eq_zero_or_pos i with rfl | h0
      · rw [h.hd] at e
        cases e; exact h1
      · obtain ⟨n, a, _, m, j, hj, hk⟩ := h.from' i y o e h0
        exact hS a (ih j hj a hk) _ m
  intro y hy
  obtain ⟨i, hi⟩ := List.mem_iff_getElem?.mp hy
  exact this i y hi
theorem nodup_len {α : Type} [DecidableEq α] : ∀ {a b : List α}, a.Nodup → (∀ x ∈ a, x ∈ b) → a.length ≤ b.length
  | [], _, _, _ => Nat.zero_le _
  | x :: r, b, h, hb => by
    obtain ⟨h1, h2⟩ := List.nodup_cons.mp h
    have hx := hb x (List.mem_cons_self ..)
    have := nodup_len (a := r) (b := b.erase x) h2 (fun y hy => (List.mem_erase_of_ne (fun e => h1 (by rw [← e]; exact hy))).mpr (hb y (List.mem_cons_of_mem _ hy)))
    rw [List.length_erase_of_mem hx] at this
    have : 0 < b.length := List.length_pos_of_mem hx
    simp only [List.length_cons]
    omega
/-- a came that is at its end -/
structure CmEnd (S : Steps) (one : Str) (cm : Came) : Prop extends CmOk S one cm where
  cl : ∀ a ∈ keysC cm, ∀ s ∈ S a, s.2 ∈ keysC cm
theorem CmOk.toEnd {S : Steps} {one : Str} {cm : Came} {d : Nat} (h : CmOk S one cm) (hd : Done S cm d) (hl : cm.length ≤ d) : CmEnd S one cm where
  nd := h.nd
  hd := h.hd
  from' := h.from'
  cl := fun a ha s hs => by
    obtain ⟨i, hi⟩ := List.mem_iff_getElem?.mp ha
    have hlt := (List.getElem?_eq_some_iff.mp hi).1
    rw [keysC_len] at hlt
    exact hd i a (Nat.lt_of_lt_of_le hlt hl) hi s hs
theorem cmOk_one (S : Steps) (one : Str) : CmOk S one [(one, none)] where
  nd := by simp [keysC]
  hd := rfl
  from' := fun i y o hi h0 => by
    have := (List.getElem?_eq_some_iff.mp hi).1
    simp at this; omega
theorem done_zero (S : Steps) (cm : Came) : Done S cm 0 := fun i a hi => by omega
theorem bfs_end {S : Steps} {one : Str} {ps : List Str} (hp : ps.length ≤ 16) (h1 : one ∈ ps) (hS : ∀ a ∈ ps, ∀ s ∈ S a, s.2 ∈ ps) :
    ∀ (f : Nat) (cm : Came) (d : Nat), CmOk S one cm → Done S cm d → d + f = 17 → CmEnd S one (bfs S f cm d)
  | 0, cm, d, h, hd, e => h.toEnd hd (by
      have := nodup_len h.nd (h.keys_in h1 hS)
      rw [keysC_len] at this
      omega)
  | f + 1, cm, d, h, hd, e => by
    unfold bfs
    cases q : cm[d]? with
    | none => exact h.toEnd hd (List.getElem?_eq_none_iff.mp q)
    | some p =>
      obtain ⟨a, o⟩ := p
      exact bfs_end hp h1 hS f _ _ (h.seeAll _ (fun _ hs => hs) (List.mem_of_getElem? (keysC_get q))) (hd.step q) (by omega)
theorem came_end {S : Steps} {one : Str} {ps : List Str} (hp : ps.length ≤ 16) (h1 : one ∈ ps) (hS : ∀ a ∈ ps, ∀ s ∈ S a, s.2 ∈ ps) : CmEnd S one (came S one) :=
  bfs_end hp h1 hS 17 _ _ (cmOk_one S one) (done_zero _ _) rfl
theorem bfs_step {S : Steps} {f : Nat} {cm : Came} {d : Nat} {a : Str} {o : Option (Int × Str)} (h : cm[d]? = some (a, o)) : bfs S (f + 1) cm d = bfs S f (seeAll cm a (S a)) (d + 1) := by
  show (match cm[d]? with
    | none => cm
    | some p => bfs S f (seeAll cm p.1 (S p.1)) (d + 1)) = _
  rw [h]
theorem bfs_stop {S : Steps} {f : Nat} {cm : Came} {d : Nat} (h : cm.length ≤ d) : bfs S f cm d = cm := by
  cases f with
  | zero => rfl
  | succ f =>
    show (match cm[d]? with
      | none => cm
      | some p => bfs S f (seeAll cm p.1 (S p.1)) (d + 1)) = _
    rw [List.getElem?_eq_none_iff.mpr h]
/-- steps that are alike at all points of ps -/
theorem bfs_congr {S S' : Steps} {ps : List Str} (hS : ∀ a ∈ ps, ∀ s ∈ S a, s.2 ∈ ps) (he : ∀ a ∈ ps, S' a = S a) : ∀ (f : Nat) (cm : Came) (d : Nat), (∀ y ∈ keysC cm, y ∈ ps) → bfs S' f cm d = bfs S f cm d
  | 0, _, _, _ => rfl
  | f + 1, cm, d, h => by
    cases q : cm[d]? with
    | none => rw [bfs_stop (List.getElem?_eq_none_iff.mp q), bfs_stop (List.getElem?_eq_none_iff.mp q)]
    | some p =>
      obtain ⟨a, o⟩ := p
      have ha := h a (List.mem_of_getElem? (keysC_get q))
      rw [bfs_step q, bfs_step q, he a ha]
      refine bfs_congr hS he f _ _ ?_
      have : ∀ (ss : List (Int × Str)) (cm : Came), (∀ y ∈ keysC cm, y ∈ ps) → (∀ s ∈ ss, s.2 ∈ ps) → ∀ y ∈ keysC (seeAll cm a ss), y ∈ ps := by
        intro ss
        induction ss with
        | nil => intro cm h _; exact h
        | cons s ss ih =>
          intro cm h hs
          refine ih (see cm a s) ?_ (fun t ht => hs t (List.mem_cons_of_mem _ ht))
          unfold see
          split
          · exact h
          · intro y hy
            rw [keysC_app] at hy
            rcases List.mem_append.mp hy with hy | hy
            · exact h y hy
            · simp [keysC] at hy
              rw [hy]; exact hs s (List.mem_cons_self ..)
      exact this _ _ h (hS a ha)
theorem came_congr {S S' : Steps} {ps : List Str} {one : Str} (h1 : one ∈ ps) (hS : ∀ a ∈ ps, ∀ s ∈ S a, s.2 ∈ ps) (he : ∀ a ∈ ps, S' a = S a) : came S' one = came S one :=
  bfs_congr hS he _ _ _ (fun y hy => by simp [keysC] at hy; rw [hy]; exact h1)
/-! ### the way back -/
def look (cm : Came) (y : Str) : Option (Option (Int × Str)) := (cm.find? fun p => decide (p.1 = y)).map (·.2)
def back (cm : Came) : Nat → Str → List Int
  | 0, _ => []
  | f + 1, y => match look cm y with
    | some (some p) => p.1 :: back cm f p.2
    | _ => []
theorem look_at {cm : Came} (h : (keysC cm).Nodup) {i : Nat} {y : Str} {o : Option (Int × Str)} (e : cm[i]? = some (y, o)) : look cm y = some o := by
  unfold look
  induction cm generalizing i with
  | nil => simp at e
  | cons p r ih =>
    obtain ⟨h1, h2⟩ := List.nodup_cons.mp h
    rw [List.find?_cons]
    cases i with
    | zero =>
      cases e
      simp
    | succ i =>
      have e' : r[i]? = some (y, o) := e
      have hy : p.1 ≠ y := fun q => h1 (List.mem_map.mpr ⟨_, List.mem_of_getElem? e', q.symm⟩)
      rw [decide_eq_false hy]
      exact ih h2 e'
theorem look_none {cm : Came} {y : Str} (h : y ∉ keysC cm) : look cm y = none := by
  unfold look
  rw [List.find?_eq_none.mpr (fun p hp => by
    simp only [decide_eq_true_eq]
    intro e
    exact h (List.mem_map.mpr ⟨p, hp, e⟩))]
  rfl
/-- the points that a way leads by -/
inductive Leads (S : Steps) : Str → List Int → List Str → Str → Prop where
  | here (x : Str) : Leads S x [] [x] x
  | snoc {x a y : Str} {ns : List Int} {ps : List Str} {n : Int} (h : Leads S x ns ps a) (s : (n, y) ∈ S a) : Leads S x (ns ++ [n]) (ps ++ [y]) y
theorem CmOk.back {S : Steps} {one : Str} {cm : Came} (h : CmOk S one cm) : ∀ (i : Nat) (y : Str) (f : Nat), (keysC cm)[i]? = some y → i < f →
    (WB.back cm f y).length ≤ i ∧ ∃ ps, Leads S one (WB.back cm f y).reverse ps y ∧ ps.Nodup ∧ ∀ z ∈ ps, ∃ j, j ≤ i ∧ (keysC cm)[j]? = some z := by
  intro i
  induction i using Nat.strongRecOn with
  | _ i ih =>
    intro y f hy hf
    have hi := (List.getElem?_eq_some_iff.mp hy).1
    rw [keysC_len] at hi
    obtain ⟨⟨z, o⟩, e⟩ : ∃ p, cm[i]? = some p := ⟨_, List.getElem?_eq_getElem hi⟩
    have e2 := keysC_get e
    rw [hy] at e2
    cases e2
    obtain ⟨f, rfl⟩ : ∃ g, f = g + 1 := ⟨f - 1, by omega⟩
    have hl := look_at h.nd e
    rcases Nat.eq_zero_or_pos i with rfl | h0
    · rw [h.hd] at e
      cases e
      have eb : WB.back cm (f + 1) one = [] := by
        show (match look cm one with
          | some (some p) => p.1 :: WB.back cm f p.2
          | _ => []) = _
        rw [hl]
      rw [eb]
      exact ⟨Nat.le_refl _, [one], .here _, by simp, fun z hz => ⟨0, Nat.le_refl _, by simp at hz; rw [hz]; exact hy⟩⟩
    · obtain ⟨n, a, rfl, m, j, hj, hk⟩ := h.from' i y o e h0
      have eb : WB.back cm (f + 1) y = n :: WB.back cm f a := by
        show (match look cm y with
          | some (some p) => p.1 :: WB.back cm f p.2
          | _ => []) = _
        rw [hl]
      obtain ⟨h1, ps, h2, h3, h4⟩ := ih j hj a f hk (by omega)
      rw [eb, List.reverse_cons]
      refine ⟨by simp only [List.length_cons]; omega, ps ++ [y], .snoc h2 m, ?_, ?_⟩
      · refine List.nodup_append.mpr ⟨h3, by simp, fun z hz w hw e3 => ?_⟩
        simp at hw
        obtain ⟨k, hk1, hk2⟩ := h4 z hz
        rw [e3, hw] at hk2
        have : k < (keysC cm).length := (List.getElem?_eq_some_iff.mp hk2).1
        have := (List.getElem_inj h.nd (h₀ := this) (h₁ := by rw [keysC_len]; omega)).mp ((List.getElem?_eq_some_iff.mp hk2).2.trans (List.getElem?_eq_some_iff.mp hy).2.symm)
        omega
      · intro z hz
        rcases List.mem_append.mp hz with hz | hz
        · obtain ⟨k, hk1, hk2⟩ := h4 z hz
          exact ⟨k, by omega, hk2⟩
        · simp at hz
          exact ⟨i, Nat.le_refl _, by rw [hz]; exact hy⟩
/-! ### what is come to -/
inductive Rch (S : Steps) (one : Str) : Str → Prop where
  | here : Rch S one one
  | step {a y : Str} {n : Int} (h : Rch S one a) (s : (n, y) ∈ S a) : Rch S one y
theorem CmEnd.keys_iff {S : Steps} {one : Str} {cm : Came} (h : CmEnd S one cm) {y : Str} : y ∈ keysC cm ↔ Rch S one y := by
  constructor
  · have : ∀ (i : Nat) y, (keysC cm)[i]? = some y → Rch S one y := by
      intro i
      induction i using Nat.strongRecOn with
      | _ i ih =>
        intro y hy
        have hi := (List.getElem?_eq_some_iff.mp hy).1
        rw [keysC_len] at hi
        obtain ⟨⟨z, o⟩, e⟩ : ∃ p, cm[i]? = some p := ⟨_, List.getElem?_eq_getElem hi⟩
        have e2 := keysC_get e
        rw [hy] at e2
        cases e2
        rcases Nat.eq_zero_or_pos i with rfl | h0
        · rw [h.hd] at e
          cases e; exact .here
        · obtain ⟨n, a, _, m, j, hj, hk⟩ := h.from' i y o e h0
          exact .step (ih j hj a hk) m
    intro hy
    obtain ⟨i, hi⟩ := List.mem_iff_getElem?.mp hy
    exact this i y hi
  · intro r
    induction r with
    | here => exact List.mem_of_getElem? (keysC_get h.hd)
    | step _ s ih => exact h.cl _ ih _ s
/-- a list that is closed, too, and whose points are all come to, holds the same -/
theorem Rch.of_closed {S : Steps} {one : Str} {fs : List Str} (h1 : one ∈ fs) (cl : ∀ a ∈ fs, ∀ s ∈ S a, s.2 ∈ fs) {y : Str} (r : Rch S one y) : y ∈ fs := by
  induction r with
  | here => exact h1
  | step _ s ih => exact cl _ ih _ s
theorem free_mem {ts : Ts} {x y : Str} {n : Int} : (n, y) ∈ freeS ts x ↔ ∃ u, (n, u) ∈ ts ∧ ((u.t = x ∧ u.h = y) ∨ (u.o = false ∧ u.h = x ∧ u.t = y)) := by
  unfold freeS freeOne
  rw [List.mem_flatMap]
  constructor
  · rintro ⟨⟨m, u⟩, hm, h⟩
    rcases List.mem_append.mp h with h | h
    · split at h
      · rename_i c
        simp at h
        obtain ⟨rfl, rfl⟩ := h
        exact ⟨u, hm, .inl ⟨c, rfl⟩⟩
      · simp at h
    · split at h
      · rename_i c
        simp at h
        obtain ⟨rfl, rfl⟩ := h
        exact ⟨u, hm, .inr ⟨c.1, c.2, rfl⟩⟩
      · simp at h
  · rintro ⟨u, hu, h⟩
    refine ⟨(n, u), hu, List.mem_append.mpr ?_⟩
    rcases h with ⟨h1, h2⟩ | ⟨h1, h2, h3⟩
    · left; simp [h1, h2]
    · right; simp [h1, h2, h3]
theorem free_in {w : Wb} (h : Wok w) : ∀ a ∈ w.ps, ∀ s ∈ freeS w.ts a, s.2 ∈ w.ps := by
  rintro a _ ⟨n, y⟩ hs
  obtain ⟨u, hu, c⟩ := free_mem.mp hs
  have o := h.ok n u hu
  rcases c with ⟨_, rfl⟩ | ⟨_, _, rfl⟩
  · exact o.h
  · exact o.t
end WB

set_option Elab.async false
set_option linter.all false
set_option maxRecDepth 100000
set_option maxHeartbeats 2000000
namespace L2
theorem Same.new {H : Hp} {p : PySem.Addr} {o : HO} (h : H p = none) : Same H (upd H p o) := fun a u e => by
  rw [upd_ne (ne_of_none e h)]
  exact e
theorem Same.mut {H H' : Hp} {p : PySem.Addr} {o : HO} (e : Same H H') (h : H p = none) : Same H (upd H' p o) := fun a u ha => by
  rw [upd_ne (ne_of_none ha h)]
  exact e a u ha
end L2
/-! KH: webs in the heap. -/
namespace WB
open PySem PySem.Spec PyProof.Rows L2 HX
def tieFs (n : Int) (t : Ti) : List (Str × V) := [("number", .int n), ("tail", .str t.t), ("head", .str t.h), ("load", .int t.c), ("is_oneway", .bl t.o)]
def TieAt (K : PySem.W.Frag) (H : Hp) (n : Int) (t : Ti) (a : Addr) : Prop := ∃ dx, H a = some (.ins (He.ga K "Tie") dx (tieFs n t))
def webFs (l d : Addr) (g : Int) : List (Str × V) := [("_points", .ref l), ("_ties", .ref d), ("_given", .int g)]
structure WebAt (K : PySem.W.Frag) (H : Hp) (p l d : Addr) (w : Wb) : Prop where
  self : ∃ dx, H p = some (.ins (He.ga K "Web") dx (webFs l d w.g))
  pts : H l = some (.lst (w.ps.map V.str))
  ties : ∃ kvs, H d = some (.dK kvs) ∧ DP (TieAt K H) kvs w.ts
/-- all else stays -/
def Keep (H H' : Hp) (p l d : Addr) : Prop := ∀ b o, b ≠ p → b ≠ l → b ≠ d → H b = some o → H' b = some o
section
variable {K : PySem.W.Frag} {H H' : Hp} {p l d a b : Addr} {w : Wb} {n : Int} {t : Ti} {o : HO} {ts : Ts} {kvs : List (Key × V)}
theorem Keep.rfl : Keep H H p l d := fun _ _ _ _ _ e => e
theorem Keep.of (s : Same H H') : Keep H H' p l d := fun b o _ _ _ e => s b o e
theorem Keep.trans {H2 : Hp} {d2 : Addr} (k : Keep H H' p l d) (k2 : Keep H' H2 p l d2) (hd : d2 = d ∨ H d2 = none) : Keep H H2 p l d := fun b o h1 h2 h3 e => by
  refine k2 b o h1 h2 ?_ (k b o h1 h2 h3 e)
  rintro rfl
  rcases hd with e2 | e2
  · exact h3 e2
  · rw [e2] at e; cases e
theorem TieAt.same (h : TieAt K H n t a) (s : Same H H') : TieAt K H' n t a := by
  obtain ⟨dx, e⟩ := h
  exact ⟨dx, s _ _ e⟩
theorem TieAt.ne (h : TieAt K H n t a) (e : H b = some o) (c : ∀ C dx n t, o ≠ .ins C dx (tieFs n t)) : a ≠ b := by
  rintro rfl
  obtain ⟨dx, e2⟩ := h
  exact c _ _ _ _ (Option.some.inj (e.symm.trans e2))
theorem webFs_ne {C dx C2 dx2 : Addr} {g : Int} : HO.ins C dx (webFs l d g) ≠ .ins C2 dx2 (tieFs n t) := by
  intro e
  have e1 := (HO.ins.inj e).2.2
  have e2 := (Prod.mk.inj (List.cons.inj e1).1).1
  exact absurd e2 (by decide +kernel)
theorem TieAt.other (h : TieAt K H n t a) (hb : a ≠ b) : TieAt K (upd H b o) n t a := by
  obtain ⟨dx, e⟩ := h
  exact ⟨dx, (upd_ne hb).trans e⟩
theorem TieAt.new (h : TieAt K H n t a) (hb : H b = none) : TieAt K (upd H b o) n t a := by
  obtain ⟨dx, e⟩ := h
  exact ⟨dx, (upd_ne (ne_of_none e hb)).trans e⟩
theorem WebAt.ne_pl (h : WebAt K H p l d w) : p ≠ l := by
  rintro rfl
  obtain ⟨dx, e⟩ := h.self
  have e2 := h.pts
  rw [e] at e2; cases e2
theorem WebAt.ne_pd (h : WebAt K H p l d w) : p ≠ d := by
  rintro rfl
  obtain ⟨dx, e⟩ := h.self
  obtain ⟨kvs, e2, _⟩ := h.ties
  rw [e] at e2; cases e2
theorem WebAt.ne_ld (h : WebAt K H p l d w) : l ≠ d := by
  rintro rfl
  have e := h.pts
  obtain ⟨kvs, e2, _⟩ := h.ties
  rw [e] at e2; cases e2
theorem WebAt.tie_ne (h : WebAt K H p l d w) (ta : TieAt K H n t a) : a ≠ p ∧ a ≠ l ∧ a ≠ d := by
  obtain ⟨dx, e1⟩ := h.self
  obtain ⟨kvs, e3, _⟩ := h.ties
  exact ⟨ta.ne e1 (fun _ _ _ _ => webFs_ne), ta.ne h.pts (fun _ _ _ _ => by simp), ta.ne e3 (fun _ _ _ _ => by simp)⟩
theorem WebAt.tie_keep (h : WebAt K H p l d w) (k : Keep H H' p l d) (ta : TieAt K H n t a) : TieAt K H' n t a := by
  obtain ⟨n1, n2, n3⟩ := h.tie_ne ta
  obtain ⟨dx, e⟩ := ta
  exact ⟨dx, k _ _ n1 n2 n3 e⟩
theorem WebAt.same (h : WebAt K H p l d w) (s : Same H H') : WebAt K H' p l d w where
  self := by
    obtain ⟨dx, e⟩ := h.self
    exact ⟨dx, s _ _ e⟩
  pts := s _ _ h.pts
  ties := by
    obtain ⟨kvs, e, c⟩ := h.ties
    exact ⟨kvs, s _ _ e, c.mono fun _ _ _ r => r.same s⟩
/-- another web that stands beside -/
theorem WebAt.beside {p2 l2 d2 : Addr} {w2 : Wb} (h : WebAt K H p l d w) (k : Keep H H' p2 l2 d2) (g : WebAt K H p2 l2 d2 w2) (c1 : p ≠ p2) (c2 : l ≠ l2) (c3 : d ≠ d2) : WebAt K H' p l d w where
  self := by
    obtain ⟨dx, e⟩ := h.self
    refine ⟨dx, k _ _ c1 ?_ ?_ e⟩
    · rintro rfl
      have e2 := g.pts
      rw [e] at e2; cases e2
    · rintro rfl
      obtain ⟨_, e2, _⟩ := g.ties
      rw [e] at e2; cases e2
  pts := by
    have e := h.pts
    refine k _ _ ?_ c2 ?_ e
    · rintro rfl
      obtain ⟨_, e2⟩ := g.self
      rw [e] at e2; cases e2
    · rintro rfl
      obtain ⟨_, e2, _⟩ := g.ties
      rw [e] at e2; cases e2
  ties := by
    obtain ⟨kvs, e, c⟩ := h.ties
    refine ⟨kvs, k _ _ ?_ ?_ c3 e, c.mono fun _ _ _ r => g.tie_keep k r⟩
    · rintro rfl
      obtain ⟨_, e2⟩ := g.self
      rw [e] at e2; cases e2
    · rintro rfl
      have e2 := g.pts
      rw [e] at e2; cases e2
end
end WB
namespace WB
open PySem PySem.Spec PyProof.Rows L2 HX
section
variable {n : Int} {t : Ti} {l d l' d' : Addr} {g g' : Int}
theorem lk_number : (tieFs n t).lookup ("number" : Str) = some (.int n) := rfl
theorem lk_tail : (tieFs n t).lookup ("tail" : Str) = some (.str t.t) := rfl
theorem lk_head : (tieFs n t).lookup ("head" : Str) = some (.str t.h) := rfl
theorem lk_load : (tieFs n t).lookup ("load" : Str) = some (.int t.c) := rfl
theorem lk_oneway : (tieFs n t).lookup ("is_oneway" : Str) = some (.bl t.o) := rfl
theorem lk_points : (webFs l d g).lookup ("_points" : Str) = some (.ref l) := rfl
theorem lk_ties : (webFs l d g).lookup ("_ties" : Str) = some (.ref d) := rfl
theorem lk_given : (webFs l d g).lookup ("_given" : Str) = some (.int g) := rfl
theorem pf_points : putF "_points" (.ref l') (webFs l d g) = webFs l' d g := rfl
theorem pf_ties : putF "_ties" (.ref d') (webFs l d g) = webFs l d' g := rfl
theorem pf_given : putF "_given" (.int g') (webFs l d g) = webFs l d g' := rfl
theorem pf_tie {x y : Str} {c : Int} {o : Bool} : putF "is_oneway" (.bl o) (putF "load" (.int c) (putF "head" (.str y) (putF "tail" (.str x) (putF "number" (.int n) [])))) = tieFs n ⟨x, y, c, o⟩ := rfl
theorem pf_web : putF "_given" (.int g) (putF "_ties" (.ref d) (putF "_points" (.ref l) [])) = webFs l d g := rfl
end
end WB

/-! ### changes of a web -/
namespace WB
open PySem PySem.Spec PyProof.Rows L2 HX
section
variable {K : PySem.W.Frag} {H H' : Hp} {p l d d2 dx a : Addr} {w : Wb} {ts : Ts} {kvs : List (Key × V)} {g : Int} {ps : List Str}
theorem WebAt.setPts (h : WebAt K H p l d w) (s : Same H H') : WebAt K (upd H' l (.lst (ps.map V.str))) p l d { w with ps := ps } ∧ Keep H (upd H' l (.lst (ps.map V.str))) p l d := by
  have h2 := h.same s
  obtain ⟨dx, e1⟩ := h2.self
  obtain ⟨kvs, e3, c⟩ := h2.ties
  exact ⟨⟨⟨dx, (upd_ne h2.ne_pl).trans e1⟩, upd_same, ⟨kvs, (upd_ne h2.ne_ld.symm).trans e3, c.mono fun _ _ _ r => r.other (h2.tie_ne r).2.1⟩⟩,
    fun b o _ n _ e => (upd_ne n).trans (s _ _ e)⟩
theorem WebAt.setTies (h : WebAt K H p l d w) (s : Same H H') (c : DP (TieAt K H') kvs ts) : WebAt K (upd H' d (.dK kvs)) p l d { w with ts := ts } ∧ Keep H (upd H' d (.dK kvs)) p l d := by
  have h2 := h.same s
  obtain ⟨dx, e1⟩ := h2.self
  exact ⟨⟨⟨dx, (upd_ne h2.ne_pd).trans e1⟩, (upd_ne h2.ne_ld).trans h2.pts, ⟨kvs, upd_same, c.mono fun _ _ _ r => r.other (h2.tie_ne r).2.2⟩⟩,
    fun b o _ _ n e => (upd_ne n).trans (s _ _ e)⟩
theorem WebAt.swapTies (h : WebAt K H p l d w) (s : Same H H') (e : H' d2 = some (.dK kvs)) (c : DP (TieAt K H') kvs ts) : WebAt K (upd H' p (.ins (He.ga K "Web") dx (webFs l d2 w.g))) p l d2 { w with ts := ts } ∧ Keep H (upd H' p (.ins (He.ga K "Web") dx (webFs l d2 w.g))) p l d := by
  have h2 := h.same s
  obtain ⟨dy, e1⟩ := h2.self
  have n2 : d2 ≠ p := by
    rintro rfl
    rw [e1] at e; cases e
  exact ⟨⟨⟨dx, upd_same⟩, (upd_ne h2.ne_pl.symm).trans h2.pts, ⟨kvs, (upd_ne n2).trans e, c.mono fun _ _ _ r => r.other (h2.tie_ne r).1⟩⟩,
    fun b o n _ _ e => (upd_ne n).trans (s _ _ e)⟩
theorem WebAt.setGiven (h : WebAt K H p l d w) (s : Same H H') : WebAt K (upd H' p (.ins (He.ga K "Web") dx (webFs l d g))) p l d { w with g := g } ∧ Keep H (upd H' p (.ins (He.ga K "Web") dx (webFs l d g))) p l d := by
  have h2 := h.same s
  obtain ⟨kvs, e3, c⟩ := h2.ties
  exact ⟨⟨⟨dx, upd_same⟩, (upd_ne h2.ne_pl.symm).trans h2.pts, ⟨kvs, (upd_ne h2.ne_pd.symm).trans e3, c.mono fun _ _ _ r => r.other (h2.tie_ne r).1⟩⟩,
    fun b o n _ _ e => (upd_ne n).trans (s _ _ e)⟩
/-- behind a lock -/
theorem lock_same {u : HO} {o : Obj} (h : H d = some u) (s : Same (upd H d (.frz o u)) H') : H' d = some (.frz o u) ∧ Same H (upd H' d u) := by
  refine ⟨s _ _ upd_same, fun b v e => ?_⟩
  by_cases n : b = d
  · subst n
    rw [upd_same, ← h, e]
  · rw [upd_ne n]
    exact s _ _ ((upd_ne n).trans e)
theorem TieAt.unlock {u : HO} {o : Obj} {n : Int} {t : Ti} (h : TieAt K H' n t a) (e : H' d = some (.frz o u)) : TieAt K (upd H' d u) n t a := h.other (h.ne e (fun _ _ _ _ => by simp))
theorem TieAt.locked {u : HO} {o : Obj} {n : Int} {t : Ti} (h : TieAt K H n t a) (e : H d = some (.dK kvs)) : TieAt K (upd H d (.frz o u)) n t a := h.other (h.ne e (fun _ _ _ _ => by simp))
theorem inV_str {x : Str} {ys : List Str} : inV (.str x) (ys.map V.str) = decide (x ∈ ys) := by
  unfold inV
  induction ys with
  | nil => simp
  | cons y r ih =>
    rw [List.map_cons, List.any_cons, ih]
    have e : eqV (.str y) (.str x) = decide (x = y) := by
      by_cases c : x = y
      · subst c; simp [eqV]
      · have c2 : ¬ y = x := fun e => c e.symm
        simp [eqV, c, c2]
    rw [e, ← Bool.decide_or]
    exact decide_eq_decide.mpr (by simp)
theorem flat_strs {ys : List Str} : (ys.map V.str).all flatV = true := by
  rw [List.all_map, List.all_eq_true]
  intro _ _; rfl
end
end WB
namespace WB
open PySem PySem.Spec PyProof.Rows L2 HX
section
variable {K : PySem.W.Frag} {H : Hp} {Q : VK} {l : Addr} {ys : List Str} {x : Str}
theorem idx_get {ys : List Str} {x : Str} (h : x ∈ ys) : ys[ys.idxOf x]? = some x := by
  have hl : ys.idxOf x < ys.length := List.idxOf_lt_length_iff.mpr h
  rw [List.getElem?_eq_getElem hl, List.getElem_idxOf hl]
theorem idx_before {x : Str} : ∀ {ys : List Str} {m : Nat}, m < ys.idxOf x → ys[m]? ≠ some x
  | [], m, h => by simp
  | y :: r, m, h => by
    rw [List.idxOf_cons] at h
    by_cases e : y = x
    · subst e; simp at h
    · have eb : (y == x) = false := by simpa using e
      rw [eb] at h
      simp only [cond_false] at h
      cases m with
      | zero => simpa using e
      | succ k => exact idx_before (ys := r) (by omega)
theorem i_remS (h : H l = some (.lst (ys.map V.str))) (m : x ∈ ys) (q : Q .non (upd H l (.lst ((ys.erase x).map V.str)))) : rRemS (.ref l) [.str x] H Q :=
  ⟨l, ys, x, ys.idxOf x, rfl, rfl, h, idx_get m, fun _ hm => idx_before hm, by rw [← List.erase_eq_eraseIdx_of_idxOf rfl]; exact q⟩
theorem i_indexS (h : SqL K H l (ys.map V.str)) (m : x ∈ ys) (q : Q (.int (ys.idxOf x : Nat)) H) : rIndex K (.ref l) [.str x] H Q := by
  refine ⟨l, ys.map V.str, .str x, ys.idxOf x, .str x, rfl, rfl, h, rfl, flat_strs, ?_, by simp [eqV], fun k z hk hz => ?_, q⟩
  · rw [List.getElem?_map, idx_get m]; rfl
  · rw [List.getElem?_map] at hz
    cases e : ys[k]? with
    | none => rw [e] at hz; cases hz
    | some y =>
      rw [e] at hz
      cases hz
      have hne : y ≠ x := fun c => idx_before hk (by rw [e, c])
      simpa [eqV] using hne
theorem i_inS {b : Bool} (h : SqL K H l (ys.map V.str)) (q : Q (.bl (if b = true then !decide (x ∈ ys) else decide (x ∈ ys))) H) : rIn K b (.str x) (.ref l) H Q :=
  i_rIn h rfl flat_strs (by rw [inV_str]; exact q)
theorem i_inT {b : Bool} (h : SqT K H l (ys.map V.str)) (q : Q (.bl (if b = true then !decide (x ∈ ys) else decide (x ∈ ys))) H) : rIn K b (.str x) (.ref l) H Q :=
  i_rInT h rfl flat_strs (by rw [inV_str]; exact q)
theorem nm_len {z : Str} (h : isNm z = true) : z.length ≤ 12 := by
  unfold isNm at h
  simp only [Bool.and_eq_true, decide_eq_true_eq] at h
  exact h.1.2
end
end WB
namespace WB
open PySem PySem.Spec PyProof.Rows L2 HX
theorem tput_map {ts : Ts} {n : Int} {t : Ti} (hs : Rise ts) (h : tget ts n = some t) (f : Ti → Ti) : tput ts n (f t) = ts.map fun x => if x.1 = n then (x.1, f x.2) else x := by
  rw [tput_eq h]
  apply List.map_congr_left
  rintro ⟨m, u⟩ hm
  by_cases e : m = n
  · subst e
    have := tget_of hs hm
    rw [h] at this
    cases this
    rfl
  · simp only [e, if_false]
/-- turning at the numbers of a list, one more -/
theorem part_step {ts : Ts} {ns : List Int} {n : Int} {t : Ti} {x y : Str} (hs : Rise ts) (h : tget ts n = some t) (hn : n ∉ ns) :
    tget (ts.map fun nt => if nt.1 ∈ ns then (nt.1, turn x y nt.2) else nt) n = some t ∧
    tput (ts.map fun nt => if nt.1 ∈ ns then (nt.1, turn x y nt.2) else nt) n (turn x y t) = ts.map fun nt => if nt.1 ∈ ns ++ [n] then (nt.1, turn x y nt.2) else nt := by
  have hr : Rise (ts.map fun nt => if nt.1 ∈ ns then (nt.1, turn x y nt.2) else nt) := rise_keys (by
    rw [List.map_map]
    apply List.map_congr_left
    intro z _
    show (if z.1 ∈ ns then (z.1, turn x y z.2) else z).1 = z.1
    split <;> rfl) hs
  have hm : (n, t) ∈ ts.map fun nt => if nt.1 ∈ ns then (nt.1, turn x y nt.2) else nt := List.mem_map.mpr ⟨(n, t), tget_mem h, by simp [hn]⟩
  have hg := tget_of hr hm
  refine ⟨hg, ?_⟩
  rw [tput_map hr hg, List.map_map]
  apply List.map_congr_left
  rintro ⟨m, u⟩ _
  show (fun x_1 : Int × Ti => if x_1.1 = n then (x_1.1, turn x y x_1.2) else x_1) (if m ∈ ns then (m, turn x y u) else (m, u)) = if m ∈ ns ++ [n] then (m, turn x y u) else (m, u)
  by_cases e : m = n
  · subst e
    simp [hn]
  · by_cases e2 : m ∈ ns <;> simp [e, e2]
/-- a dict that is built up by rising numbers -/
theorem put_new {R : Int → Ti → Addr → Prop} {kvs : List (Key × V)} {ts : Ts} {n : Int} {t : Ti} {a : Addr} (h : DP R kvs ts) (r : R n t a) (hn : ∀ x ∈ ts, x.1 ≠ n) : DP R (putK kvs (Sum.inl n) (.ref a)) (ts ++ [(n, t)]) := by
  have := h.put r
  rwa [tput_new hn] at this
theorem rise_take {ts : Ts} {m : Nat} {n : Int} {t : Ti} (hs : Rise ts) (h : ts[m]? = some (n, t)) : ∀ x ∈ ts.take m, x.1 ≠ n := by
  intro x hx
  obtain ⟨i, hi⟩ := List.mem_iff_getElem?.mp hx
  rw [List.getElem?_take] at hi
  split at hi
  · rename_i hlt
    obtain ⟨h1, h2⟩ := List.getElem?_eq_some_iff.mp hi
    obtain ⟨h3, h4⟩ := List.getElem?_eq_some_iff.mp h
    have := List.pairwise_iff_getElem.mp hs i m h1 h3 hlt
    rw [h2, h4] at this
    simp at this
    omega
  · cases hi
theorem take_map {ts : Ts} {m : Nat} {x : Int × Ti} {f : Int × Ti → Int × Ti} (h : ts[m]? = some x) : (ts.take (m + 1)).map f = (ts.take m).map f ++ [f x] := by
  rw [List.take_add_one, h, List.map_append]
  rfl
theorem ixN_at {n j : Nat} (h : j < n) : ixN n (j : Int) = some j := by
  unfold ixN
  rw [if_pos (by omega), if_pos (by omega)]
  simp
end WB

set_option Elab.async false
set_option linter.all false
set_option maxRecDepth 100000
set_option maxHeartbeats 2000000
/-! K01m: texts and data, plain mathematics. -/
namespace TX
open PySem PySem.Spec PyProof.Rows L2 HX TL
/-! ### good texts -/
abbrev okS (z : Str) : Bool := PyData.strOk z
theorem okS_iff {z : Str} : okS z = true ↔ ∀ c ∈ tl z, c < 0x110000 := by
  unfold okS PyData.strOk
  rw [Array.all_eq_true']
  simp [tl]
theorem okS_app {x y : Str} (hx : okS x = true) (hy : okS y = true) : okS (x ++ y) = true := by
  rw [okS_iff] at *
  intro c hc
  rw [tl_append] at hc
  rcases List.mem_append.mp hc with h | h
  · exact hx c h
  · exact hy c h
theorem okS_one {c : Nat} (h : c < 0x110000) : okS ⟨#[c]⟩ = true := okS_iff.mpr fun d hd => by
  have : d = c := by simpa [tl] using hd
  omega
theorem okS_sign {z : Str} {c : Nat} (h : okS z = true) (hc : c ∈ z.cps.toList) : okS ⟨#[c]⟩ = true := okS_one (okS_iff.mp h c hc)
theorem mem_joinL {S : List Nat} : ∀ {ps : List (List Nat)} {p : List Nat} {c : Nat}, p ∈ ps → c ∈ p → c ∈ joinL S ps
  | [q], p, c, hp, hc => by
    rw [List.mem_singleton.mp hp] at hc
    exact hc
  | q :: q2 :: r, p, c, hp, hc => by
    show c ∈ q ++ (S ++ joinL S (q2 :: r))
    rcases List.mem_cons.mp hp with rfl | h
    · exact List.mem_append.mpr (.inl hc)
    · exact List.mem_append.mpr (.inr (List.mem_append.mpr (.inr (mem_joinL h hc))))
theorem of_joinL {S : List Nat} : ∀ {ps : List (List Nat)} {c : Nat}, c ∈ joinL S ps → c ∈ S ∨ ∃ p ∈ ps, c ∈ p
  | [], c, h => by simp [joinL] at h
  | [q], c, h => .inr ⟨q, by simp, h⟩
  | q :: q2 :: r, c, h => by
    rcases List.mem_append.mp (show c ∈ q ++ (S ++ joinL S (q2 :: r)) from h) with h | h
    · exact .inr ⟨q, by simp, h⟩
    · rcases List.mem_append.mp h with h | h
      · exact .inl h
      · rcases of_joinL h with h | ⟨p, hp, hc⟩
        · exact .inl h
        · exact .inr ⟨p, List.mem_cons_of_mem _ hp, hc⟩
theorem okS_split {x y z : Str} (h : okS x = true) (hz : z ∈ Txt.split x y) : okS z = true := by
  rw [okS_iff] at *
  intro c hc
  refine h c ?_
  rw [← StrLaws.join_split x y, tl_join]
  exact mem_joinL (List.mem_map.mpr ⟨z, hz, rfl⟩) hc
theorem okS_join {y : Str} {ys : List Str} (hy : okS y = true) (h : ∀ z ∈ ys, okS z = true) : okS (Txt.join y ys) = true := by
  rw [join_eq, okS_iff, tl_join]
  intro c hc
  rcases of_joinL hc with hc | ⟨p, hp, hc⟩
  · exact okS_iff.mp hy c hc
  · obtain ⟨z, hz, rfl⟩ := List.mem_map.mp hp
    exact okS_iff.mp (h z hz) c hc
theorem len_app (x y : Str) : (x ++ y).length = x.length + y.length := by
  rw [len_tl, tl_append, List.length_append, ← len_tl, ← len_tl]
theorem joinL_len_nil : ∀ ps : List (List Nat), (joinL [] ps).length = (ps.map List.length).sum
  | [] => rfl
  | [p] => by simp [joinL]
  | p :: q :: r => by
    show (p ++ ([] ++ joinL [] (q :: r))).length = _
    rw [List.length_append, List.nil_append, joinL_len_nil (q :: r)]
    simp
theorem joinL_nil : ∀ ps : List (List Nat), joinL [] ps = ps.flatten
  | [] => rfl
  | [p] => by simp [joinL]
  | p :: q :: r => by
    show p ++ ([] ++ joinL [] (q :: r)) = _
    rw [List.nil_append, joinL_nil (q :: r)]
    simp
theorem tl_empty : tl ("" : Str) = [] := by decide +kernel
theorem join_empty_len (ys : List Str) : (Txt.join "" ys).length = (ys.map (·.length)).sum := by
  rw [join_eq, len_tl, tl_join, tl_empty, joinL_len_nil, List.map_map]
  congr 1
theorem sum_le {ys : List Str} {k : Nat} (h : ∀ y ∈ ys, y.length ≤ k) : (ys.map (·.length)).sum ≤ ys.length * k := by
  induction ys with
  | nil => simp
  | cons y r ih =>
    rw [List.map_cons, List.sum_cons, List.length_cons]
    have h1 := h y (by simp)
    have h2 := ih fun z hz => h z (by simp [hz])
    rw [Nat.succ_mul]
    omega
/-! ### lists of texts as data -/
section
variable {K : PySem.W.Frag} {H : Hp} {Q : VK}
theorem dp_strs : ∀ ys : List Str, DpAll K H (ys.map V.str) (ys.map PyData.str)
  | [] => .nil
  | y :: r => .cons (.str y) (dp_strs r)
theorem depth_strs : ∀ ys : List Str, PyData.depthAll (ys.map PyData.str) = 0
  | [] => by simp [PyData.depthAll]
  | y :: r => by simp [PyData.depthAll, PyData.depth, depth_strs r]
theorem lay_strs : ∀ {ys : List Str}, (∀ y ∈ ys, okS y = true) → PyData.canLayAll0 (ys.map PyData.str) = true
  | [], _ => by simp [PyData.canLayAll0]
  | y :: r, h => by
    have h1 := h y (by simp)
    have h2 := lay_strs (ys := r) fun z hz => h z (by simp [hz])
    simp only [List.map_cons, PyData.canLayAll0, PyData.canLay0, h2, Bool.and_true]
    exact h1
theorem shaped_strs {ys : List Str} (h : ∀ y ∈ ys, okS y = true) : SeqAt.shaped (.list (ys.map PyData.str)) = true := by
  unfold SeqAt.shaped
  rw [PyData.canLay0, lay_strs h, PyData.depth, depth_strs]
  rfl
theorem eqvAll_nil : ∀ ys : List Str, PyData.eqv (.list (ys.map PyData.str)) (.list []) = ys.isEmpty
  | [] => by simp [PyData.eqv, PyData.eqvAll]
  | y :: r => by simp [PyData.eqv, PyData.eqvAll]
theorem eqv_same {ys : List Str} (h : ∀ y ∈ ys, okS y = true) : PyData.eqv (.list (ys.map PyData.str)) (.list (ys.map PyData.str)) = true :=
  SeqAt.eqv_refl _ (by rw [PyData.canLay0]; exact lay_strs h)
theorem i_eqNil {D p : Addr} {ys : List Str} (h : SqL K H D (ys.map V.str)) (h2 : SqL K H p []) (o : ∀ y ∈ ys, okS y = true) (q : Q (.bl ys.isEmpty) H) : rEqD K (.ref D) (.ref p) H Q :=
  ⟨_, _, .lst h (dp_strs ys), .lst h2 .nil, shaped_strs o, by decide +kernel, by rw [eqvAll_nil]; exact q⟩
theorem i_neNil {D p : Addr} {ys : List Str} (h : SqL K H D (ys.map V.str)) (h2 : SqL K H p []) (o : ∀ y ∈ ys, okS y = true) (q : Q (.bl (!ys.isEmpty)) H) : rNeD K (.ref D) (.ref p) H Q :=
  ⟨_, _, .lst h (dp_strs ys), .lst h2 .nil, shaped_strs o, by decide +kernel, by rw [eqvAll_nil]; exact q⟩
theorem i_neSame {D p : Addr} {ys : List Str} (h : SqL K H D (ys.map V.str)) (h2 : SqL K H p (ys.map V.str)) (o : ∀ y ∈ ys, okS y = true) (q : Q (.bl false) H) : rNeD K (.ref D) (.ref p) H Q :=
  ⟨_, _, .lst h (dp_strs ys), .lst h2 (dp_strs ys), shaped_strs o, shaped_strs o, by rw [eqv_same o]; exact q⟩
end
/-! ### the figures of a number, the last one first -/
def FigInv (n : Nat) (left : Nat) (fs : List Nat) : Prop :=
  (fs = [] ∧ left = n) ∨ (fs ≠ [] ∧ (0 < left → numL left ++ fs.reverse = numL n) ∧ (left = 0 → fs.reverse = numL n))
theorem FigInv.step {n left : Nat} {fs : List Nat} (h : FigInv n left fs) (c : 0 < left ∨ fs = []) : FigInv n (left / 10) (fs ++ [48 + left % 10]) := by
  refine .inr ⟨by simp, fun hp => ?_, fun hz => ?_⟩
  · have h10 : 10 ≤ left := by omega
    rw [List.reverse_append]
    rcases h with ⟨rfl, rfl⟩ | ⟨_, h1, _⟩
    · rw [numL_step h10]; simp
    · rw [← h1 (by omega), numL_step h10]; simp
  · have h10 : left < 10 := by omega
    rw [List.reverse_append]
    rcases h with ⟨rfl, rfl⟩ | ⟨hne, h1, _⟩
    · rw [numL_lt h10, Nat.mod_eq_of_lt h10]; simp
    · rw [← h1 (by rcases c with c | c; exact c; exact absurd c hne), numL_lt h10, Nat.mod_eq_of_lt h10]; simp
theorem FigInv.done {n : Nat} {fs : List Nat} (h : FigInv n 0 fs) (hne : fs ≠ []) : fs.reverse = numL n := by
  rcases h with ⟨e, _⟩ | ⟨_, _, h2⟩
  · exact absurd e hne
  · exact h2 rfl
def sgn (c : Nat) : Str := ⟨#[c]⟩
theorem flat_signs : ∀ fs : List Nat, ((fs.map sgn).map tl).flatten = fs
  | [] => rfl
  | c :: r => by
    rw [List.map_cons, List.map_cons, List.flatten_cons, flat_signs r]
    rfl
theorem join_signs (fs : List Nat) : tl (Txt.join "" ((fs.map sgn).reverse)) = fs.reverse := by
  rw [join_eq, tl_join, tl_empty, joinL_nil, ← List.map_reverse, flat_signs]
theorem numL_head {n : Nat} (h : (numL n).headD 0 = 48) : n = 0 := by
  induction n using Nat.strongRecOn with
  | _ n ih =>
    by_cases h10 : n < 10
    · rw [numL_lt h10] at h
      simp at h
      omega
    · rw [numL_step (by omega)] at h
      have e := ih (n / 10) (by omega) (by
        cases q : numL (n / 10) with
        | nil => exact absurd q (numL_ne _)
        | cons c r => rw [q] at h; exact h)
      omega
end TX

set_option Elab.async false
set_option linter.all false
set_option maxRecDepth 100000
set_option maxHeartbeats 2000000
/-! KL: lines that write a web, as plain data. -/
namespace WB
open PySem PySem.Spec PyProof.Rows L2 HX TX TL
/-! ### numbers as texts -/
/-- all signs of z are signs of s -/
def only (z s : Str) : Bool := z.cps.toList.all fun c => decide (c ∈ s.cps.toList)
abbrev digs : Str := "0123456789"
def fst1 (z : Str) : Str := ⟨#[z.cps.toList.headD 0]⟩
def numOk (z : Str) : Bool := decide (1 ≤ (z.length : Int)) && decide ((z.length : Int) ≤ 61) && only z digs && !(decide (fst1 z = "0") && !decide (z = "0"))
def numV (z : Str) : V := if numOk z = true then .int ((NumText.digitsVal z.cps.toList : Nat) : Int) else .non
theorem digs_list : digs.cps.toList = [48, 49, 50, 51, 52, 53, 54, 55, 56, 57] := by decide +kernel
theorem dig_mem {c : Nat} : c ∈ digs.cps.toList ↔ 48 ≤ c ∧ c ≤ 57 := by
  rw [digs_list]
  simp only [List.mem_cons, List.not_mem_nil, or_false]
  omega
theorem only_digs {z : Str} (h : only z digs = true) : NumText.AllDigits z.cps.toList := by
  intro c hc
  unfold only at h
  rw [List.all_eq_true] at h
  exact dig_mem.mp (of_decide_eq_true (h c hc))
theorem len_list (z : Str) : z.cps.toList.length = z.length := by simp [Str.length]
theorem first_at {z : Str} (h : 1 ≤ (z.length : Int)) : atI z.cps.toList 0 = some (z.cps.toList.headD 0) := by
  have e := len_list z
  cases q : z.cps.toList with
  | nil => rw [q] at e; simp at e; omega
  | cons c r => exact atI_nat (j := 0) rfl
/-- a number, written -/
def nS (n : Int) : Str := Str.ofString (toString n)
theorem tl_nS (m : Nat) : tl (nS (m : Int)) = numL m := tl_num m
theorem nS_len {n : Int} (h0 : 0 ≤ n) (h : n < 10 ^ 61) : (nS n).length ≤ 61 := by
  obtain ⟨m, rfl⟩ := Int.eq_ofNat_of_zero_le h0
  rw [len_tl, tl_nS]
  exact numL_len (by decide) (by omega)
theorem nS_pos {n : Int} (h0 : 0 ≤ n) : 1 ≤ (nS n).length := by
  obtain ⟨m, rfl⟩ := Int.eq_ofNat_of_zero_le h0
  rw [len_tl, tl_nS]
  have := numL_ne m
  cases q : numL m with
  | nil => exact absurd q this
  | cons c r => simp
theorem nS_digits {n : Int} (h0 : 0 ≤ n) : ∀ c ∈ tl (nS n), 48 ≤ c ∧ c ≤ 57 := by
  obtain ⟨m, rfl⟩ := Int.eq_ofNat_of_zero_le h0
  intro c hc
  rw [tl_nS] at hc
  have := numL_digits m c hc
  omega
theorem nS_log {n : Int} (h0 : 0 ≤ n) (h : n < 10 ^ 61) : n.natAbs.log2 < 1920 := by
  obtain ⟨m, rfl⟩ := Int.eq_ofNat_of_zero_le h0
  have h : m < 10 ^ 61 := by omega
  rw [Int.natAbs_natCast]
  by_cases e : m = 0
  · subst e; decide
  · exact (Nat.log2_lt e).mpr (Nat.lt_of_lt_of_le h (by decide))
theorem zero_tl : tl ("0" : Str) = [48] := by decide +kernel
theorem num_back {n : Int} (h0 : 0 ≤ n) (h : n < 10 ^ 61) : numV (nS n) = .int n := by
  have h1 := nS_len h0 h
  have h2 := nS_pos h0
  obtain ⟨m, rfl⟩ := Int.eq_ofNat_of_zero_le h0
  have ok : numOk (nS (m : Int)) = true := by
    have h3 : only (nS (m : Int)) digs = true := by
      unfold only
      rw [List.all_eq_true]
      intro c hc
      exact decide_eq_true (dig_mem.mpr (nS_digits h0 c hc))
    have h4 : fst1 (nS (m : Int)) = "0" → nS (m : Int) = "0" := by
      intro e
      have e1 : (numL m).headD 0 = 48 := by
        have q := congrArg tl e
        rw [zero_tl] at q
        have q2 : [(tl (nS (m : Int))).headD 0] = [48] := q
        rw [tl_nS] at q2
        exact List.cons.inj q2 |>.1
      have e2 := numL_head e1
      subst e2
      exact ext_tl (by rw [tl_nS, zero_tl]; decide +kernel)
    unfold numOk
    rw [decide_eq_true (show (1 : Int) ≤ ((nS (m : Int)).length : Int) by omega), decide_eq_true (show ((nS (m : Int)).length : Int) ≤ 61 by omega), h3]
    by_cases e : fst1 (nS (m : Int)) = "0"
    · rw [decide_eq_true e, decide_eq_true (h4 e)]; rfl
    · rw [decide_eq_false e]; rfl
  show (if numOk (nS (m : Int)) = true then V.int ((NumText.digitsVal (tl (nS (m : Int))) : Nat) : Int) else V.non) = _
  rw [if_pos ok, tl_nS, numL_val]
theorem most_lt : most < 10 ^ 61 := by decide +kernel
/-! ### lines -/
inductive Ln where
  | pt (x : Str)
  | tie (n : Int) (u : Ti)
  | gv (g : Int)
def kindS (o : Bool) : Str := if o = true then "way" else "tie"
def Ln.words : Ln → List Str
  | .pt x => ["point", x]
  | .tie n u => [kindS u.o, nS n, u.t, u.h, nS u.c]
  | .gv g => ["given", nS g]
def Ln.text (l : Ln) : Str := Txt.join " " l.words
/-- a word: some signs, no blank among them, good ones, not too many -/
def isWd (z : Str) : Prop := tl z ≠ [] ∧ (∀ c ∈ tl z, c ≠ 32 ∧ c < 0x110000) ∧ z.length ≤ 61
theorem nm_wd {z : Str} (h : isNm z = true) : isWd z := by
  unfold isNm at h
  simp only [Bool.and_eq_true, decide_eq_true_eq, List.all_eq_true] at h
  refine ⟨fun e => ?_, fun c hc => ?_, by omega⟩
  · have := h.1.1
    rw [len_tl, e] at this
    simp at this
  · have := h.2 c hc
    omega
theorem nS_wd {n : Int} (h0 : 0 ≤ n) (h : n < 10 ^ 61) : isWd (nS n) := by
  refine ⟨fun e => ?_, fun c hc => ?_, nS_len h0 h⟩
  · have := nS_pos h0
    rw [len_tl, e] at this
    simp at this
  · have := nS_digits h0 c hc
    omega
theorem kind_wd (o : Bool) : isWd (kindS o) := by
  cases o
  · exact ⟨by decide +kernel, by decide +kernel, by decide +kernel⟩
  · exact ⟨by decide +kernel, by decide +kernel, by decide +kernel⟩
theorem point_wd : isWd "point" := ⟨by decide +kernel, by decide +kernel, by decide +kernel⟩
theorem given_wd : isWd "given" := ⟨by decide +kernel, by decide +kernel, by decide +kernel⟩
def Ln.fine (l : Ln) : Prop := ∀ z ∈ l.words, isWd z
theorem tl_blank : tl (" " : Str) = [32] := by decide +kernel
theorem Ln.words_ne (l : Ln) : l.words ≠ [] := by cases l <;> simp [Ln.words]
theorem Ln.words_len (l : Ln) : l.words.length ≤ 5 := by cases l <;> simp [Ln.words]
theorem Ln.parts {l : Ln} (h : l.fine) : Txt.split l.text " " = l.words :=
  split_join (S := []) tl_blank (by decide +kernel) l.words_ne fun p hp e => (h p hp).2.1 32 e |>.1 rfl
theorem join_len (y : Str) : ∀ ys : List Str, (Txt.join y ys).length ≤ (ys.map (·.length)).sum + ys.length * y.length
  | ys => by
    rw [join_eq, len_tl, tl_join]
    have : ∀ ys : List Str, (joinL (tl y) (ys.map tl)).length ≤ (ys.map (·.length)).sum + ys.length * y.length := by
      intro ys
      induction ys with
      | nil => simp [joinL]
      | cons a r ih =>
        cases r with
        | nil =>
          show (tl a).length ≤ _
          simp [len_tl]
        | cons b r =>
          show (tl a ++ (tl y ++ joinL (tl y) ((b :: r).map tl))).length ≤ _
          rw [List.length_append, List.length_append, ← len_tl, ← len_tl]
          simp only [List.map_cons, List.sum_cons, List.length_cons, Nat.add_mul, Nat.one_mul] at ih ⊢
          omega
    exact this ys
theorem Ln.text_len {l : Ln} (h : l.fine) : l.text.length ≤ 400 := by
  refine Nat.le_trans (join_len " " l.words) ?_
  have h1 := sum_le (ys := l.words) (k := 61) (fun y hy => (h y hy).2.2)
  have h2 := l.words_len
  have h3 : (" " : Str).length = 1 := by decide +kernel
  rw [h3]
  omega
theorem wd_ne {z : Str} (h : isWd z) : z ≠ "" := fun e => h.1 (by rw [e]; decide +kernel)
theorem Ln.no_empty {l : Ln} (h : l.fine) : decide (("" : Str) ∈ l.words) = false := decide_eq_false fun m => wd_ne (h _ m) rfl
theorem Ln.text_ok {l : Ln} (h : l.fine) : okS l.text = true := okS_join (by decide +kernel) fun z hz => okS_iff.mpr fun c hc => ((h z hz).2.1 c hc).2
/-! ### the lines of a web -/
def linesOf (w : Wb) : List Ln := w.ps.map .pt ++ (w.ts.map (fun nt => .tie nt.1 nt.2) ++ [.gv w.g])
def textsOf (w : Wb) : List Str := (linesOf w).map Ln.text
def wb0 : Wb := ⟨[], [], 0⟩
theorem wok0 : Wok wb0 := ⟨by simp [wb0], by simp [wb0], by simp [wb0], by simp [wb0], by simp [wb0], by simp [wb0], by simp [wb0]⟩
/-- lines read, one behind the other -/
inductive Reads : Wb → List Ln → Wb → Prop where
  | pt {w w' : Wb} {x : Str} {r : List Ln} (g : w.g = 0) (hx : x ∉ w.ps) (hn : isNm x = true) (hl : w.ps.length < 16) (h : Reads (w.put x) r w') : Reads w (.pt x :: r) w'
  | tie {w w' : Wb} {n : Int} {u : Ti} {r : List Ln} (c : w.g < n) (m : n ≤ most) (h1 : u.t ∈ w.ps) (h2 : u.h ∈ w.ps) (h3 : u.t ≠ u.h) (c0 : 0 ≤ u.c) (c1 : u.c ≤ most) (hl : w.ts.length < 48)
      (h : Reads ⟨w.ps, w.ts ++ [(n, u)], n⟩ r w') : Reads w (.tie n u :: r) w'
  | gv {w : Wb} {g : Int} (c : w.g ≤ g) (m : g ≤ most) : Reads w [.gv g] { w with g := g }
def Ln.ok (w : Wb) : Ln → Prop
  | .pt x => w.g = 0 ∧ x ∉ w.ps ∧ isNm x = true ∧ w.ps.length < 16
  | .tie n u => w.g < n ∧ n ≤ most ∧ u.t ∈ w.ps ∧ u.h ∈ w.ps ∧ u.t ≠ u.h ∧ 0 ≤ u.c ∧ u.c ≤ most ∧ w.ts.length < 48
  | .gv g => w.g ≤ g ∧ g ≤ most
def Ln.does (w : Wb) : Ln → Wb
  | .pt x => w.put x
  | .tie n u => ⟨w.ps, w.ts ++ [(n, u)], n⟩
  | .gv g => { w with g := g }
def Ln.isGv : Ln → Bool
  | .gv _ => true
  | _ => false
theorem Reads.next {w w' : Wb} {l : Ln} {r : List Ln} (h : Reads w (l :: r) w') : l.ok w ∧ ((l.isGv = true ∧ r = [] ∧ w' = l.does w) ∨ (l.isGv = false ∧ Reads (l.does w) r w')) := by
  cases h with
  | pt g hx hn hl h => exact ⟨⟨g, hx, hn, hl⟩, .inr ⟨rfl, h⟩⟩
  | tie c m h1 h2 h3 c0 c1 hl h => exact ⟨⟨c, m, h1, h2, h3, c0, c1, hl⟩, .inr ⟨rfl, h⟩⟩
  | gv c m => exact ⟨⟨c, m⟩, .inl ⟨rfl, rfl, rfl⟩⟩
theorem Reads.ne {w w' : Wb} (h : Reads w [] w') : False := by cases h
theorem Ln.does_ok {w : Wb} (h : Wok w) {l : Ln} (o : l.ok w) : Wok (l.does w) := by
  cases l with
  | pt x => exact h.put o.2.1 o.2.2.1 o.2.2.2
  | tie n u =>
    obtain ⟨c, m, h1, h2, h3, c0, c1, hl⟩ := o
    have h0 : Wok { w with g := n - 1 } := ⟨h.nd, h.nm, h.le, h.tl, h.rise, fun m t ht => have o := h.ok m t ht; { o with hi := by have := o.hi; show m ≤ n - 1; omega }, by have := h.g0; show 0 ≤ n - 1; omega⟩
    have := h0.tie (t := u) h1 h2 h3 c0 c1 hl
    have e : ({ w with g := n - 1 } : Wb).tie u = ⟨w.ps, w.ts ++ [(n, u)], n⟩ := by
      show (⟨w.ps, w.ts ++ [(n - 1 + 1, u)], n - 1 + 1⟩ : Wb) = _
      rw [Int.sub_add_cancel]
    rw [e] at this
    exact this
  | gv g =>
    have hg := o.1
    exact ⟨h.nd, h.nm, h.le, h.tl, h.rise, fun m t ht => have o := h.ok m t ht; { o with hi := Int.le_trans o.hi hg }, Int.le_trans h.g0 o.1⟩
theorem reads_ties {ps : List Str} {g : Int} (hg : g ≤ most) : ∀ (ts2 ts1 : Ts) (g1 : Int), g1 ≤ g → (∀ x ∈ ts2, g1 < x.1) → Rise ts2 → ts1.length + ts2.length ≤ 48 →
    (∀ n u, (n, u) ∈ ts2 → TieOk ps g n u) → Reads ⟨ps, ts1, g1⟩ (ts2.map (fun nt => .tie nt.1 nt.2) ++ [.gv g]) ⟨ps, ts1 ++ ts2, g⟩
  | [], ts1, g1, h, _, _, _, _ => by
    rw [List.append_nil]
    exact Reads.gv (w := ⟨ps, ts1, g1⟩) h hg
  | (n, u) :: r, ts1, g1, h, hlt, hr, hl, ok => by
    have o := ok n u (List.mem_cons_self ..)
    obtain ⟨r1, r2⟩ := List.pairwise_cons.mp hr
    have hl' : ts1.length + (r.length + 1) ≤ 48 := hl
    refine Reads.tie (hlt _ (List.mem_cons_self ..)) (Int.le_trans o.hi hg) o.t o.h o.ne o.c0 o.c1 (by show ts1.length < 48; omega) ?_
    have := reads_ties hg r (ts1 ++ [(n, u)]) n o.hi (fun x hx => r1 x hx) r2 (by rw [List.length_append, List.length_singleton]; omega) (fun m v hm => ok m v (List.mem_cons_of_mem _ hm))
    rw [List.append_assoc] at this
    exact this
theorem reads_pts {r : List Ln} {w' : Wb} : ∀ (ps2 ps1 : List Str), (ps1 ++ ps2).Nodup → (∀ x ∈ ps2, isNm x = true) → (ps1 ++ ps2).length ≤ 16 → Reads ⟨ps1 ++ ps2, [], 0⟩ r w' → Reads ⟨ps1, [], 0⟩ (ps2.map .pt ++ r) w'
  | [], ps1, _, _, _, h => by
    rw [List.append_nil] at h
    exact h
  | x :: t, ps1, hn, hm, hl, h => by
    have e : ps1 ++ x :: t = (ps1 ++ [x]) ++ t := by simp
    refine Reads.pt rfl (fun hx => ?_) (hm x (List.mem_cons_self ..)) ?_ ?_
    · exact (List.nodup_append.mp hn).2.2 x hx x (List.mem_cons_self ..) rfl
    · rw [List.length_append, List.length_cons] at hl
      show ps1.length < 16
      omega
    · rw [e] at hn hl h
      exact reads_pts t (ps1 ++ [x]) hn (fun y hy => hm y (List.mem_cons_of_mem _ hy)) hl h
theorem reads_web {w : Wb} (h : Wok w) (hg : w.g ≤ most) : Reads wb0 (linesOf w) w := by
  refine reads_pts w.ps [] h.nd h.nm h.le ?_
  have := reads_ties hg w.ts [] 0 h.g0 (fun x hx => by have := (h.ok x.1 x.2 hx).lo; omega) h.rise (by simpa using h.tl) h.ok
  exact this
theorem lines_fine {w : Wb} (h : Wok w) (hg : w.g ≤ most) : ∀ l ∈ linesOf w, l.fine := by
  have hm := most_lt
  have hg0 := h.g0
  intro l hl z hz
  rcases List.mem_append.mp hl with hl | hl
  · obtain ⟨x, hx, rfl⟩ := List.mem_map.mp hl
    simp [Ln.words] at hz
    rcases hz with rfl | rfl
    · exact point_wd
    · exact nm_wd (h.nm _ hx)
  · rcases List.mem_append.mp hl with hl | hl
    · obtain ⟨⟨n, u⟩, hx, rfl⟩ := List.mem_map.mp hl
      have o := h.ok n u hx
      have o1 := o.lo
      have o2 := o.hi
      have o3 := o.c0
      have o4 := o.c1
      simp [Ln.words] at hz
      rcases hz with rfl | rfl | rfl | rfl | rfl
      · exact kind_wd _
      · exact nS_wd (by omega) (by omega)
      · exact nm_wd (h.nm _ o.t)
      · exact nm_wd (h.nm _ o.h)
      · exact nS_wd o3 (by omega)
    · simp at hl
      subst hl
      simp [Ln.words] at hz
      rcases hz with rfl | rfl
      · exact given_wd
      · exact nS_wd (by omega) (by omega)
theorem lines_len {w : Wb} (h : Wok w) : (linesOf w).length ≤ 65 := by
  unfold linesOf
  simp only [List.length_append, List.length_map, List.length_singleton]
  have := h.le
  have := h.tl
  omega
end WB

set_option Elab.async false
set_option linter.all false
set_option maxRecDepth 100000
set_option maxHeartbeats 4000000
namespace K25
open PySem PySem.Spec PyProof.Rows L2 HX WB
/-- the builtin type of a plain value -/
def tyB : V → String
  | .non => "NoneType"
  | .bl _ => "bool"
  | .int _ => "int"
  | .str _ => "str"
  | _ => ""
def isB (x : V) (T : String) : Option Bool := if tyB x = "" then none else kitB (tyB x) T
theorem i_isT {K : PySem.W.Frag} {H : Hp} {x : V} {T : String} {b : Bool} {Q : VK} (e : isB x T = some b) (q : Q (.bl b) H) : rIsi K [x, .ty T] H Q := by
  cases x with
  | non => exact ⟨_, _, _, _, _, rfl, .ty _, .base .non, kit_ty e, q⟩
  | bl c => exact ⟨_, _, _, _, _, rfl, .ty _, .base (.bl _), kit_ty e, q⟩
  | int i => exact ⟨_, _, _, _, _, rfl, .ty _, .base (.int _), kit_ty e, q⟩
  | str z => exact ⟨_, _, _, _, _, rfl, .ty _, .base (.str _), kit_ty e, q⟩
  | _ => cases e
local macro_rules | `(tactic| walk_at "side") => `(tactic| first
  | assumption
  | rfl
  | (show (0 : Int) < _; omega)
  | (unfold CDiv; omega)
  | (unfold CMul; omega)
  | (unfold CPow; omega)
  | (rw [sizeLine_eq]; omega)
  | omega)
local macro_rules | `(tactic| walk_at "e") => `(tactic| first
  | ((with_reducible apply i_var); exact rfl)
  | (with_reducible apply i_c)
  | (with_reducible apply i_op)
  | (with_reducible apply i_un)
  | (with_reducible apply i_rI0)
  | ((with_reducible apply i_rI); (case c => walk_at "side"))
  | (with_reducible apply i_rGe)
  | (with_reducible apply i_rGt)
  | (with_reducible apply i_rU)
  | (with_reducible apply i_rEqI)
  | (with_reducible apply i_rNeI)
  | (with_reducible apply i_rEqS)
  | (with_reducible apply i_rNeS)
  | (with_reducible apply i_rEqB)
  | (with_reducible apply i_rNeB)
  | (with_reducible apply i_rIsN)
  | (with_reducible apply i_rNotN)
  | (with_reducible apply i_rInS)
  | (with_reducible apply i_rNotInS)
  | ((with_reducible apply i_catS); (case c => walk_at "side"))
  | (with_reducible apply i_tcb)
  | (with_reducible apply i_nil)
  | (with_reducible apply i_cons)
  | ((with_reducible apply i_lenS); (case c => walk_at "side"))
  | ((with_reducible apply i_lenL); assumption)
  | (with_reducible apply i_abs)
  | (with_reducible apply i_max2)
  | (with_reducible apply i_min2)
  | ((with_reducible apply i_strI); (case c => walk_at "side"))
  | (with_reducible apply i_intB)
  | (with_reducible apply i_test)
  | (with_reducible apply i_tB)
  | (with_reducible apply i_kB)
  | (with_reducible apply i_and)
  | (with_reducible apply i_or)
  | (with_reducible apply i_not)
  | (with_reducible apply i_if)
  | (with_reducible apply i_andV)
  | (with_reducible apply i_orV)
  | (with_reducible apply i_notV)
  | (with_reducible apply i_kAndV)
  | (with_reducible apply i_kOrV)
  | (with_reducible apply i_kNotV)
  | (with_reducible apply i_chain)
  | (with_reducible apply i_kChain)
  | (with_reducible apply i_drop)
  | (with_reducible apply i_ret)
  | (with_reducible apply i_retN)
  | (with_reducible apply i_ifS)
  | (with_reducible apply i_asg)
  | (with_reducible apply i_gName)
  | (with_reducible apply i_for)
  | (with_reducible apply i_lc)
  | (with_reducible apply i_iList)
  | (with_reducible apply i_iTup)
  | (with_reducible apply i_iStr)
  | (with_reducible apply i_kStrI)
  | (with_reducible apply i_lst)
  | (with_reducible apply i_tup)
  | (with_reducible apply i_call)
  | (with_reducible apply i_m1)
  | (with_reducible apply i_kStr)
  | (with_reducible apply i_bm)
  | (with_reducible apply i_bm0)
  | (with_reducible apply i_part)
  | (with_reducible apply i_kInt)
  | (with_reducible apply i_noPart)
  | (with_reducible apply i_sl)
  | (with_reducible apply i_range1)
  | (with_reducible apply i_range2)
  | ((with_reducible apply i_kRng1); (case c => walk_at "side"))
  | ((with_reducible apply i_kRng2); (case c => walk_at "side"))
  | (with_reducible apply i_gCons)
  | (with_reducible apply i_gNil)
  | (with_reducible apply i_gSub)
  | (with_reducible apply i_iZip)
  | (with_reducible apply i_yes)
  | (with_reducible apply i_ift)
  | (with_reducible apply i_iff)
  | (with_reducible apply i_nb))
local macro_rules | `(tactic| walk_at "go") => `(tactic| repeat (first | (with_reducible apply i_seq) | (with_reducible apply i_next) | walk_at "e"))
local macro_rules | `(tactic| walk_at "ge") => `(tactic| repeat walk_at "e")
local macro_rules | `(tactic| walk_at "sz") => `(tactic| first | decide | (rw [sizeLine_eq]; simp; done) | (rw [sizeLine_eq]; omega))
local macro_rules | `(tactic| walk_at "side") => `(tactic| (with_reducible exact WB.most_pos))
local macro_rules | `(tactic| walk_at "e") => `(tactic| first
  | ((with_reducible apply i_isT (b := true)); exact rfl)
  | ((with_reducible apply i_isT (b := false)); exact rfl)
  | (with_reducible apply i_fld)
  | ((with_reducible apply i_kFld); (case h => assumption); (case c1 => assumption); (case c2 => assumption); (case e => first | exact lk_number | exact lk_tail | exact lk_head | exact lk_load | exact lk_oneway | exact lk_points | exact lk_ties | exact lk_given))
  | (with_reducible apply i_sfld)
  | ((with_reducible apply i_kSFld); (case h => first | assumption | exact upd_same); (case c1 => assumption); (case c2 => assumption); (case e => exact Nat.le_of_ble_eq_true rfl))
  | (with_reducible apply i_methC)
  | (with_reducible apply i_make)
  | (with_reducible apply i_fldaug)
  | (with_reducible apply i_vals)
  | (with_reducible apply i_items)
  | (with_reducible apply i_dget)
  | (with_reducible apply i_dput)
  | (with_reducible apply i_din)
  | (with_reducible apply i_dnotin)
  | (with_reducible apply i_ddel)
  | (with_reducible apply i_dc)
  | (with_reducible apply i_enum)
  | (with_reducible apply i_ckw))
section
variable {P : Program} {w : World} {K : PySem.W.Frag} {mg : Str → Option Value} {base : Heap}
def sp_has_only : Sp := fun vs H Q _ => ∃ z s, vs = [.str z, .str s] ∧ Q (.bl (only z s)) H
theorem ok_has_only (T : Tx K mg) : FnOk P w K mg base CX0 1 (He.ga K "_has_only") T.fd_has_only ["text", "signs"] sp_has_only := by
  refine T.F_has_only.ok sc_has_only (fun vs H Q E h => ?_) (fun cdv A outer s H vs Q E hr h => ?_)
  · obtain ⟨z, t, rfl, _⟩ := h
    rfl
  · obtain ⟨z, t, rfl, q⟩ := h
    refine ⟨_, PSs.nox (pss_cons (ps_for PassesOwn.never rfl (pi_str (pv 0)) (pg_name (i := 2) sc_has_only.nd rfl (Or.inl rfl))
      (pss_one (ps_if (pt_cmpR op_notInS (pv 2) (pv 1) rfl) (pss_one (ps_ret pe_bl)) pss_nil)))
      (pss_one (ps_ret pe_bl))), ?_⟩
    walk_at "go"
    refine for_it walk_str (fun i σ H' => H' = H ∧ (∀ c ∈ z.cps.toList.take i, c ∈ t.cps.toList) ∧ ∃ v, σ = [some (.str z), some (.str t), v]) ⟨rfl, by simp, none, rfl⟩ (fun _ _ _ _ _ => trivial) ?_ ?_
    · rintro i x σ H1 H2 hi ⟨rfl, ho, v, rfl⟩ ⟨rfl, c, hc, rfl⟩
      have hc' : z.cps.toList[i]? = some c := by simpa using hc
      walk_at "go"
      apply i_dec
      · intro hm
        walk_at "go"
        refine ⟨rfl, ?_, _, rfl⟩
        intro d hd
        rw [List.take_add_one, hc'] at hd
        rcases List.mem_append.mp hd with hd | hd
        · exact ho d hd
        · have : d = c := by simpa using hd
          rw [this]; exact hm
      · intro hn
        walk_at "go"
        have e : only z t = false := by
          unfold only
          rw [List.all_eq_false]
          exact ⟨c, List.mem_of_getElem? hc', by simpa using hn⟩
        rw [← e]
        exact q
    · rintro σ H1 ⟨rfl, ho, v, rfl⟩
      walk_at "go"
      have e : only z t = true := by
        unfold only
        rw [List.all_eq_true]
        intro c hc
        refine decide_eq_true (ho c ?_)
        rw [List.take_of_length_le (by simp)]
        exact hc
      rw [← e]
      exact q
/-- of whole numbers -/
theorem letters_list : ("abcdefghijklmnopqrstuvwxyz" : Str).cps.toList = List.range' 97 26 := by decide +kernel
theorem isNm_of {z : Str} : isNm z = (decide (1 ≤ z.length) && (decide (z.length ≤ 12) && only z "abcdefghijklmnopqrstuvwxyz")) := by
  unfold isNm only
  rw [Bool.and_assoc, letters_list]
  congr 3
  funext c
  rw [← Bool.decide_and]
  refine decide_eq_decide.mpr ?_
  rw [List.mem_range'_1]
  omega
/-- no text -/
def NoStr (K : PySem.W.Frag) (H : Hp) (v : V) : Prop := ∃ n, EVV.HasTy K H v n ∧ kitB n "str" = some false
theorem NoStr.same {K : PySem.W.Frag} {H H' : Hp} {v : V} (h : NoStr K H v) (m : Same H H') : NoStr K H' v := by
  obtain ⟨n, h, e⟩ := h
  exact ⟨n, EVV.ty_same h m, e⟩
/-- of short texts -/
def sp_is_name : Sp := fun vs H Q _ => ∃ z : Str, vs = [.str z] ∧ z.length ≤ 1000 ∧ Q (.bl (isNm z)) H
theorem ok_is_name (T : Tx K mg) : FnOk P w K mg base CX0 2 (He.ga K "is_name") T.fd_is_name ["thing"] sp_is_name := by
  refine T.F_is_name.ok sc_is_name (fun vs H Q E h => ?_) (fun cdv A outer s H vs Q E hr h => ?_)
  · obtain ⟨x, rfl, _⟩ := h
    rfl
  · obtain ⟨z, rfl, hz, q⟩ := h
    refine ⟨_, PSs.nox (pss_cons (ps_if (pt_not (pt_val (pe_callB call_isi (by rfl) T.b_isinstance (by decide +kernel) (pa_cons (pv 0) (pa_cons (pe_bltn (v := .ty "str") rfl T.b_str (by decide +kernel) rfl) pa_nil))))) (pss_one (ps_ret pe_bl)) pss_nil)
      (pss_one (ps_ret (pe_and (pe_chain op_le op_le pe_int (pe_callB x_lenS (by rfl) T.b_len (by decide +kernel) (pa_cons (pv 0) pa_nil)) (pe_glob (v := .int 12) rfl (T.c_MOST_LETTERS).choose_spec ⟨_, rfl⟩)) (pe_one (pe_call (ok_has_only T) (hr.mono (by decide)) (by rfl) T.g_has_only T.F_has_only.kp T.k_has_only .nil pass0 (pa_cons (pv 0) (pa_cons (pe_glob (v := .str "abcdefghijklmnopqrstuvwxyz") rfl (T.c_LETTERS).choose_spec ⟨_, rfl⟩) pa_nil)))))))), ?_⟩
    rw [isNm_of] at q
    walk_at "go"
    apply i_dec
    · intro h1
      have h1' : 1 ≤ z.length := by omega
      rw [decide_eq_true h1', Bool.true_and] at q
      walk_at "go"
      apply i_dec
      · intro h2
        have h2' : z.length ≤ 12 := by omega
        rw [decide_eq_true h2', Bool.true_and] at q
        walk_at "go"
        exact ⟨z, _, rfl, q⟩
      · intro h2
        have h2' : ¬ z.length ≤ 12 := by omega
        rw [decide_eq_false h2', Bool.false_and] at q
        walk_at "go"
        exact q
    · intro h1
      have h1' : ¬ 1 ≤ z.length := by omega
      rw [decide_eq_false h1', Bool.false_and] at q
      walk_at "go"
      exact q
end
end K25

set_option Elab.async false
set_option linter.all false
set_option maxRecDepth 100000
set_option maxHeartbeats 4000000
namespace K25
open PySem PySem.Spec PyProof.Rows L2 HX WB
local macro_rules | `(tactic| walk_at "side") => `(tactic| first
  | assumption
  | rfl
  | (show (0 : Int) < _; omega)
  | (unfold CDiv; omega)
  | (unfold CMul; omega)
  | (unfold CPow; omega)
  | (rw [sizeLine_eq]; omega)
  | omega)
local macro_rules | `(tactic| walk_at "e") => `(tactic| first
  | ((with_reducible apply i_var); exact rfl)
  | (with_reducible apply i_c)
  | (with_reducible apply i_op)
  | (with_reducible apply i_un)
  | (with_reducible apply i_rI0)
  | ((with_reducible apply i_rI); (case c => walk_at "side"))
  | (with_reducible apply i_rGe)
  | (with_reducible apply i_rGt)
  | (with_reducible apply i_rU)
  | (with_reducible apply i_rEqI)
  | (with_reducible apply i_rNeI)
  | (with_reducible apply i_rEqS)
  | (with_reducible apply i_rNeS)
  | (with_reducible apply i_rEqB)
  | (with_reducible apply i_rNeB)
  | (with_reducible apply i_rIsN)
  | (with_reducible apply i_rNotN)
  | (with_reducible apply i_rInS)
  | (with_reducible apply i_rNotInS)
  | ((with_reducible apply i_catS); (case c => walk_at "side"))
  | (with_reducible apply i_tcb)
  | (with_reducible apply i_nil)
  | (with_reducible apply i_cons)
  | ((with_reducible apply i_lenS); (case c => walk_at "side"))
  | ((with_reducible apply i_lenL); assumption)
  | (with_reducible apply i_abs)
  | (with_reducible apply i_max2)
  | (with_reducible apply i_min2)
  | ((with_reducible apply i_strI); (case c => walk_at "side"))
  | (with_reducible apply i_intB)
  | (with_reducible apply i_test)
  | (with_reducible apply i_tB)
  | (with_reducible apply i_kB)
  | (with_reducible apply i_and)
  | (with_reducible apply i_or)
  | (with_reducible apply i_not)
  | (with_reducible apply i_if)
  | (with_reducible apply i_andV)
  | (with_reducible apply i_orV)
  | (with_reducible apply i_notV)
  | (with_reducible apply i_kAndV)
  | (with_reducible apply i_kOrV)
  | (with_reducible apply i_kNotV)
  | (with_reducible apply i_chain)
  | (with_reducible apply i_kChain)
  | (with_reducible apply i_drop)
  | (with_reducible apply i_ret)
  | (with_reducible apply i_retN)
  | (with_reducible apply i_ifS)
  | (with_reducible apply i_asg)
  | (with_reducible apply i_gName)
  | (with_reducible apply i_for)
  | (with_reducible apply i_lc)
  | (with_reducible apply i_iList)
  | (with_reducible apply i_iTup)
  | (with_reducible apply i_iStr)
  | (with_reducible apply i_kStrI)
  | (with_reducible apply i_lst)
  | (with_reducible apply i_tup)
  | (with_reducible apply i_call)
  | (with_reducible apply i_m1)
  | (with_reducible apply i_kStr)
  | (with_reducible apply i_bm)
  | (with_reducible apply i_bm0)
  | (with_reducible apply i_part)
  | (with_reducible apply i_kInt)
  | (with_reducible apply i_noPart)
  | (with_reducible apply i_sl)
  | (with_reducible apply i_range1)
  | (with_reducible apply i_range2)
  | ((with_reducible apply i_kRng1); (case c => walk_at "side"))
  | ((with_reducible apply i_kRng2); (case c => walk_at "side"))
  | (with_reducible apply i_gCons)
  | (with_reducible apply i_gNil)
  | (with_reducible apply i_gSub)
  | (with_reducible apply i_iZip)
  | (with_reducible apply i_yes)
  | (with_reducible apply i_ift)
  | (with_reducible apply i_iff)
  | (with_reducible apply i_nb))
local macro_rules | `(tactic| walk_at "go") => `(tactic| repeat (first | (with_reducible apply i_seq) | (with_reducible apply i_next) | walk_at "e"))
local macro_rules | `(tactic| walk_at "ge") => `(tactic| repeat walk_at "e")
local macro_rules | `(tactic| walk_at "sz") => `(tactic| first | decide | (rw [sizeLine_eq]; simp; done) | (rw [sizeLine_eq]; omega))
local macro_rules | `(tactic| walk_at "side") => `(tactic| (with_reducible exact WB.most_pos))
local macro_rules | `(tactic| walk_at "e") => `(tactic| first
  | ((with_reducible apply i_isT (b := true)); exact rfl)
  | ((with_reducible apply i_isT (b := false)); exact rfl)
  | (with_reducible apply i_fld)
  | ((with_reducible apply i_kFld); (case h => assumption); (case c1 => assumption); (case c2 => assumption); (case e => first | exact lk_number | exact lk_tail | exact lk_head | exact lk_load | exact lk_oneway | exact lk_points | exact lk_ties | exact lk_given))
  | (with_reducible apply i_sfld)
  | ((with_reducible apply i_kSFld); (case h => first | assumption | exact upd_same); (case c1 => assumption); (case c2 => assumption); (case e => exact Nat.le_of_ble_eq_true rfl))
  | (with_reducible apply i_methC)
  | (with_reducible apply i_make)
  | (with_reducible apply i_fldaug)
  | (with_reducible apply i_vals)
  | (with_reducible apply i_items)
  | (with_reducible apply i_dget)
  | (with_reducible apply i_dput)
  | (with_reducible apply i_din)
  | (with_reducible apply i_dnotin)
  | (with_reducible apply i_ddel)
  | (with_reducible apply i_dc)
  | (with_reducible apply i_enum)
  | (with_reducible apply i_ckw))
theorem i_con {K : PySem.W.Frag} {σ : L2.St} {H : Hp} {Q : VK} {ta : TE} {f : Str} (q : ta σ H fun x H1 => ∃ a C dx fs v u, x = .ref a ∧ H1 a = some (.ins C dx fs) ∧ Cls K C ∧ Con K C f v u ∧ fs.lookup f = none ∧ Q v H1) : tCon K ta f σ H Q := q
theorem i_dyn {P : Program} {w : World} {K : PySem.W.Frag} {mg : Str → Option Value} {base : Heap} {CX : CXT} {n : Nat} {m : Str} {E : XK} {ta : TE} {σ : L2.St} {H : Hp} {Q : VK} (q : ta σ H fun x H1 => ∃ (a C dx f : Addr) (fs : List (Str × V)) (fd : FuncData) (ps : List Str) (sp : Sp) (k : Nat),
  x = .ref a ∧ H1 a = some (.ins C dx fs) ∧ Cls K C ∧ Meth K C m f ∧ fs.lookup m = none ∧ FnOk P w K mg base CX k f fd ps sp ∧ k ≤ n ∧ Binds K fd ps [] ∧ sp [x] H1 Q E) : CLX.tDyn0 P w K mg base CX n m E ta σ H Q := q
theorem i_makeS {K : PySem.W.Frag} {C : Addr} {sp : Sp} {E : XK} {te : TE} {σ : L2.St} {H : Hp} {Q : VK} (q : te σ H fun y H1 => ∃ (a : Addr) (xs : List V), y = V.ref a ∧ (SqT K H1 a xs ∨ SqL K H1 a xs) ∧ ∀ x dx, H1 x = none → H1 dx = none → dx ≠ x →
  sp (V.ref x :: xs) (upd (upd H1 dx (.own x)) x (.ins C dx [])) (fun v H2 => v = .non ∧ Q (.ref x) H2) E) : CLX.tMakeS K C sp E te σ H Q := q
theorem i_match {te : TE} {tm : V → TS} {D : Ends} {σ : L2.St} {H : Hp} (q : te σ H fun v H1 => tm v D σ H1) : MAX.tMatch te tm D σ H := q
local macro_rules | `(tactic| walk_at "e") => `(tactic| first | (with_reducible apply i_con) | (with_reducible apply i_dyn) | (with_reducible apply i_makeS) | (with_reducible apply i_match))
/-- a question: its class, its word, its names -/
inductive QAt (K : PySem.W.Frag) (H : Hp) (a : Addr) : Str → Str → List Str → Prop where
  | two {C z x y : Str} {dx : Addr} (m : (C, z) ∈ two) (h : QC K C "OfTwo" z) (e : H a = some (.ins (He.ga K C) dx [("one", .str x), ("other", .str y)])) : QAt K H a C z [x, y]
  | three {x y n : Str} {dx : Addr} (h : QC K "PastPoint" "PastPoint" "past") (e : H a = some (.ins (He.ga K "PastPoint") dx [("one", .str x), ("other", .str y), ("name", .str n)])) : QAt K H a "PastPoint" "past" [x, y, n]
  | none {C z : Str} {dx : Addr} (m : (C, z) ∈ none0) (h : QC K C "Question" z) (e : H a = some (.ins (He.ga K C) dx [])) : QAt K H a C z []
theorem QAt.same {K : PySem.W.Frag} {H H' : Hp} {a : Addr} {C z : Str} {ns : List Str} (h : QAt K H a C z ns) (m : Same H H') : QAt K H' a C z ns := by
  cases h with
  | two hm h e => exact .two hm h (m _ _ e)
  | three h e => exact .three h (m _ _ e)
  | none hm h e => exact .none hm h (m _ _ e)
/-- the classes and their words -/
def tab : List (Str × Str) := two ++ ((("PastPoint" : Str), ("past" : Str)) :: none0)
/-- what each question has -/
structure QI (K : PySem.W.Frag) (H : Hp) (a : Addr) (C z : Str) : Prop where
  tab : (C, z) ∈ tab
  ins : ∃ dx fs, H a = some (.ins (He.ga K C) dx fs) ∧ fs.lookup ("text" : Str) = Option.none ∧ fs.lookup ("has_loads" : Str) = Option.none ∧ fs.lookup ("matter" : Str) = Option.none
  cl : Cls K (He.ga K C)
  text : Meth K (He.ga K C) "text" (He.ma K (He.ga K "Question") "text")
  loads : Meth K (He.ga K C) "has_loads" (He.ma K (He.ga K (lo C)) "has_loads")
  isq : isqB K C = true
theorem QAt.info {K : PySem.W.Frag} {H : Hp} {a : Addr} {C z : Str} {ns : List Str} (h : QAt K H a C z ns) : QI K H a C z := by
  cases h with
  | two m h e => exact ⟨List.mem_append_left _ m, ⟨_, _, e, rfl, rfl, rfl⟩, h.cl, h.text, h.loads, h.isq⟩
  | three h e => exact ⟨List.mem_append_right _ (List.mem_cons_self ..), ⟨_, _, e, rfl, rfl, rfl⟩, h.cl, h.text, h.loads, h.isq⟩
  | none m h e => exact ⟨List.mem_append_right _ (List.mem_cons_of_mem _ m), ⟨_, _, e, rfl, rfl, rfl⟩, h.cl, h.text, h.loads, h.isq⟩
section
variable {P : Program} {w : World} {K : PySem.W.Frag} {mg : Str → Option Value} {base : Heap}
def sp_row : Sp := fun vs H Q _ => ∃ (z : Str) (p : Addr) (ys : List Str), vs = [.str z, .ref p] ∧ H p = some (.lst (ys.map V.str)) ∧ z.length ≤ 100 ∧ (∀ y ∈ ys, y.length ≤ 100) ∧ ys.length ≤ 100 ∧ ∀ H', Same H H' → Q (.str (Txt.join " " (z :: ys))) H'
theorem ok_row (T : Tx K mg) : FnOk P w K mg base CX0 1 (He.ga K "_row") T.fd_row ["word", "words"] sp_row := by
  refine T.F_row.ok sc_row (fun vs H Q E h => ?_) (fun cdv A outer s H vs Q E hr h => ?_)
  · obtain ⟨_, _, _, rfl, _⟩ := h
    rfl
  · obtain ⟨z, p, ys, rfl, hp, lz, ly, ln, q⟩ := h
    have hu := hu_of hr
    refine ⟨_, PSs.nox (pss_one (ps_ret (x_join pe_str (pe_op op_cat (pe_lst (pa_cons (pv 0) pa_nil)) (pv 1))))), ?_⟩
    walk_at "go"
    refine ⟨by walk_at "sz", fun p1 hp1 => ?_⟩
    have n1 : p ≠ p1 := ne_of_none hp hp1
    have s1 : Same H (upd H p1 (.lst [.str z])) := Same.new hp1
    have e1 : (upd H p1 (.lst [.str z])) p1 = some (.lst [.str z]) := upd_same
    have e2 := s1 _ _ hp
    walk_at "go"
    have ly2 : (ys.map V.str).length = ys.length := List.length_map _
    refine i_cat e1 e2 (by rw [ly2, sizeLine_eq]; show 1 + _ ≤ _; omega) fun p2 hp2 => ?_
    refine i_join (ys := z :: ys) (SqL.of upd_same) ?_ ?_
    · have h1 := TX.sum_le (ys := z :: ys) (k := 100) (fun y hy => (List.mem_cons.mp hy).elim (fun e => e ▸ lz) (ly y))
      have h2 : (" " : Str).length = 1 := by decide +kernel
      have h3 : (z :: ys).length ≤ 101 := by rw [List.length_cons]; omega
      have h4 : (z :: ys).length * 100 ≤ 101 * 100 := Nat.mul_le_mul_right _ h3
      rw [h2]
      omega
    exact q _ ((Same.new hp1).trans (Same.new hp2))
def sp_matter0 : Sp := fun vs H Q _ => ∃ a : Addr, vs = [.ref a] ∧ ∀ p, H p = none → Q (.ref p) (upd H p (.lst []))
theorem ok_Question_matter (T : Tx K mg) : FnOk P w K mg base CX0 1 (He.ma K (He.ga K "Question") "matter") T.fd_Question_matter ["self"] sp_matter0 := by
  refine T.F_Question_matter.ok sc_Question_matter (fun vs H Q E h => ?_) (fun cdv A outer s H vs Q E hr h => ?_)
  · obtain ⟨_, rfl, _⟩ := h
    rfl
  · obtain ⟨a, rfl, q⟩ := h
    refine ⟨_, PSs.nox (pss_one (ps_ret (pe_lst pa_nil))), ?_⟩
    walk_at "go"
    exact ⟨by walk_at "sz", fun p hp => q p hp⟩
def sp_matter2 (K : PySem.W.Frag) : Sp := fun vs H Q _ => ∃ (a : Addr) (C z x y : Str) (dx : Addr), vs = [.ref a] ∧ QC K C "OfTwo" z ∧ H a = some (.ins (He.ga K C) dx [("one", .str x), ("other", .str y)]) ∧ ∀ p, H p = none → Q (.ref p) (upd H p (.lst [.str x, .str y]))
theorem ok_OfTwo_matter (T : Tx K mg) : FnOk P w K mg base CX0 1 (He.ma K (He.ga K "OfTwo") "matter") T.fd_OfTwo_matter ["self"] (sp_matter2 K) := by
  refine T.F_OfTwo_matter.ok sc_OfTwo_matter (fun vs H Q E h => ?_) (fun cdv A outer s H vs Q E hr h => ?_)
  · obtain ⟨_, _, _, _, _, _, rfl, _⟩ := h
    rfl
  · obtain ⟨a, C, z, x, y, dx, rfl, hc, e, q⟩ := h
    refine ⟨_, PSs.nox (pss_one (ps_ret (pe_lst (pa_cons (pe_fld (pv 0) rfl) (pa_cons (pe_fld (pv 0) rfl) pa_nil))))), ?_⟩
    walk_at "go"
    refine i_kFld e hc.cl hc.n1 rfl ?_
    walk_at "go"
    refine i_kFld e hc.cl hc.n2 rfl ?_
    walk_at "go"
    exact ⟨by walk_at "sz", fun p hp => q p hp⟩
def sp_matter3 (K : PySem.W.Frag) : Sp := fun vs H Q _ => ∃ (a : Addr) (C z x y n : Str) (dx : Addr), vs = [.ref a] ∧ QC K C "PastPoint" z ∧ H a = some (.ins (He.ga K C) dx [("one", .str x), ("other", .str y), ("name", .str n)]) ∧ ∀ p, H p = none → Q (.ref p) (upd H p (.lst [.str x, .str y, .str n]))
theorem ok_PastPoint_matter (T : Tx K mg) : FnOk P w K mg base CX0 1 (He.ma K (He.ga K "PastPoint") "matter") T.fd_PastPoint_matter ["self"] (sp_matter3 K) := by
  refine T.F_PastPoint_matter.ok sc_PastPoint_matter (fun vs H Q E h => ?_) (fun cdv A outer s H vs Q E hr h => ?_)
  · obtain ⟨_, _, _, _, _, _, _, rfl, _⟩ := h
    rfl
  · obtain ⟨a, C, z, x, y, n, dx, rfl, hc, e, q⟩ := h
    refine ⟨_, PSs.nox (pss_one (ps_ret (pe_lst (pa_cons (pe_fld (pv 0) rfl) (pa_cons (pe_fld (pv 0) rfl) (pa_cons (pe_fld (pv 0) rfl) pa_nil)))))), ?_⟩
    walk_at "go"
    refine i_kFld e hc.cl hc.n1 rfl ?_
    walk_at "go"
    refine i_kFld e hc.cl hc.n2 rfl ?_
    walk_at "go"
    refine i_kFld e hc.cl hc.n3 rfl ?_
    walk_at "go"
    exact ⟨by walk_at "sz", fun p hp => q p hp⟩
def sp_text (K : PySem.W.Frag) : Sp := fun vs H Q _ => ∃ (a : Addr) (C z : Str) (ns : List Str), vs = [.ref a] ∧ QAt K H a C z ns ∧ z.length ≤ 100 ∧ (∀ y ∈ ns, y.length ≤ 100) ∧ ∀ H', Same H H' → Q (.str (Txt.join " " (z :: ns))) H'
theorem ok_Question_text (T : Tx K mg) : FnOk P w K mg base CX0 3 (He.ma K (He.ga K "Question") "text") T.fd_Question_text ["self"] (sp_text K) := by
  refine T.F_Question_text.ok sc_Question_text (fun vs H Q E h => ?_) (fun cdv A outer s H vs Q E hr h => ?_)
  · obtain ⟨_, _, _, _, rfl, _⟩ := h
    rfl
  · obtain ⟨a, C, z, ns, rfl, hq, lz, ln, q⟩ := h
    refine ⟨_, PSs.nox (pss_one (ps_ret (pe_call (ok_row T) (hr.mono (by decide)) (by rfl) T.g_row T.F_row.kp T.k_row .nil pass0 (pa_cons (pe_con (pv 0) rfl) (pa_cons (CLX.pe_dyn0 (CX := CX0) (n := 1) (E := E0) (pv 0) (hr.mono (by decide)) pass0) pa_nil))))), ?_⟩
    cases hq with
    | @two C z x y dx hm hc e =>
      obtain ⟨u, hw⟩ := hc.word
      walk_at "go"
      refine ⟨a, _, dx, _, _, u, rfl, e, hc.cl, hw, rfl, ?_⟩
      walk_at "go"
      refine ⟨a, _, dx, _, _, _, _, _, _, rfl, e, hc.cl, hc.matter, rfl, ok_OfTwo_matter T, by decide, T.k_OfTwo_matter, a, C, _, x, y, dx, rfl, hc, e, fun p hp => ?_⟩
      walk_at "go"
      exact ⟨_, p, [x, y], rfl, upd_same, lz, ln, by show 2 ≤ 100; decide, fun H' s => q H' ((Same.new hp).trans s)⟩
    | @three x y n dx hc e =>
      obtain ⟨u, hw⟩ := hc.word
      walk_at "go"
      refine ⟨a, _, dx, _, _, u, rfl, e, hc.cl, hw, rfl, ?_⟩
      walk_at "go"
      refine ⟨a, _, dx, _, _, _, _, _, _, rfl, e, hc.cl, hc.matter, rfl, ok_PastPoint_matter T, by decide, T.k_PastPoint_matter, a, "PastPoint", _, x, y, n, dx, rfl, hc, e, fun p hp => ?_⟩
      walk_at "go"
      exact ⟨_, p, [x, y, n], rfl, upd_same, lz, ln, by show 3 ≤ 100; decide, fun H' s => q H' ((Same.new hp).trans s)⟩
    | @none C z dx hm hc e =>
      obtain ⟨u, hw⟩ := hc.word
      walk_at "go"
      refine ⟨a, _, dx, _, _, u, rfl, e, hc.cl, hw, rfl, ?_⟩
      walk_at "go"
      refine ⟨a, _, dx, _, _, _, _, _, _, rfl, e, hc.cl, hc.matter, rfl, ok_Question_matter T, by decide, T.k_Question_matter, a, rfl, fun p hp => ?_⟩
      walk_at "go"
      exact ⟨_, p, [], rfl, upd_same, lz, ln, by decide, fun H' s => q H' ((Same.new hp).trans s)⟩
def sp_two (K : PySem.W.Frag) : Sp := fun vs H Q _ => ∃ (a : Addr) (C z x y : Str) (dx : Addr), vs = [.ref a, .str x, .str y] ∧ QC K C "OfTwo" z ∧ H a = some (.ins (He.ga K C) dx []) ∧ Q .non (upd H a (.ins (He.ga K C) dx [("one", .str x), ("other", .str y)]))
theorem ok_OfTwo_init (T : Tx K mg) : FnOk P w K mg base CX0 1 (He.ma K (He.ga K "OfTwo") "__init__") T.fd_OfTwo_init ["self", "one", "other"] (sp_two K) := by
  refine T.F_OfTwo_init.ok sc_OfTwo_init (fun vs H Q E h => ?_) (fun cdv A outer s H vs Q E hr h => ?_)
  · obtain ⟨_, _, _, _, _, _, rfl, _⟩ := h
    rfl
  · obtain ⟨a, C, z, x, y, dx, rfl, hc, e, q⟩ := h
    refine ⟨_, PSs.nox (pss_cons (ps_fld (pv 0) (pv 1) rfl)
      (pss_one (ps_fld (pv 0) (pv 2) rfl))), ?_⟩
    have c1 := hc.cl
    have c2 := hc.n1
    have c3 := hc.n2
    walk_at "go"
    simp only [upd_upd]
    exact q
def sp_three (K : PySem.W.Frag) : Sp := fun vs H Q _ => ∃ (a : Addr) (C z x y n : Str) (dx : Addr), vs = [.ref a, .str x, .str y, .str n] ∧ QC K C "PastPoint" z ∧ H a = some (.ins (He.ga K C) dx []) ∧ Q .non (upd H a (.ins (He.ga K C) dx [("one", .str x), ("other", .str y), ("name", .str n)]))
theorem ok_PastPoint_init (T : Tx K mg) : FnOk P w K mg base CX0 1 (He.ma K (He.ga K "PastPoint") "__init__") T.fd_PastPoint_init ["self", "one", "other", "name"] (sp_three K) := by
  refine T.F_PastPoint_init.ok sc_PastPoint_init (fun vs H Q E h => ?_) (fun cdv A outer s H vs Q E hr h => ?_)
  · obtain ⟨_, _, _, _, _, _, _, rfl, _⟩ := h
    rfl
  · obtain ⟨a, C, z, x, y, n, dx, rfl, hc, e, q⟩ := h
    refine ⟨_, PSs.nox (pss_cons (ps_fld (pv 0) (pv 1) rfl)
      (pss_cons (ps_fld (pv 0) (pv 2) rfl)
      (pss_one (ps_fld (pv 0) (pv 3) rfl)))), ?_⟩
    have c1 := hc.cl
    have c2 := hc.n1
    have c3 := hc.n2
    have c4 := hc.n3
    walk_at "go"
    simp only [upd_upd]
    exact q
def sp_loads (b : Bool) : Sp := fun vs H Q _ => ∃ a : Addr, vs = [.ref a] ∧ Q (.bl b) H
theorem ok_Question_has_loads (T : Tx K mg) : FnOk P w K mg base CX0 1 (He.ma K (He.ga K "Question") "has_loads") T.fd_Question_has_loads ["self"] (sp_loads false) := by
  refine T.F_Question_has_loads.ok sc_Question_has_loads (fun vs H Q E h => ?_) (fun cdv A outer s H vs Q E hr h => ?_)
  · obtain ⟨_, rfl, _⟩ := h
    rfl
  · obtain ⟨a, rfl, q⟩ := h
    refine ⟨_, PSs.nox (pss_one (ps_ret pe_bl)), ?_⟩
    walk_at "go"
    exact q
theorem ok_LeastWay_has_loads (T : Tx K mg) : FnOk P w K mg base CX0 1 (He.ma K (He.ga K "LeastWay") "has_loads") T.fd_LeastWay_has_loads ["self"] (sp_loads true) := by
  refine T.F_LeastWay_has_loads.ok sc_LeastWay_has_loads (fun vs H Q E h => ?_) (fun cdv A outer s H vs Q E hr h => ?_)
  · obtain ⟨_, rfl, _⟩ := h
    rfl
  · obtain ⟨a, rfl, q⟩ := h
    refine ⟨_, PSs.nox (pss_one (ps_ret pe_bl)), ?_⟩
    walk_at "go"
    exact q
theorem ok_LightestForest_has_loads (T : Tx K mg) : FnOk P w K mg base CX0 1 (He.ma K (He.ga K "LightestForest") "has_loads") T.fd_LightestForest_has_loads ["self"] (sp_loads true) := by
  refine T.F_LightestForest_has_loads.ok sc_LightestForest_has_loads (fun vs H Q E h => ?_) (fun cdv A outer s H vs Q E hr h => ?_)
  · obtain ⟨_, rfl, _⟩ := h
    rfl
  · obtain ⟨a, rfl, q⟩ := h
    refine ⟨_, PSs.nox (pss_one (ps_ret pe_bl)), ?_⟩
    walk_at "go"
    exact q
end
end K25

set_option Elab.async false
set_option linter.all false
set_option maxRecDepth 100000
set_option maxHeartbeats 2000000
/-! KR: any lines read to a web, as plain data. -/
namespace WB
open PySem PySem.Spec PyProof.Rows L2 HX TX TL
theorem digitsVal_snoc (r : List Nat) (c : Nat) : NumText.digitsVal (r ++ [c]) = NumText.digitsVal r * 10 + (c - 48) := by
  unfold NumText.digitsVal
  rw [List.foldl_append]
  rfl
theorem numL_back (n : Nat) : ∀ cs : List Nat, cs.length = n → cs ≠ [] → NumText.AllDigits cs → (cs.headD 0 = 48 → cs = [48]) → numL (NumText.digitsVal cs) = cs := by
  induction n with
  | zero => intro cs h hne; exact absurd (List.length_eq_zero_iff.mp h) hne
  | succ n ih =>
    intro cs h hne hd hz
    obtain ⟨r, c, rfl⟩ : ∃ r c, cs = r ++ [c] := ⟨cs.dropLast, cs.getLast hne, (List.dropLast_concat_getLast hne).symm⟩
    have hc := hd c (by simp)
    rw [digitsVal_snoc]
    cases r with
    | nil =>
      show numL (0 * 10 + (c - 48)) = [c]
      rw [numL_lt (by omega)]
      congr 1
      omega
    | cons a t =>
      have hl : (a :: t).length = n := by simpa using h
      have ha : a ≠ 48 := fun e => by
        have := hz (by simpa using e)
        simp at this
      have hr := ih (a :: t) hl (by simp) (fun x hx => hd x (List.mem_append.mpr (.inl hx))) (fun e => absurd (by simpa using e) ha)
      have pos : NumText.digitsVal (a :: t) ≠ 0 := fun e => by
        rw [e, numL_lt (by omega)] at hr
        have := (List.cons.inj hr).1
        omega
      rw [numL_step (by omega)]
      have e1 : (NumText.digitsVal (a :: t) * 10 + (c - 48)) / 10 = NumText.digitsVal (a :: t) := by omega
      have e2 : (NumText.digitsVal (a :: t) * 10 + (c - 48)) % 10 = c - 48 := by omega
      rw [e1, e2, hr]
      congr 2
      omega
/-- what a word of figures writes, written again -/
theorem num_forth {z : Str} {g : Int} (h : numV z = .int g) : nS g = z ∧ 0 ≤ g := by
  unfold numV at h
  split at h
  · rename_i ok
    have hg := V.int.inj h
    subst hg
    refine ⟨?_, by omega⟩
    unfold numOk at ok
    simp only [Bool.and_eq_true, decide_eq_true_eq] at ok
    obtain ⟨⟨⟨h1, h2⟩, h3⟩, h4⟩ := ok
    have hl := len_list z
    refine ext_tl ?_
    rw [tl_nS]
    refine numL_back _ _ rfl (fun e => ?_) (only_digs h3) (fun e => ?_)
    · rw [e] at hl
      simp at hl
      omega
    · have e1 : fst1 z = "0" := ext_tl (by
        rw [zero_tl]
        show [z.cps.toList.headD 0] = _
        rw [e])
      rw [decide_eq_true e1] at h4
      have e2 : z = "0" := by simpa using h4
      show tl z = [48]
      rw [e2, zero_tl]
  · cases h
theorem numV_cases (z : Str) : numV z = .non ∨ ∃ g, numV z = .int g := by
  unfold numV
  split
  · exact .inr ⟨_, rfl⟩
  · exact .inl rfl
def gvL : V → Option Ln
  | .int g => some (.gv g)
  | _ => none
def tieL (t h : Str) (o : Bool) : V → V → Option Ln
  | .int n, .int c => some (.tie n ⟨t, h, c, o⟩)
  | _, _ => none
def parse2 (a x : Str) : Option Ln := if a = "point" then some (.pt x) else if a = "given" then gvL (numV x) else none
def parse5 (k n t h c : Str) : Option Ln := if k = "tie" ∨ k = "way" then tieL t h (decide (k = "way")) (numV n) (numV c) else none
/-- what words write -/
def parse : List Str → Option Ln
  | [a, x] => parse2 a x
  | [k, n, t, h, c] => parse5 k n t h c
  | _ => none
theorem parse_pt (x : Str) : parse ["point", x] = some (.pt x) := by
  show parse2 "point" x = _
  unfold parse2
  rw [if_pos rfl]
theorem parse_gv {x : Str} {g : Int} (h : numV x = .int g) : parse ["given", x] = some (.gv g) := by
  show parse2 "given" x = _
  unfold parse2
  rw [if_neg (by decide +kernel), if_pos rfl, h]
  rfl
theorem parse_gv0 {x : Str} (h : numV x = .non) : parse ["given", x] = none := by
  show parse2 "given" x = _
  unfold parse2
  rw [if_neg (by decide +kernel), if_pos rfl, h]
  rfl
theorem parse_tie {k n t h c : Str} {i j : Int} (hk : k = "tie" ∨ k = "way") (h1 : numV n = .int i) (h2 : numV c = .int j) : parse [k, n, t, h, c] = some (.tie i ⟨t, h, j, decide (k = "way")⟩) := by
  show parse5 k n t h c = _
  unfold parse5
  rw [if_pos hk, h1, h2]
  rfl
theorem parse_tie0 {k n t h c : Str} (q : numV n = .non ∨ numV c = .non) : parse [k, n, t, h, c] = none := by
  show parse5 k n t h c = _
  unfold parse5
  split
  · rcases q with q | q
    · rw [q]; rfl
    · rw [q]
      rcases numV_cases n with q | ⟨_, q⟩ <;> rw [q] <;> rfl
  · rfl
/-- words of another head or count write nothing -/
theorem parse_pt0 {z : Str} {ws : List Str} (hz : z = "point" ∨ z = "given") (h : ws.length ≠ 1) : parse (z :: ws) = none := by
  match ws, h with
  | [], _ => rfl
  | [_], h => exact absurd rfl h
  | [_, _], _ => rfl
  | [_, _, _], _ => rfl
  | [_, _, _, _], _ => exact if_neg (by rcases hz with rfl | rfl <;> decide +kernel)
  | _ :: _ :: _ :: _ :: _ :: _, _ => rfl
theorem parse_tieN {z : Str} {ws : List Str} (hz : z = "tie" ∨ z = "way") (h : ws.length ≠ 4) : parse (z :: ws) = none := by
  match ws, h with
  | [], _ => rfl
  | [x], _ =>
    show parse2 z x = _
    unfold parse2
    rw [if_neg (by rcases hz with rfl | rfl <;> decide +kernel), if_neg (by rcases hz with rfl | rfl <;> decide +kernel)]
  | [_, _], _ => rfl
  | [_, _, _], _ => rfl
  | [_, _, _, _], h => exact absurd rfl h
  | _ :: _ :: _ :: _ :: _ :: _, _ => rfl
theorem parse_other {z : Str} {ws : List Str} (h1 : z ≠ "point") (h2 : z ≠ "given") (h3 : ¬(z = "tie" ∨ z = "way")) : parse (z :: ws) = none := by
  match ws with
  | [] => rfl
  | [x] =>
    show parse2 z x = _
    unfold parse2
    rw [if_neg h1, if_neg h2]
  | [_, _] => rfl
  | [_, _, _] => rfl
  | [_, _, _, _] => exact if_neg h3
  | _ :: _ :: _ :: _ :: _ :: _ => rfl
theorem parse_words {ws : List Str} {l : Ln} (h : parse ws = some l) : l.words = ws := by
  match ws, h with
  | [a, x], h =>
    have h : parse2 a x = some l := h
    unfold parse2 at h
    split at h
    · rename_i e
      cases h
      rw [e]; rfl
    · split at h
      · rename_i e
        rcases numV_cases x with q | ⟨g, q⟩ <;> rw [q] at h
        · cases h
        · cases h
          rw [e]
          show [("given" : Str), nS g] = _
          rw [(num_forth q).1]
      · cases h
  | [k, n, t, h', c], h =>
    have h : parse5 k n t h' c = some l := h
    unfold parse5 at h
    split at h
    · rename_i e
      rcases numV_cases n with q | ⟨g, q⟩ <;> rw [q] at h
      · cases h
      · rcases numV_cases c with q2 | ⟨g2, q2⟩ <;> rw [q2] at h
        · cases h
        · cases h
          show [kindS (decide (k = "way")), nS g, t, h', nS g2] = _
          rw [(num_forth q).1, (num_forth q2).1]
          rcases e with rfl | rfl
          · rw [show decide (("tie" : Str) = "way") = false by decide +kernel]; rfl
          · rw [show decide (("way" : Str) = "way") = true by decide +kernel]; rfl
    · cases h
  | [], h => cases h
  | [_], h => cases h
  | [_, _, _], h => cases h
  | [_, _, _, _], h => cases h
  | _ :: _ :: _ :: _ :: _ :: _ :: _, h => cases h
open Classical in
/-- the line that words write, where it can stand -/
noncomputable def stand (w : Wb) (ws : List Str) : Option Ln := match parse ws with
  | some l => if l.ok w then some l else none
  | none => none
theorem stand_some {w : Wb} {ws : List Str} {l : Ln} (h : stand w ws = some l) : l.words = ws ∧ l.ok w ∧ parse ws = some l := by
  unfold stand at h
  split at h
  · rename_i l' e
    split at h
    · rename_i o
      cases h
      exact ⟨parse_words e, o, e⟩
    · cases h
  · cases h
theorem stand_of {w : Wb} {ws : List Str} {l : Ln} (h : parse ws = some l) (o : l.ok w) : stand w ws = some l := by
  unfold stand
  rw [h]
  exact if_pos o
theorem stand_no {w : Wb} {ws : List Str} {l : Ln} (h : parse ws = some l) (o : ¬ l.ok w) : stand w ws = none := by
  unfold stand
  rw [h]
  exact if_neg o
theorem stand_none {w : Wb} {ws : List Str} (h : parse ws = none) : stand w ws = none := by
  unfold stand
  rw [h]
theorem not_ok {w : Wb} {ws : List Str} {l : Ln} (h : stand w ws = none) (p : parse ws = some l) : ¬ l.ok w := fun o => by
  rw [stand_of p o] at h
  cases h
/-- the words of a line -/
def wordsV : V → Option (List Str)
  | .str z => if ("" : Str) ∈ Txt.split z " " then none else some (Txt.split z " ")
  | _ => none
theorem wordsV_no {v : V} (h : ∀ z, v ≠ .str z) : wordsV v = none := by
  cases v <;> first | rfl | exact absurd rfl (h _)
theorem split_len {x y z : Str} (hz : z ∈ Txt.split x y) : z.length ≤ x.length := by
  have e : x.length = (joinL (tl y) ((Txt.split x y).map tl)).length := by
    rw [← tl_join, ← len_tl, StrLaws.join_split]
  rw [e]
  have : ∀ {ps : List (List Nat)} {p : List Nat}, p ∈ ps → p.length ≤ (joinL (tl y) ps).length := by
    intro ps
    induction ps with
    | nil => intro p h; simp at h
    | cons a r ih =>
      intro p h
      cases r with
      | nil =>
        rw [List.mem_singleton.mp h]
        exact Nat.le_refl _
      | cons b r =>
        show _ ≤ (a ++ (tl y ++ joinL (tl y) (b :: r))).length
        rw [List.length_append, List.length_append]
        rcases List.mem_cons.mp h with rfl | h
        · omega
        · have := ih h
          omega
  rw [len_tl]
  exact this (List.mem_map.mpr ⟨z, hz, rfl⟩)
theorem split_ne (x : Str) : Txt.split x " " ≠ [] := fun e => by
  have h := StrLaws.join_split x " "
  rw [e] at h
  have h2 : x = "" := h.symm.trans (by decide +kernel)
  subst h2
  exact absurd e (by decide +kernel)
/-- one line more -/
noncomputable def stepV (w : Wb) (v : V) : Option (Wb × Bool) := match wordsV v with
  | none => none
  | some ws => (stand w ws).map fun l => (l.does w, l.isGv)
/-- lines read: the place of the first one that can't stand, or the web -/
noncomputable def readV : Wb → Bool → Nat → List V → Nat ⊕ Wb
  | w, o, i, [] => if o = true then .inr w else .inl i
  | w, o, i, v :: r => if o = true then .inl i else match stepV w v with
    | none => .inl i
    | some (w', o') => readV w' o' (i + 1) r
theorem read_end {w : Wb} {i : Nat} : readV w true i [] = .inr w := rfl
theorem read_short {w : Wb} {i : Nat} : readV w false i [] = .inl i := rfl
theorem read_over {w : Wb} {i : Nat} {v : V} {r : List V} : readV w true i (v :: r) = .inl i := rfl
theorem read_bad {w : Wb} {i : Nat} {v : V} {r : List V} (h : stepV w v = none) : readV w false i (v :: r) = .inl i := by
  show (match stepV w v with | none => _ | some (w', o') => _) = _
  rw [h]
theorem read_next {w w' : Wb} {i : Nat} {v : V} {r : List V} {o : Bool} (h : stepV w v = some (w', o)) : readV w false i (v :: r) = readV w' o (i + 1) r := by
  show (match stepV w v with | none => _ | some (w', o') => _) = _
  rw [h]
theorem step_ok {w w' : Wb} {v : V} {o : Bool} (h : Wok w) (e : stepV w v = some (w', o)) : Wok w' := by
  unfold stepV at e
  split at e
  · cases e
  · rename_i ws _
    cases q : stand w ws with
    | none => rw [q] at e; cases e
    | some l =>
      rw [q] at e
      cases e
      exact Ln.does_ok h (stand_some q).2.1
/-- where no tie is, none was given -/
def G0 (w : Wb) : Prop := w.ts = [] → w.g = 0
theorem G0.zero {w : Wb} (h : G0 w) (ok : Wok w) : w.ts = [] ↔ w.g = 0 := ⟨h, fun e => by
  cases q : w.ts with
  | nil => rfl
  | cons x r =>
    have o := ok.ok x.1 x.2 (by rw [q]; exact List.mem_cons_self)
    have h1 := o.lo
    have h2 := o.hi
    omega⟩
theorem Ln.g0 {w : Wb} (h : G0 w) {l : Ln} (hl : l.isGv = false) : G0 (l.does w) := by
  cases l with
  | pt x => exact h
  | tie n u =>
    intro e
    have e : w.ts ++ [(n, u)] = [] := e
    simp at e
  | gv g => cases hl
end WB

set_option Elab.async false
set_option linter.all false
set_option maxRecDepth 100000
set_option maxHeartbeats 2000000
/-! KA: texts that ask, as plain data: where a text is refused; the same by its signs, one after the other. -/
namespace WB
open PySem PySem.Spec PyProof.Rows L2 HX TX TL
/-- how many names stand behind a word -/
def kvA : List (Str × Nat) := [("together", 2), ("comes", 2), ("must", 2), ("points", 2), ("past", 3), ("ring", 2), ("least", 2), ("fewest", 2), ("apart", 2), ("pieces", 0), ("knots", 0), ("sides", 0), ("lightest", 0), ("starts", 0), ("leaves", 0)]
def manyA (z : Str) : Option Nat := kvA.lookup z
/-- names read, m of them wanted yet, from a place on: where they go wrong -/
def namesA : Nat → Nat → List Str → Option Nat
  | m, p, [] => if 0 < m then some p else none
  | 0, p, _ :: _ => some (p + 1)
  | m + 1, p, y :: r => if isNm y = true then namesA m (p + 1 + y.length) r else some (p + 1)
/-- where words are refused -/
def askA : List Str → Option Nat
  | [] => some 0
  | z :: ws => match manyA z with
    | none => some 0
    | some m => namesA m z.length ws
theorem many_mem {z : Str} {m : Nat} (h : manyA z = some m) : (z, m) ∈ kvA := by
  unfold manyA at h
  obtain ⟨l1, l2, e, _⟩ := List.lookup_eq_some_iff.mp h
  rw [e]
  simp
theorem many_none {z : Str} (h : manyA z = none) : z ∉ kvA.map (·.1) := by
  intro hm
  obtain ⟨⟨k, v⟩, hk, rfl⟩ := List.mem_map.mp hm
  unfold manyA at h
  rw [List.lookup_eq_none_iff] at h
  have := h _ hk
  simp at this
theorem many_le {z : Str} {m : Nat} (h : manyA z = some m) : m ≤ 3 := by
  have hm := many_mem h
  unfold kvA at hm
  simp only [List.mem_cons, List.not_mem_nil, or_false, Prod.mk.injEq] at hm
  omega
/-! ### by signs -/
/-- the state of the reading sign by sign: the word so far, how many names are wanted (none: no word yet), the place of the last blank; the answer -/
inductive SA where
  | go (wd : List Nat) (m : Option Nat) (p : Nat)
  | out (i : Nat)
/-- a word is through, at the blank at place i -/
def wordA (wd : List Nat) (m : Option Nat) (i : Nat) : SA := match m with
  | none => match manyA ⟨wd.toArray⟩ with
    | none => .out 0
    | some k => .go [] (some k) i
  | some 0 => .out (i - wd.length)
  | some (k + 1) => if isNm ⟨wd.toArray⟩ = true then .go [] (some k) i else .out (i - wd.length)
def signA (s : SA) (i : Nat) (c : Nat) : SA := match s with
  | .out j => .out j
  | .go wd m p => if c = 32 then wordA wd m i else .go (wd ++ [c]) m p
def signsA : SA → Nat → List Nat → SA
  | s, _, [] => s
  | s, i, c :: r => signsA (signA s i c) (i + 1) r
def endA : SA → Option Nat
  | .out i => some i
  | .go _ m p => match m with
    | some 0 => none
    | _ => some p
theorem signs_out (j : Nat) : ∀ (l : List Nat) (i : Nat), signsA (.out j) i l = .out j
  | [], _ => rfl
  | _ :: r, i => signs_out j r (i + 1)
theorem signs_app : ∀ (l l2 : List Nat) (s : SA) (i : Nat), signsA s i (l ++ l2) = signsA (signsA s i l) (i + l.length) l2
  | [], l2, s, i => rfl
  | c :: r, l2, s, i => by
    show signsA (signA s i c) (i + 1) (r ++ l2) = signsA (signsA (signA s i c) (i + 1) r) (i + (r.length + 1)) l2
    rw [signs_app r l2]
    congr 1
    omega
theorem signs_word {m : Option Nat} {p : Nat} : ∀ (l : List Nat), 32 ∉ l → ∀ (wd : List Nat) (i : Nat), signsA (.go wd m p) i l = .go (wd ++ l) m p
  | [], _, wd, i => by rw [List.append_nil]; rfl
  | c :: r, h, wd, i => by
    have hc : c ≠ 32 := fun e => h (by rw [e]; simp)
    show signsA (if c = 32 then wordA wd m i else .go (wd ++ [c]) m p) (i + 1) r = _
    rw [if_neg hc, signs_word r (fun hm => h (List.mem_cons_of_mem _ hm))]
    rw [List.append_assoc]
    rfl
theorem signs_blank {wd : List Nat} {m : Option Nat} {p i : Nat} {l : List Nat} : signsA (.go wd m p) i ([32] ++ l) = signsA (wordA wd m i) (i + 1) l := by
  show signsA (signA (.go wd m p) i 32) (i + 1) l = _
  have e : signA (.go wd m p) i 32 = wordA wd m i := by
    show (if (32 : Nat) = 32 then wordA wd m i else .go (wd ++ [32]) m p) = _
    rw [if_pos rfl]
  rw [e]
/-- behind the first word -/
theorem signs_names : ∀ (ys : List Str) (m p : Nat), (∀ y ∈ ys, 32 ∉ tl y) → endA (signsA (.go [] (some m) p) (p + 1) ((ys.map fun y => tl y ++ [32]).flatten)) = namesA m p ys
  | [], m, p, _ => by
    show (match some m with | some 0 => none | _ => some p) = _
    cases m <;> rfl
  | y :: r, m, p, h => by
    rw [List.map_cons, List.flatten_cons, List.append_assoc, signs_app, signs_word _ (h y (by simp)), List.nil_append, signs_blank]
    have ez : (⟨(tl y).toArray⟩ : Str) = y := ext_tl (by simp [tl])
    cases m with
    | zero =>
      show endA (signsA (.out (p + 1 + (tl y).length - (tl y).length)) _ _) = some (p + 1)
      rw [signs_out, Nat.add_sub_cancel]
      rfl
    | succ k =>
      show endA (signsA (if isNm ⟨(tl y).toArray⟩ = true then .go [] (some k) (p + 1 + (tl y).length) else .out (p + 1 + (tl y).length - (tl y).length)) _ _) = if isNm y = true then namesA k (p + 1 + y.length) r else some (p + 1)
      rw [ez]
      by_cases hn : isNm y = true
      · rw [if_pos hn, if_pos hn, len_tl y]
        exact signs_names r k _ fun z hz => h z (List.mem_cons_of_mem _ hz)
      · rw [if_neg hn, if_neg hn, signs_out, Nat.add_sub_cancel]
        rfl
/-- the whole text and a blank behind -/
theorem signs_ask (z : Str) (ws : List Str) (h : ∀ y ∈ z :: ws, 32 ∉ tl y) : endA (signsA (.go [] none 0) 0 (((z :: ws).map fun y => tl y ++ [32]).flatten)) = askA (z :: ws) := by
  rw [List.map_cons, List.flatten_cons, List.append_assoc, signs_app, signs_word _ (h z (by simp)), List.nil_append, signs_blank]
  have ez : (⟨(tl z).toArray⟩ : Str) = z := ext_tl (by simp [tl])
  show endA (signsA (match manyA ⟨(tl z).toArray⟩ with
    | none => .out 0
    | some k => .go [] (some k) (0 + (tl z).length)) _ _) = match manyA z with
    | none => some 0
    | some m => namesA m z.length ws
  rw [ez, Nat.zero_add]
  cases manyA z with
  | none => rw [signs_out]; rfl
  | some k =>
    rw [len_tl z]
    exact signs_names ws k _ fun y hy => h y (List.mem_cons_of_mem _ hy)
theorem joinL_blank : ∀ ps : List (List Nat), ps ≠ [] → joinL [32] ps ++ [32] = (ps.map fun p => p ++ [32]).flatten
  | [], h => absurd rfl h
  | [p], _ => by simp [joinL]
  | p :: q :: r, _ => by
    show p ++ ([32] ++ joinL [32] (q :: r)) ++ [32] = _
    rw [List.append_assoc, List.append_assoc, joinL_blank (q :: r) (by simp)]
    show p ++ ([32] ++ ((q :: r).map fun p => p ++ [32]).flatten) = (p ++ [32]) ++ ((q :: r).map fun p => p ++ [32]).flatten
    rw [List.append_assoc]
/-- the text's verdict -/
def verd (t : Str) : Option Nat := askA (Txt.split t " ")
theorem verd_signs (t : Str) : endA (signsA (.go [] none 0) 0 (tl (t ++ " "))) = verd t := by
  have hne := split_ne t
  have hfree : ∀ y ∈ Txt.split t " ", 32 ∉ tl y := fun y hy => StrLaws.split_free t 32 y hy
  have e : tl (t ++ " ") = ((Txt.split t " ").map fun y => tl y ++ [32]).flatten := by
    rw [tl_append, tl_blank]
    have h1 : tl t = joinL [32] ((Txt.split t " ").map tl) := by
      rw [← tl_blank, ← tl_join, StrLaws.join_split]
    rw [h1, joinL_blank _ (by simpa using hne), List.map_map]
    rfl
  rw [e]
  unfold verd
  cases c : Txt.split t " " with
  | nil => exact absurd c hne
  | cons z ws => exact signs_ask z ws (fun y hy => hfree y (by rw [c]; exact hy))
end WB

set_option Elab.async false
set_option linter.all false
set_option maxRecDepth 100000
set_option maxHeartbeats 4000000
namespace K25
open PySem PySem.Spec PyProof.Rows L2 HX WB
open TL (tl)
open TX (okS)
local macro_rules | `(tactic| walk_at "side") => `(tactic| first
  | assumption
  | rfl
  | (show (0 : Int) < _; omega)
  | (unfold CDiv; omega)
  | (unfold CMul; omega)
  | (unfold CPow; omega)
  | (rw [sizeLine_eq]; omega)
  | omega)
local macro_rules | `(tactic| walk_at "e") => `(tactic| first
  | ((with_reducible apply i_var); exact rfl)
  | (with_reducible apply i_c)
  | (with_reducible apply i_op)
  | (with_reducible apply i_un)
  | (with_reducible apply i_rI0)
  | ((with_reducible apply i_rI); (case c => walk_at "side"))
  | (with_reducible apply i_rGe)
  | (with_reducible apply i_rGt)
  | (with_reducible apply i_rU)
  | (with_reducible apply i_rEqI)
  | (with_reducible apply i_rNeI)
  | (with_reducible apply i_rEqS)
  | (with_reducible apply i_rNeS)
  | (with_reducible apply i_rEqB)
  | (with_reducible apply i_rNeB)
  | (with_reducible apply i_rIsN)
  | (with_reducible apply i_rNotN)
  | (with_reducible apply i_rInS)
  | (with_reducible apply i_rNotInS)
  | ((with_reducible apply i_catS); (case c => walk_at "side"))
  | (with_reducible apply i_tcb)
  | (with_reducible apply i_nil)
  | (with_reducible apply i_cons)
  | ((with_reducible apply i_lenS); (case c => walk_at "side"))
  | ((with_reducible apply i_lenL); assumption)
  | (with_reducible apply i_abs)
  | (with_reducible apply i_max2)
  | (with_reducible apply i_min2)
  | ((with_reducible apply i_strI); (case c => walk_at "side"))
  | (with_reducible apply i_intB)
  | (with_reducible apply i_test)
  | (with_reducible apply i_tB)
  | (with_reducible apply i_kB)
  | (with_reducible apply i_and)
  | (with_reducible apply i_or)
  | (with_reducible apply i_not)
  | (with_reducible apply i_if)
  | (with_reducible apply i_andV)
  | (with_reducible apply i_orV)
  | (with_reducible apply i_notV)
  | (with_reducible apply i_kAndV)
  | (with_reducible apply i_kOrV)
  | (with_reducible apply i_kNotV)
  | (with_reducible apply i_chain)
  | (with_reducible apply i_kChain)
  | (with_reducible apply i_drop)
  | (with_reducible apply i_ret)
  | (with_reducible apply i_retN)
  | (with_reducible apply i_ifS)
  | (with_reducible apply i_asg)
  | (with_reducible apply i_gName)
  | (with_reducible apply i_for)
  | (with_reducible apply i_lc)
  | (with_reducible apply i_iList)
  | (with_reducible apply i_iTup)
  | (with_reducible apply i_iStr)
  | (with_reducible apply i_kStrI)
  | (with_reducible apply i_lst)
  | (with_reducible apply i_tup)
  | (with_reducible apply i_call)
  | (with_reducible apply i_m1)
  | (with_reducible apply i_kStr)
  | (with_reducible apply i_bm)
  | (with_reducible apply i_bm0)
  | (with_reducible apply i_part)
  | (with_reducible apply i_kInt)
  | (with_reducible apply i_noPart)
  | (with_reducible apply i_sl)
  | (with_reducible apply i_range1)
  | (with_reducible apply i_range2)
  | ((with_reducible apply i_kRng1); (case c => walk_at "side"))
  | ((with_reducible apply i_kRng2); (case c => walk_at "side"))
  | (with_reducible apply i_gCons)
  | (with_reducible apply i_gNil)
  | (with_reducible apply i_gSub)
  | (with_reducible apply i_iZip)
  | (with_reducible apply i_yes)
  | (with_reducible apply i_ift)
  | (with_reducible apply i_iff)
  | (with_reducible apply i_nb))
local macro_rules | `(tactic| walk_at "go") => `(tactic| repeat (first | (with_reducible apply i_seq) | (with_reducible apply i_next) | walk_at "e"))
local macro_rules | `(tactic| walk_at "ge") => `(tactic| repeat walk_at "e")
local macro_rules | `(tactic| walk_at "sz") => `(tactic| first | decide | (rw [sizeLine_eq]; simp; done) | (rw [sizeLine_eq]; omega))
local macro_rules | `(tactic| walk_at "side") => `(tactic| (with_reducible exact WB.most_pos))
local macro_rules | `(tactic| walk_at "e") => `(tactic| first
  | ((with_reducible apply i_isT (b := true)); exact rfl)
  | ((with_reducible apply i_isT (b := false)); exact rfl)
  | (with_reducible apply i_fld)
  | ((with_reducible apply i_kFld); (case h => assumption); (case c1 => assumption); (case c2 => assumption); (case e => first | exact lk_number | exact lk_tail | exact lk_head | exact lk_load | exact lk_oneway | exact lk_points | exact lk_ties | exact lk_given))
  | (with_reducible apply i_sfld)
  | ((with_reducible apply i_kSFld); (case h => first | assumption | exact upd_same); (case c1 => assumption); (case c2 => assumption); (case e => exact Nat.le_of_ble_eq_true rfl))
  | (with_reducible apply i_methC)
  | (with_reducible apply i_make)
  | (with_reducible apply i_fldaug)
  | (with_reducible apply i_vals)
  | (with_reducible apply i_items)
  | (with_reducible apply i_dget)
  | (with_reducible apply i_dput)
  | (with_reducible apply i_din)
  | (with_reducible apply i_dnotin)
  | (with_reducible apply i_ddel)
  | (with_reducible apply i_dc)
  | (with_reducible apply i_enum)
  | (with_reducible apply i_ckw))
abbrev sg (c : Nat) : Str := ⟨#[c]⟩
def Low (z : Str) : Prop := ∀ c ∈ tl z, 97 ≤ c ∧ c ≤ 122
theorem nm_of {z : Str} (h : Low z) (l1 : 1 ≤ z.length) (l2 : z.length ≤ 12) : isNm z = true := by
  unfold isNm
  simp only [Bool.and_eq_true, decide_eq_true_eq, List.all_eq_true]
  exact ⟨⟨l1, l2⟩, fun c hc => h c hc⟩
theorem low_app {x y : Str} (h : Low x) (g : Low y) : Low (x ++ y) := fun c hc => by
  rw [TL.tl_append] at hc
  exact (List.mem_append.mp hc).elim (h c) (g c)
theorem low_sg {c : Nat} (h : 97 ≤ c ∧ c ≤ 122) : Low (sg c) := fun d hd => by
  have : d = c := by simpa [tl] using hd
  rw [this]; exact h
theorem tl_cut (z : Str) (lo hi : Option Int) : tl (cutS z lo hi) = (((tl z).drop (HT.sIx z.length 0 lo)).take (HT.sIx z.length z.length hi - HT.sIx z.length 0 lo)) := rfl
theorem low_cut {z : Str} (h : Low z) (lo hi : Option Int) : Low (cutS z lo hi) := fun c hc => by
  rw [tl_cut] at hc
  exact h c (List.mem_of_mem_drop (List.mem_of_mem_take hc))
theorem len_tl' (z : Str) : z.length = (tl z).length := rfl
theorem tl_join0 (cs : List Nat) : tl (Txt.join "" (cs.map sg)) = cs := by
  rw [TL.join_eq, TL.tl_join]
  have e : tl ("" : Str) = [] := by decide +kernel
  rw [e, TX.joinL_nil, List.map_map]
  induction cs with
  | nil => rfl
  | cons c r ih => simp only [List.map_cons, List.flatten_cons, ih]; rfl
theorem sIx_pos {n d : Nat} {k : Int} (h : 0 ≤ k) : HT.sIx n d (some k) = min k.toNat n := by
  show (if k < 0 then (k + (n : Int)).toNat else min k.toNat n) = _
  rw [if_neg (by omega)]
theorem letter_at {j : Int} (h0 : 0 ≤ j) (h1 : j < 26) : atI ("abcdefghijklmnopqrstuvwxyz" : Str).cps.toList j = some (97 + j.toNat) := by
  rw [letters_list]
  obtain ⟨k, rfl⟩ := Int.eq_ofNat_of_zero_le h0
  refine atI_nat ?_
  rw [List.getElem?_range' (by omega)]
  simp
theorem letters_len : ("abcdefghijklmnopqrstuvwxyz" : Str).length ≤ sizeLine := by
  rw [sizeLine_eq]; decide +kernel
theorem cut_pre {α : Type} (f : α → V) (xs : List α) {k : Int} (h : 0 ≤ k) : cutV (xs.map f) none (some k) = (xs.take k.toNat).map f := by
  unfold cutV
  rw [sIx_pos h, List.map_take]
  show ((xs.map f).drop 0).take (min k.toNat (xs.map f).length - 0) = _
  rw [List.drop_zero, Nat.sub_zero]
  exact (List.take_eq_take_min ..).symm
theorem len_cut_le (z : Str) (lo hi : Option Int) : (cutS z lo hi).length ≤ z.length := by
  rw [len_tl', tl_cut, List.length_take, List.length_drop]
  have : (tl z).length = z.length := rfl
  omega
/-- a short text of signs -/
def Gn (y : Str) : Prop := isNm y = true ∧ okS y = true ∧ y.length ≤ 12
theorem low_ok {z : Str} (h : Low z) : okS z = true := TX.okS_iff.mpr fun c hc => by have := h c hc; omega
section
variable {P : Program} {w : World} {K : PySem.W.Frag} {mg : Str → Option Value} {base : Heap}
theorem cell_at {ns : List Int} {k : Int} (h0 : 0 ≤ k) (h : 0 < (ns.length : Int)) : ∃ v : Int, atI (ns.map V.int) (k % (ns.length : Int)) = some (.int v) := by
  have h1 : 0 ≤ k % (ns.length : Int) := Int.emod_nonneg _ (by omega)
  have h2 : k % (ns.length : Int) < (ns.length : Int) := Int.emod_lt_of_pos _ h
  obtain ⟨j, e⟩ := Int.eq_ofNat_of_zero_le h1
  rw [e]
  have hj : j < ns.length := by omega
  exact ⟨ns[j], atI_nat (by rw [List.getElem?_map, List.getElem?_eq_getElem hj]; rfl)⟩
def sp_number (K : PySem.W.Frag) : Sp := fun vs H Q _ => ∃ (a : Addr) (ns : List Int) (k : Int), vs = [.ref a, .int k] ∧ 0 ≤ k ∧ k ≤ 1000 ∧ SqL K H a (ns.map V.int) ∧ ns.length ≤ 64 ∧ ∀ n : Int, 0 ≤ n → n < 2147483629 → Q (.int n) H
theorem ok_law_number (T : Tx K mg) : FnOk P w K mg base CX0 1 (He.ga K "_law_number") T.fd_law_number ["_law_script", "_law_k"] (sp_number K) := by
  refine T.F_law_number.ok sc_law_number (fun vs H Q E h => ?_) (fun cdv A outer s H vs Q E hr h => ?_)
  · obtain ⟨a, ns, k, rfl, _⟩ := h
    rfl
  · obtain ⟨a, ns, k, rfl, k0, k1, hS, hl, q⟩ := h
    refine ⟨_, PSs.nox (pss_cons (ps_set (i := 2) sc_law_number.nd rfl (Or.inl rfl) pe_int)
      (C8.pss_cut (ps_if (pt_cmpR op_gt (pe_callB x_lenL (by rfl) T.b_len (by decide +kernel) (pa_cons (pv 0) pa_nil)) pe_int (nomark _)) (pss_one (ps_set (i := 2) sc_law_number.nd rfl (Or.inl rfl) (pe_ix ix_list (pv 0) (pe_op op_mod (pv 1) (pe_callB x_lenL (by rfl) T.b_len (by decide +kernel) (pa_cons (pv 0) pa_nil))) (fun _ _ => rfl)))) pss_nil)
      (pss_cons (ps_set (i := 3) sc_law_number.nd rfl (Or.inl rfl) (pe_op op_add (pv 1) pe_int))
      (pss_one (ps_ret (pe_op op_mod (pe_op op_mul (pe_op op_mod (pe_op op_add (pe_op op_mul (pe_op op_mod (pv 2) pe_int) pe_int) (pe_op op_mul (pe_op op_mul (pv 3) (pv 3)) pe_int)) pe_int) pe_int) pe_int)))))), ?_⟩
    walk_at "go"
    refine ⟨fun σ' H' => H' = H ∧ ∃ c : Int, σ' = [some (.ref a), some (.int k), some (.int c), none], ?_, ?_⟩
    · walk_at "go"
      rw [List.length_map]
      refine i_dec (fun h1 => ?_) (fun h1 => ?_)
      · have hl2 : (ns.map V.int).length = ns.length := List.length_map _
        walk_at "go"
        rw [List.length_map]
        obtain ⟨v, e⟩ := cell_at (ns := ns) k0 h1
        refine i_ixL hS e ?_
        walk_at "go"
        exact ⟨rfl, _, rfl⟩
      · walk_at "go"
        exact ⟨rfl, _, rfl⟩
    · rintro σ' H' ⟨rfl, c, rfl⟩
      walk_at "go"
      refine q _ ?_ ?_ <;> omega
def sp_names : Sp := fun vs H Q _ => ∃ n : Int, vs = [.int n, .int 12] ∧ 0 ≤ n ∧ ∀ a ns H', Same H H' → H a = none → H' a = some (.lst ((ns : List Str).map V.str)) → ns.length = 12 → (∀ y ∈ ns, Gn y) → Q (.ref a) H'
theorem ok_law_names (T : Tx K mg) : FnOk P w K mg base CX0 1 (He.ga K "_law_names") T.fd_law_names ["_law_number_here", "_law_many"] sp_names := by
  refine T.F_law_names.ok sc_law_names (fun vs H Q E h => ?_) (fun cdv A outer s H vs Q E hr h => ?_)
  · obtain ⟨_, rfl, _⟩ := h
    rfl
  · obtain ⟨n, rfl, n0, q⟩ := h
    have hu := hu_of hr
    refine ⟨_, PSs.nox (pss_cons (ps_set (i := 2) sc_law_names.nd rfl (Or.inr rfl) pe_str)
      (pss_cons (ps_set (i := 3) sc_law_names.nd rfl (Or.inr rfl) (pe_op op_add pe_int (pe_op op_mod (pv 0) pe_int)))
      (pss_cons (ps_set (i := 4) sc_law_names.nd rfl (Or.inr rfl) (x_join pe_str (pe_lc (own := [("_law_j", 8)]) (by rfl) sc_law_names.nd (pi_range1 rfl T.b_range (pa_cons pe_int pa_nil)) (blkOk_by (own := [("_law_j", 8)]) (N := N_law_names) (sc := defScope s_law_names) (by decide +kernel)) (fun _ _ _ _ _ => (pg_name (i := 8) sc_law_names.nd rfl (Or.inl rfl))) (fun _ _ _ _ _ => pts_nil) (fun _ _ _ _ _ => (pe_ix ix_str (pv 2) (pe_op op_mod (pe_op op_add (pe_op op_fdiv (pv 0) pe_int) (pe_op op_mul (pv 3) (pv 8))) pe_int) (fun _ _ => rfl))))))
      (pss_cons (ps_if (pt_cmpR op_eq (pe_op op_mod (pe_op op_fdiv (pv 0) pe_int) pe_int) pe_int (nomark _)) (pss_one (ps_ret (pe_lc (own := [("_law_k", 9)]) (by rfl) sc_law_names.nd (pi_range1 rfl T.b_range (pa_cons (pv 1) pa_nil)) (blkOk_by (own := [("_law_k", 9)]) (N := N_law_names) (sc := defScope s_law_names) (by decide +kernel)) (fun _ _ _ _ _ => (pg_name (i := 9) sc_law_names.nd rfl (Or.inl rfl))) (fun _ _ _ _ _ => pts_nil) (fun _ _ _ _ _ => (pe_slice sl_str (pv 4) po_none (po_some (pe_op op_add (pv 9) pe_int))))))) pss_nil)
      (pss_cons (ps_set (i := 5) sc_law_names.nd rfl (Or.inr rfl) (pe_slice sl_str (pv 4) po_none (po_some (pe_op op_mod (pv 0) pe_int))))
      (pss_cons (ps_set (i := 6) sc_law_names.nd rfl (Or.inr rfl) (pe_op op_mod (pe_op op_fdiv (pv 0) pe_int) (pe_op op_add (pe_callB x_lenS (by rfl) T.b_len (by decide +kernel) (pa_cons (pv 5) pa_nil)) pe_int)))
      (pss_cons (ps_setLc (i := 7) (own := [("_law_k", 9)]) (by rfl) sc_law_names.nd rfl rfl (sw_true rfl rfl rfl (by decide +kernel)) (pi_range1 rfl T.b_range (pa_cons (pv 1) pa_nil)) (blkOk_by (own := [("_law_k", 9)]) (N := N_law_names) (sc := defScope s_law_names) (by decide +kernel)) (fun _ _ _ _ _ => (pg_name (i := 9) sc_law_names.nd rfl (Or.inl rfl))) (fun _ _ _ _ _ => pts_nil) (fun _ _ _ _ _ => (pe_ix ix_str (pv 2) (pe_op op_mod (pe_op op_add (pe_op op_fdiv (pv 0) pe_int) (pe_op op_mul pe_int (pv 9))) pe_int) (fun _ _ => rfl))))
      (pss_one (ps_ret (pe_lc (own := [("_law_sign", 10)]) (by rfl) sc_law_names.nd (pi_list (pv 7)) (blkOk_by (own := [("_law_sign", 10)]) (N := N_law_names) (sc := defScope s_law_names) (by decide +kernel)) (fun _ _ _ _ _ => (pg_name (i := 10) sc_law_names.nd rfl (Or.inl rfl))) (fun _ _ _ _ _ => pts_nil) (fun _ _ _ _ _ => (pe_op x_catS (pe_op x_catS (pe_slice sl_str (pv 5) po_none (po_some (pv 6))) (pv 10)) (pe_slice sl_str (pv 5) (po_some (pv 6)) po_none))))))))))))), ?_⟩
    walk_at "go"
    intro D hD
    refine lc_it walk_range (fun i H' => Same H H' ∧ ∃ cs : List Nat, H' D = some (.lst ((cs.map sg).map V.str)) ∧ cs.length = i ∧ ∀ c ∈ cs, 97 ≤ c ∧ c ≤ 122)
      ⟨Same.new hD, [], upd_same, rfl, by simp⟩ (fun _ _ _ _ => trivial) ?_ ?_
    · rintro i v H2 H3 hi ⟨s2, cs, eD, hl, hc⟩ ⟨rfl, rfl⟩
      have hi12 : i < 12 := hi
      walk_at "go"
      refine ⟨rfl, ?_⟩
      walk_at "go"
      generalize (n / 7 + (3 + n % 5) * (0 + (i : Int))) = z
      have hz0 : 0 ≤ z % 26 := by omega
      have hz1 : z % 26 < 26 := by omega
      refine i_ixS ?_ letters_len (letter_at hz0 hz1)
      refine ⟨_, eD, ?_, Same.mut s2 hD, cs ++ [97 + (z % 26).toNat], ?_, by simp [hl], ?_⟩
      · rw [List.length_map, List.length_map, sizeLine_eq]; omega
      · rw [upd_same, List.map_append, List.map_append]; rfl
      · intro d hd
        rcases List.mem_append.mp hd with h | h
        · exact hc d h
        · rw [List.mem_singleton.mp h]; omega
    · rintro H1 ⟨s1, cs, eD, hl, hc⟩
      have hl12 : cs.length = 12 := hl
      refine i_join (SqL.of eD) ?_ ?_
      · rw [List.length_map, hl12]
        have : ((cs.map sg).map fun x => x.length).sum = cs.length := by
          rw [List.map_map]
          have e : ((fun x : Str => x.length) ∘ sg) = fun _ => 1 := rfl
          rw [e, List.map_const', List.sum_replicate_nat]; omega
        rw [this, hl12]
        decide +kernel
      have hBt := tl_join0 cs
      have hBl : (Txt.join "" (cs.map sg)).length = 12 := by rw [len_tl', hBt]; exact hl12
      have hB : Low (Txt.join "" (cs.map sg)) := fun d hd => hc d (by rwa [hBt] at hd)
      generalize Txt.join "" (cs.map sg) = B at hBl hB
      walk_at "go"
      refine i_dec (fun _ => ?_) (fun _ => ?_)
      · walk_at "go"
        intro D2 hD2
        refine lc_it walk_range (fun i H' => Same H1 H' ∧ ∃ ns : List Str, H' D2 = some (.lst (ns.map V.str)) ∧ ns.length = i ∧ ∀ y ∈ ns, Gn y)
          ⟨Same.new hD2, [], upd_same, rfl, by simp⟩ (fun _ _ _ _ => trivial) ?_ ?_
        · rintro i v H2 H3 hi ⟨s2, ns, eD2, hln, hns⟩ ⟨rfl, rfl⟩
          have hi12 : i < 12 := hi
          walk_at "go"
          refine ⟨rfl, ?_⟩
          walk_at "go"
          refine i_slS (by rw [hBl, sizeLine_eq]; decide) ?_
          refine ⟨_, eD2, ?_, Same.mut s2 hD2, ns ++ [cutS B none (some (0 + (i : Int) + 1))], ?_, by simp [hln], ?_⟩
          · rw [List.length_map, hln, sizeLine_eq]; omega
          · rw [upd_same, List.map_append]; rfl
          · intro y hy
            rcases List.mem_append.mp hy with h | h
            · exact hns y h
            · rw [List.mem_singleton.mp h]
              have hl12 : (cutS B none (some (0 + (i : Int) + 1))).length ≤ 12 := by have := len_cut_le B none (some (0 + (i : Int) + 1)); omega
              have hl1 : 1 ≤ (cutS B none (some (0 + (i : Int) + 1))).length := by
                rw [len_tl', tl_cut, sIx_pos (by omega)]
                show 1 ≤ (((tl B).drop 0).take (min (0 + (i : Int) + 1).toNat B.length - 0)).length
                rw [List.length_take, List.length_drop]
                have : (tl B).length = B.length := rfl
                omega
              exact ⟨nm_of (low_cut hB _ _) hl1 hl12, low_ok (low_cut hB _ _), hl12⟩
        · rintro H2 ⟨s2, ns, eD2, hln, hns⟩
          walk_at "go"
          exact q D2 ns H2 (s1.trans s2) (s1.free hD2) eD2 hln hns
      walk_at "go"
      refine i_slS (by rw [hBl, sizeLine_eq]; decide) ?_
      have hFl : (cutS B none (some (n % 8))).length ≤ 7 := by
        rw [len_tl', tl_cut, sIx_pos (by omega), List.length_take]
        show min (min (n % 8).toNat B.length - 0) _ ≤ 7
        omega
      have hF := low_cut hB none (some (n % 8))
      generalize cutS B none (some (n % 8)) = F at hFl hF
      walk_at "go"
      have ha0 : 0 ≤ n / 200 % ((F.length : Int) + 1) := Int.emod_nonneg _ (by omega)
      generalize n / 200 % ((F.length : Int) + 1) = at0 at ha0 ⊢
      intro D2 hD2
      refine lc_it walk_range (fun i H' => Same H1 H' ∧ ∃ cs : List Nat, H' D2 = some (.lst ((cs.map sg).map V.str)) ∧ cs.length = i ∧ ∀ c ∈ cs, 97 ≤ c ∧ c ≤ 122)
        ⟨Same.new hD2, [], upd_same, rfl, by simp⟩ (fun _ _ _ _ => trivial) ?_ ?_
      · rintro i v H2 H3 hi ⟨s2, cs2, eD2, hl2, hc2⟩ ⟨rfl, rfl⟩
        have hi22 : i < 12 := hi
        walk_at "go"
        refine ⟨rfl, ?_⟩
        walk_at "go"
        generalize n / 2000 + 5 * (0 + (i : Int)) = z
        refine i_ixS ?_ letters_len (letter_at (j := z % 26) (by omega) (by omega))
        refine ⟨_, eD2, ?_, Same.mut s2 hD2, cs2 ++ [97 + (z % 26).toNat], ?_, by simp [hl2], ?_⟩
        · rw [List.length_map, List.length_map, sizeLine_eq]; omega
        · rw [upd_same, List.map_append, List.map_append]; rfl
        · intro d hd
          rcases List.mem_append.mp hd with h | h
          · exact hc2 d h
          · rw [List.mem_singleton.mp h]; omega
      · rintro H2 ⟨s2, cs2, eD2, hl2, hc2⟩
        have hl2 : cs2.length = 12 := hl2
        walk_at "go"
        refine i_kListI (SqL.of eD2) ?_
        intro D3 hD3
        have hAl := len_cut_le F none (some at0)
        have hCl := len_cut_le F (some at0) none
        have hA := low_cut hF none (some at0)
        have hC := low_cut hF (some at0) none
        have hFs : F.length ≤ sizeLine := by rw [sizeLine_eq]; omega
        have hsum : (cutS F none (some at0)).length + (cutS F (some at0) none).length ≤ F.length := by
          rw [len_tl', len_tl' (cutS F (some at0) none), tl_cut, tl_cut, sIx_pos ha0, sIx_pos ha0]
          show (((tl F).drop 0).take (min at0.toNat F.length - 0)).length + (((tl F).drop (min at0.toNat F.length)).take (F.length - min at0.toNat F.length)).length ≤ F.length
          rw [List.length_take, List.length_take, List.length_drop, List.length_drop]
          have : (tl F).length = F.length := rfl
          omega
        generalize hA0 : cutS F none (some at0) = A0 at hAl hA hsum
        generalize hC0 : cutS F (some at0) none = C0 at hCl hC hsum
        refine lc_it walk_list (fun i H' => Same H2 H' ∧ ∃ ns : List Str, H' D3 = some (.lst (ns.map V.str)) ∧ ns.length = i ∧ ∀ y ∈ ns, Gn y)
          ⟨Same.new hD3, [], upd_same, rfl, by simp⟩ (fun i H' _ h => SqL.of (h.1 _ _ eD2)) ?_ ?_
        · rintro i v H4 H5 hi ⟨s4, ns, eD3, hln, hns⟩ ⟨rfl, hv⟩
          rw [List.length_map, List.length_map] at hi
          rw [List.getElem?_map, List.getElem?_map, List.getElem?_eq_getElem hi] at hv
          cases hv
          have hcl := hc2 _ (List.getElem_mem hi)
          generalize cs2[i] = c0 at hcl ⊢
          have l1 : (sg c0).length = 1 := rfl
          walk_at "go"
          refine ⟨rfl, ?_⟩
          walk_at "go"
          refine i_slS hFs ?_
          rw [hA0]
          walk_at "go"
          refine i_slS hFs ?_
          rw [hC0]
          refine i_catS ?_ (by rw [sizeLine_eq, TX.len_app, l1]; omega)
          refine ⟨_, eD3, ?_, Same.mut s4 hD3, ns ++ [A0 ++ sg c0 ++ C0], ?_, by simp [hln], ?_⟩
          · rw [List.length_map, hln, sizeLine_eq]; omega
          · rw [upd_same, List.map_append]; rfl
          · intro y hy
            rcases List.mem_append.mp hy with h | h
            · exact hns y h
            · rw [List.mem_singleton.mp h]
              exact ⟨nm_of (low_app (low_app hA (low_sg hcl)) hC) (by rw [TX.len_app, TX.len_app, l1]; omega) (by rw [TX.len_app, TX.len_app, l1]; omega), low_ok (low_app (low_app hA (low_sg hcl)) hC), by rw [TX.len_app, TX.len_app, l1]; omega⟩
        · rintro H3 ⟨s3, ns, eD3, hln, hns⟩
          rw [List.length_map, List.length_map, hl2] at hln
          walk_at "go"
          exact q D3 ns H3 ((s1.trans s2).trans s3) ((s1.trans s2).free hD3) eD3 hln hns
end
end K25

set_option Elab.async false
set_option linter.all false
set_option maxRecDepth 100000
set_option maxHeartbeats 4000000
namespace K25
open PySem PySem.Spec PyProof.Rows L2 HX WB
local macro_rules | `(tactic| walk_at "side") => `(tactic| first
  | assumption
  | rfl
  | (show (0 : Int) < _; omega)
  | (unfold CDiv; omega)
  | (unfold CMul; omega)
  | (unfold CPow; omega)
  | (rw [sizeLine_eq]; omega)
  | omega)
local macro_rules | `(tactic| walk_at "e") => `(tactic| first
  | ((with_reducible apply i_var); exact rfl)
  | (with_reducible apply i_c)
  | (with_reducible apply i_op)
  | (with_reducible apply i_un)
  | (with_reducible apply i_rI0)
  | ((with_reducible apply i_rI); (case c => walk_at "side"))
  | (with_reducible apply i_rGe)
  | (with_reducible apply i_rGt)
  | (with_reducible apply i_rU)
  | (with_reducible apply i_rEqI)
  | (with_reducible apply i_rNeI)
  | (with_reducible apply i_rEqS)
  | (with_reducible apply i_rNeS)
  | (with_reducible apply i_rEqB)
  | (with_reducible apply i_rNeB)
  | (with_reducible apply i_rIsN)
  | (with_reducible apply i_rNotN)
  | (with_reducible apply i_rInS)
  | (with_reducible apply i_rNotInS)
  | ((with_reducible apply i_catS); (case c => walk_at "side"))
  | (with_reducible apply i_tcb)
  | (with_reducible apply i_nil)
  | (with_reducible apply i_cons)
  | ((with_reducible apply i_lenS); (case c => walk_at "side"))
  | ((with_reducible apply i_lenL); assumption)
  | (with_reducible apply i_abs)
  | (with_reducible apply i_max2)
  | (with_reducible apply i_min2)
  | ((with_reducible apply i_strI); (case c => walk_at "side"))
  | (with_reducible apply i_intB)
  | (with_reducible apply i_test)
  | (with_reducible apply i_tB)
  | (with_reducible apply i_kB)
  | (with_reducible apply i_and)
  | (with_reducible apply i_or)
  | (with_reducible apply i_not)
  | (with_reducible apply i_if)
  | (with_reducible apply i_andV)
  | (with_reducible apply i_orV)
  | (with_reducible apply i_notV)
  | (with_reducible apply i_kAndV)
  | (with_reducible apply i_kOrV)
  | (with_reducible apply i_kNotV)
  | (with_reducible apply i_chain)
  | (with_reducible apply i_kChain)
  | (with_reducible apply i_drop)
  | (with_reducible apply i_ret)
  | (with_reducible apply i_retN)
  | (with_reducible apply i_ifS)
  | (with_reducible apply i_asg)
  | (with_reducible apply i_gName)
  | (with_reducible apply i_for)
  | (with_reducible apply i_lc)
  | (with_reducible apply i_iList)
  | (with_reducible apply i_iTup)
  | (with_reducible apply i_iStr)
  | (with_reducible apply i_kStrI)
  | (with_reducible apply i_lst)
  | (with_reducible apply i_tup)
  | (with_reducible apply i_call)
  | (with_reducible apply i_m1)
  | (with_reducible apply i_kStr)
  | (with_reducible apply i_bm)
  | (with_reducible apply i_bm0)
  | (with_reducible apply i_part)
  | (with_reducible apply i_kInt)
  | (with_reducible apply i_noPart)
  | (with_reducible apply i_sl)
  | (with_reducible apply i_range1)
  | (with_reducible apply i_range2)
  | ((with_reducible apply i_kRng1); (case c => walk_at "side"))
  | ((with_reducible apply i_kRng2); (case c => walk_at "side"))
  | (with_reducible apply i_gCons)
  | (with_reducible apply i_gNil)
  | (with_reducible apply i_gSub)
  | (with_reducible apply i_iZip)
  | (with_reducible apply i_yes)
  | (with_reducible apply i_ift)
  | (with_reducible apply i_iff)
  | (with_reducible apply i_nb))
local macro_rules | `(tactic| walk_at "go") => `(tactic| repeat (first | (with_reducible apply i_seq) | (with_reducible apply i_next) | walk_at "e"))
local macro_rules | `(tactic| walk_at "ge") => `(tactic| repeat walk_at "e")
local macro_rules | `(tactic| walk_at "sz") => `(tactic| first | decide | (rw [sizeLine_eq]; simp; done) | (rw [sizeLine_eq]; omega))
local macro_rules | `(tactic| walk_at "side") => `(tactic| (with_reducible exact WB.most_pos))
local macro_rules | `(tactic| walk_at "e") => `(tactic| first
  | ((with_reducible apply i_isT (b := true)); exact rfl)
  | ((with_reducible apply i_isT (b := false)); exact rfl)
  | (with_reducible apply i_fld)
  | ((with_reducible apply i_kFld); (case h => assumption); (case c1 => assumption); (case c2 => assumption); (case e => first | exact lk_number | exact lk_tail | exact lk_head | exact lk_load | exact lk_oneway | exact lk_points | exact lk_ties | exact lk_given))
  | (with_reducible apply i_sfld)
  | ((with_reducible apply i_kSFld); (case h => first | assumption | exact upd_same); (case c1 => assumption); (case c2 => assumption); (case e => exact Nat.le_of_ble_eq_true rfl))
  | (with_reducible apply i_methC)
  | (with_reducible apply i_make)
  | (with_reducible apply i_fldaug)
  | (with_reducible apply i_vals)
  | (with_reducible apply i_items)
  | (with_reducible apply i_dget)
  | (with_reducible apply i_dput)
  | (with_reducible apply i_din)
  | (with_reducible apply i_dnotin)
  | (with_reducible apply i_ddel)
  | (with_reducible apply i_dc)
  | (with_reducible apply i_enum)
  | (with_reducible apply i_ckw))
local macro_rules | `(tactic| walk_at "e") => `(tactic| first | (with_reducible apply i_con) | (with_reducible apply i_dyn) | (with_reducible apply i_makeS) | (with_reducible apply i_match))
theorem cut_post {α : Type} (f : α → V) (xs : List α) {k : Int} (h : 0 ≤ k) : cutV (xs.map f) (some k) none = (xs.drop k.toNat).map f := by
  have sp : ∀ {n d : Nat} {k : Int}, 0 ≤ k → HT.sIx n d (some k) = min k.toNat n := by
    intro n d k h
    show (if k < 0 then (k + (n : Int)).toNat else min k.toNat n) = _
    rw [if_neg (by omega)]
  unfold cutV
  rw [sp h, List.map_drop]
  show ((xs.map f).drop (min k.toNat (xs.map f).length)).take ((xs.map f).length - min k.toNat (xs.map f).length) = _
  rw [List.take_of_length_le (by rw [List.length_drop]; exact Nat.le_refl _)]
  rcases Nat.lt_or_ge k.toNat (xs.map f).length with c | c
  · rw [Nat.min_eq_left (Nat.le_of_lt c)]
  · rw [Nat.min_eq_right c, List.drop_of_length_le (Nat.le_refl _), List.drop_of_length_le c]
theorem i_notInK {K : PySem.W.Frag} {w : World} {d : Addr} {H : Hp} {Q : VK} {z : Str} {kvs : List (Str × He.Dv)} (T : He.KTab K w d kvs) (q : Q (.bl (!decide (z ∈ kvs.map (·.1)))) H) : KDX.rNotInK K w d (.str z) (.ref d) H Q := ⟨z, kvs, rfl, rfl, T, q⟩
theorem i_atK {K : PySem.W.Frag} {w : World} {d : Addr} {H : Hp} {Q : VK} {z : Str} {kvs : List (Str × He.Dv)} {v : He.Dv} (T : He.KTab K w d kvs) (hm : (z, v) ∈ kvs) (q : Q (v.v K) H) : KDX.rAtK K w d (.ref d) (.str z) H Q := ⟨z, kvs, v, rfl, rfl, T, hm, q⟩
theorem kv_eq : kvN = kvA.map fun p => (p.1, He.Dv.int (p.2 : Int)) := rfl
theorem kv_keys : kvN.map (·.1) = kvA.map (·.1) := rfl
theorem kv_mem {z : Str} {m : Nat} (h : manyA z = some m) : (z, He.Dv.int (m : Int)) ∈ kvN := by
  rw [kv_eq]
  exact List.mem_map.mpr ⟨_, many_mem h, rfl⟩
theorem kv_in {z : Str} : decide (z ∈ kvN.map (·.1)) = (manyA z).isSome := by
  rw [kv_keys]
  cases h : manyA z with
  | none => exact decide_eq_false (many_none h)
  | some m => exact decide_eq_true (List.mem_map.mpr ⟨_, many_mem h, rfl⟩)
/-- the way out by an error that keeps one value -/
def Out (K : PySem.W.Frag) (x fld : Str) (v : V) (H : Hp) (E : XK) : Prop := ∀ d, H d = none → E (.ref (He.ga K x)) (some d) (upd H d (.xd [(fld, v)]))
section
variable {P : Program} {w : World} {K : PySem.W.Frag} {mg : Str → Option Value} {base : Heap}
def sp_question (K : PySem.W.Frag) : Sp := fun vs H Q _ => ∃ (z : Str) (p : Addr) (ns : List Str) (m : Nat), vs = [.str z, .ref p] ∧ H p = some (.lst (ns.map V.str)) ∧ manyA z = some m ∧ ns.length = m ∧ ∀ a C H', Same H H' → H a = none → QAt K H' a C z ns → Q (.ref a) H'
set_option maxHeartbeats 16000000 in
theorem ok_question (T : Tx K mg) (xk : extra K = true) : FnOk P w K mg base CX0 3 (He.ga K "_question") T.fd_question ["word", "names"] (sp_question K) := by
  refine T.F_question.ok sc_question (fun vs H Q E h => ?_) (fun cdv A outer s H vs Q E hr h => ?_)
  · obtain ⟨_, _, _, _, rfl, _⟩ := h
    rfl
  · obtain ⟨z, p, ns, m, rfl, hp, hm, hlen, q⟩ := h
    have hu := hu_of hr
    refine ⟨_, PSs.nox (pss_one (MAX.ps_match (pv 0) (MAX.pm_str (pss_one (ps_ret (CLX.pe_makeS (mk_two xk (C := "HangsTogether") (by decide)) (FnOk.raw (ok_OfTwo_init T) T.k_OfTwo_init .nil) (hr.mono (by decide)) (by rfl) T.g_HangsTogether pass0 (pv 1))))
      (MAX.pm_str (pss_one (ps_ret (CLX.pe_makeS (mk_two xk (C := "ComesThere") (by decide)) (FnOk.raw (ok_OfTwo_init T) T.k_OfTwo_init .nil) (hr.mono (by decide)) (by rfl) T.g_ComesThere pass0 (pv 1))))
      (MAX.pm_str (pss_one (ps_ret (CLX.pe_makeS (mk_two xk (C := "MustTies") (by decide)) (FnOk.raw (ok_OfTwo_init T) T.k_OfTwo_init .nil) (hr.mono (by decide)) (by rfl) T.g_MustTies pass0 (pv 1))))
      (MAX.pm_str (pss_one (ps_ret (CLX.pe_makeS (mk_two xk (C := "MustPoints") (by decide)) (FnOk.raw (ok_OfTwo_init T) T.k_OfTwo_init .nil) (hr.mono (by decide)) (by rfl) T.g_MustPoints pass0 (pv 1))))
      (MAX.pm_str (pss_one (ps_ret (CLX.pe_makeS (mk_three xk (C := "PastPoint") (by decide)) (FnOk.raw (ok_PastPoint_init T) T.k_PastPoint_init .nil) (hr.mono (by decide)) (by rfl) T.g_PastPoint pass0 (pv 1))))
      (MAX.pm_str (pss_one (ps_ret (CLX.pe_makeS (mk_two xk (C := "RingThrough") (by decide)) (FnOk.raw (ok_OfTwo_init T) T.k_OfTwo_init .nil) (hr.mono (by decide)) (by rfl) T.g_RingThrough pass0 (pv 1))))
      (MAX.pm_str (pss_one (ps_ret (CLX.pe_makeS (mk_two xk (C := "LeastWay") (by decide)) (FnOk.raw (ok_OfTwo_init T) T.k_OfTwo_init .nil) (hr.mono (by decide)) (by rfl) T.g_LeastWay pass0 (pv 1))))
      (MAX.pm_str (pss_one (ps_ret (CLX.pe_makeS (mk_two xk (C := "FewestTies") (by decide)) (FnOk.raw (ok_OfTwo_init T) T.k_OfTwo_init .nil) (hr.mono (by decide)) (by rfl) T.g_FewestTies pass0 (pv 1))))
      (MAX.pm_str (pss_one (ps_ret (CLX.pe_makeS (mk_two xk (C := "WaysApart") (by decide)) (FnOk.raw (ok_OfTwo_init T) T.k_OfTwo_init .nil) (hr.mono (by decide)) (by rfl) T.g_WaysApart pass0 (pv 1))))
      (MAX.pm_str (pss_one (ps_ret (CLX.pe_mk0 (mk_none xk (C := "ThePieces") (by decide)) (by rfl) T.g_ThePieces)))
      (MAX.pm_str (pss_one (ps_ret (CLX.pe_mk0 (mk_none xk (C := "TheKnots") (by decide)) (by rfl) T.g_TheKnots)))
      (MAX.pm_str (pss_one (ps_ret (CLX.pe_mk0 (mk_none xk (C := "TwoSides") (by decide)) (by rfl) T.g_TwoSides)))
      (MAX.pm_str (pss_one (ps_ret (CLX.pe_mk0 (mk_none xk (C := "LightestForest") (by decide)) (by rfl) T.g_LightestForest)))
      (MAX.pm_str (pss_one (ps_ret (CLX.pe_mk0 (mk_none xk (C := "TheStarts") (by decide)) (by rfl) T.g_TheStarts)))
      (MAX.pm_any (pss_one (ps_ret (CLX.pe_mk0 (mk_none xk (C := "TheLeaves") (by decide)) (by rfl) T.g_TheLeaves)))))))))))))))))))), ?_⟩
    have hm := many_mem hm
    unfold kvA at hm
    simp only [List.mem_cons, List.not_mem_nil, or_false, Prod.mk.injEq] at hm
    walk_at "go"
    rcases hm with ⟨rfl, rfl⟩ | ⟨rfl, rfl⟩ | ⟨rfl, rfl⟩ | ⟨rfl, rfl⟩ | ⟨rfl, rfl⟩ | ⟨rfl, rfl⟩ | ⟨rfl, rfl⟩ | ⟨rfl, rfl⟩ | ⟨rfl, rfl⟩ | ⟨rfl, rfl⟩ | ⟨rfl, rfl⟩ | ⟨rfl, rfl⟩ | ⟨rfl, rfl⟩ | ⟨rfl, rfl⟩ | ⟨rfl, rfl⟩
    · -- together
      refine ⟨_, rfl, ?_⟩
      rw [if_pos (by decide +kernel)]
      obtain ⟨x, y, rfl⟩ : ∃ x y, ns = [x, y] := by
        match ns, hlen with
        | [x, y], _ => exact ⟨x, y, rfl⟩
      obtain ⟨qc, _⟩ := q_two xk (C := "HangsTogether") (z := "together") (by decide)
      walk_at "go"
      refine ⟨p, _, rfl, .inr (SqL.of hp), fun a dx ha hdx hne => ?_⟩
      refine ⟨a, "HangsTogether", _, x, y, dx, rfl, qc, upd_same, rfl, ?_⟩
      rw [upd_upd]
      have s1 : Same H (upd (upd H dx (.own a)) a (.ins (He.ga K "HangsTogether") dx [("one", .str x), ("other", .str y)])) := Same.mut (Same.new hdx) ha
      exact q a _ _ s1 ha (.two (by decide) qc upd_same)
    · -- comes
      refine ⟨_, rfl, ?_⟩
      rw [if_neg (by decide +kernel)]
      refine ⟨_, rfl, ?_⟩
      rw [if_pos (by decide +kernel)]
      obtain ⟨x, y, rfl⟩ : ∃ x y, ns = [x, y] := by
        match ns, hlen with
        | [x, y], _ => exact ⟨x, y, rfl⟩
      obtain ⟨qc, _⟩ := q_two xk (C := "ComesThere") (z := "comes") (by decide)
      walk_at "go"
      refine ⟨p, _, rfl, .inr (SqL.of hp), fun a dx ha hdx hne => ?_⟩
      refine ⟨a, "ComesThere", _, x, y, dx, rfl, qc, upd_same, rfl, ?_⟩
      rw [upd_upd]
      have s1 : Same H (upd (upd H dx (.own a)) a (.ins (He.ga K "ComesThere") dx [("one", .str x), ("other", .str y)])) := Same.mut (Same.new hdx) ha
      exact q a _ _ s1 ha (.two (by decide) qc upd_same)
    · -- must
      refine ⟨_, rfl, ?_⟩
      rw [if_neg (by decide +kernel)]
      refine ⟨_, rfl, ?_⟩
      rw [if_neg (by decide +kernel)]
      refine ⟨_, rfl, ?_⟩
      rw [if_pos (by decide +kernel)]
      obtain ⟨x, y, rfl⟩ : ∃ x y, ns = [x, y] := by
        match ns, hlen with
        | [x, y], _ => exact ⟨x, y, rfl⟩
      obtain ⟨qc, _⟩ := q_two xk (C := "MustTies") (z := "must") (by decide)
      walk_at "go"
      refine ⟨p, _, rfl, .inr (SqL.of hp), fun a dx ha hdx hne => ?_⟩
      refine ⟨a, "MustTies", _, x, y, dx, rfl, qc, upd_same, rfl, ?_⟩
      rw [upd_upd]
      have s1 : Same H (upd (upd H dx (.own a)) a (.ins (He.ga K "MustTies") dx [("one", .str x), ("other", .str y)])) := Same.mut (Same.new hdx) ha
      exact q a _ _ s1 ha (.two (by decide) qc upd_same)
    · -- points
      refine ⟨_, rfl, ?_⟩
      rw [if_neg (by decide +kernel)]
      refine ⟨_, rfl, ?_⟩
      rw [if_neg (by decide +kernel)]
      refine ⟨_, rfl, ?_⟩
      rw [if_neg (by decide +kernel)]
      refine ⟨_, rfl, ?_⟩
      rw [if_pos (by decide +kernel)]
      obtain ⟨x, y, rfl⟩ : ∃ x y, ns = [x, y] := by
        match ns, hlen with
        | [x, y], _ => exact ⟨x, y, rfl⟩
      obtain ⟨qc, _⟩ := q_two xk (C := "MustPoints") (z := "points") (by decide)
      walk_at "go"
      refine ⟨p, _, rfl, .inr (SqL.of hp), fun a dx ha hdx hne => ?_⟩
      refine ⟨a, "MustPoints", _, x, y, dx, rfl, qc, upd_same, rfl, ?_⟩
      rw [upd_upd]
      have s1 : Same H (upd (upd H dx (.own a)) a (.ins (He.ga K "MustPoints") dx [("one", .str x), ("other", .str y)])) := Same.mut (Same.new hdx) ha
      exact q a _ _ s1 ha (.two (by decide) qc upd_same)
    · -- past
      refine ⟨_, rfl, ?_⟩
      rw [if_neg (by decide +kernel)]
      refine ⟨_, rfl, ?_⟩
      rw [if_neg (by decide +kernel)]
      refine ⟨_, rfl, ?_⟩
      rw [if_neg (by decide +kernel)]
      refine ⟨_, rfl, ?_⟩
      rw [if_neg (by decide +kernel)]
      refine ⟨_, rfl, ?_⟩
      rw [if_pos (by decide +kernel)]
      obtain ⟨x, y, n, rfl⟩ : ∃ x y n, ns = [x, y, n] := by
        match ns, hlen with
        | [x, y, n], _ => exact ⟨x, y, n, rfl⟩
      obtain ⟨qc, _⟩ := q_three xk
      walk_at "go"
      refine ⟨p, _, rfl, .inr (SqL.of hp), fun a dx ha hdx hne => ?_⟩
      refine ⟨a, "PastPoint", _, x, y, n, dx, rfl, qc, upd_same, rfl, ?_⟩
      rw [upd_upd]
      have s1 : Same H (upd (upd H dx (.own a)) a (.ins (He.ga K "PastPoint") dx [("one", .str x), ("other", .str y), ("name", .str n)])) := Same.mut (Same.new hdx) ha
      exact q a _ _ s1 ha (.three qc upd_same)
    · -- ring
      refine ⟨_, rfl, ?_⟩
      rw [if_neg (by decide +kernel)]
      refine ⟨_, rfl, ?_⟩
      rw [if_neg (by decide +kernel)]
      refine ⟨_, rfl, ?_⟩
      rw [if_neg (by decide +kernel)]
      refine ⟨_, rfl, ?_⟩
      rw [if_neg (by decide +kernel)]
      refine ⟨_, rfl, ?_⟩
      rw [if_neg (by decide +kernel)]
      refine ⟨_, rfl, ?_⟩
      rw [if_pos (by decide +kernel)]
      obtain ⟨x, y, rfl⟩ : ∃ x y, ns = [x, y] := by
        match ns, hlen with
        | [x, y], _ => exact ⟨x, y, rfl⟩
      obtain ⟨qc, _⟩ := q_two xk (C := "RingThrough") (z := "ring") (by decide)
      walk_at "go"
      refine ⟨p, _, rfl, .inr (SqL.of hp), fun a dx ha hdx hne => ?_⟩
      refine ⟨a, "RingThrough", _, x, y, dx, rfl, qc, upd_same, rfl, ?_⟩
      rw [upd_upd]
      have s1 : Same H (upd (upd H dx (.own a)) a (.ins (He.ga K "RingThrough") dx [("one", .str x), ("other", .str y)])) := Same.mut (Same.new hdx) ha
      exact q a _ _ s1 ha (.two (by decide) qc upd_same)
    · -- least
      refine ⟨_, rfl, ?_⟩
      rw [if_neg (by decide +kernel)]
      refine ⟨_, rfl, ?_⟩
      rw [if_neg (by decide +kernel)]
      refine ⟨_, rfl, ?_⟩
      rw [if_neg (by decide +kernel)]
      refine ⟨_, rfl, ?_⟩
      rw [if_neg (by decide +kernel)]
      refine ⟨_, rfl, ?_⟩
      rw [if_neg (by decide +kernel)]
      refine ⟨_, rfl, ?_⟩
      rw [if_neg (by decide +kernel)]
      refine ⟨_, rfl, ?_⟩
      rw [if_pos (by decide +kernel)]
      obtain ⟨x, y, rfl⟩ : ∃ x y, ns = [x, y] := by
        match ns, hlen with
        | [x, y], _ => exact ⟨x, y, rfl⟩
      obtain ⟨qc, _⟩ := q_two xk (C := "LeastWay") (z := "least") (by decide)
      walk_at "go"
      refine ⟨p, _, rfl, .inr (SqL.of hp), fun a dx ha hdx hne => ?_⟩
      refine ⟨a, "LeastWay", _, x, y, dx, rfl, qc, upd_same, rfl, ?_⟩
      rw [upd_upd]
      have s1 : Same H (upd (upd H dx (.own a)) a (.ins (He.ga K "LeastWay") dx [("one", .str x), ("other", .str y)])) := Same.mut (Same.new hdx) ha
      exact q a _ _ s1 ha (.two (by decide) qc upd_same)
    · -- fewest
      refine ⟨_, rfl, ?_⟩
      rw [if_neg (by decide +kernel)]
      refine ⟨_, rfl, ?_⟩
      rw [if_neg (by decide +kernel)]
      refine ⟨_, rfl, ?_⟩
      rw [if_neg (by decide +kernel)]
      refine ⟨_, rfl, ?_⟩
      rw [if_neg (by decide +kernel)]
      refine ⟨_, rfl, ?_⟩
      rw [if_neg (by decide +kernel)]
      refine ⟨_, rfl, ?_⟩
      rw [if_neg (by decide +kernel)]
      refine ⟨_, rfl, ?_⟩
      rw [if_neg (by decide +kernel)]
      refine ⟨_, rfl, ?_⟩
      rw [if_pos (by decide +kernel)]
      obtain ⟨x, y, rfl⟩ : ∃ x y, ns = [x, y] := by
        match ns, hlen with
        | [x, y], _ => exact ⟨x, y, rfl⟩
      obtain ⟨qc, _⟩ := q_two xk (C := "FewestTies") (z := "fewest") (by decide)
      walk_at "go"
      refine ⟨p, _, rfl, .inr (SqL.of hp), fun a dx ha hdx hne => ?_⟩
      refine ⟨a, "FewestTies", _, x, y, dx, rfl, qc, upd_same, rfl, ?_⟩
      rw [upd_upd]
      have s1 : Same H (upd (upd H dx (.own a)) a (.ins (He.ga K "FewestTies") dx [("one", .str x), ("other", .str y)])) := Same.mut (Same.new hdx) ha
      exact q a _ _ s1 ha (.two (by decide) qc upd_same)
    · -- apart
      refine ⟨_, rfl, ?_⟩
      rw [if_neg (by decide +kernel)]
      refine ⟨_, rfl, ?_⟩
      rw [if_neg (by decide +kernel)]
      refine ⟨_, rfl, ?_⟩
      rw [if_neg (by decide +kernel)]
      refine ⟨_, rfl, ?_⟩
      rw [if_neg (by decide +kernel)]
      refine ⟨_, rfl, ?_⟩
      rw [if_neg (by decide +kernel)]
      refine ⟨_, rfl, ?_⟩
      rw [if_neg (by decide +kernel)]
      refine ⟨_, rfl, ?_⟩
      rw [if_neg (by decide +kernel)]
      refine ⟨_, rfl, ?_⟩
      rw [if_neg (by decide +kernel)]
      refine ⟨_, rfl, ?_⟩
      rw [if_pos (by decide +kernel)]
      obtain ⟨x, y, rfl⟩ : ∃ x y, ns = [x, y] := by
        match ns, hlen with
        | [x, y], _ => exact ⟨x, y, rfl⟩
      obtain ⟨qc, _⟩ := q_two xk (C := "WaysApart") (z := "apart") (by decide)
      walk_at "go"
      refine ⟨p, _, rfl, .inr (SqL.of hp), fun a dx ha hdx hne => ?_⟩
      refine ⟨a, "WaysApart", _, x, y, dx, rfl, qc, upd_same, rfl, ?_⟩
      rw [upd_upd]
      have s1 : Same H (upd (upd H dx (.own a)) a (.ins (He.ga K "WaysApart") dx [("one", .str x), ("other", .str y)])) := Same.mut (Same.new hdx) ha
      exact q a _ _ s1 ha (.two (by decide) qc upd_same)
    · -- pieces
      refine ⟨_, rfl, ?_⟩
      rw [if_neg (by decide +kernel)]
      refine ⟨_, rfl, ?_⟩
      rw [if_neg (by decide +kernel)]
      refine ⟨_, rfl, ?_⟩
      rw [if_neg (by decide +kernel)]
      refine ⟨_, rfl, ?_⟩
      rw [if_neg (by decide +kernel)]
      refine ⟨_, rfl, ?_⟩
      rw [if_neg (by decide +kernel)]
      refine ⟨_, rfl, ?_⟩
      rw [if_neg (by decide +kernel)]
      refine ⟨_, rfl, ?_⟩
      rw [if_neg (by decide +kernel)]
      refine ⟨_, rfl, ?_⟩
      rw [if_neg (by decide +kernel)]
      refine ⟨_, rfl, ?_⟩
      rw [if_neg (by decide +kernel)]
      refine ⟨_, rfl, ?_⟩
      rw [if_pos (by decide +kernel)]
      have hl : ns = [] := List.length_eq_zero_iff.mp hlen
      subst hl
      obtain ⟨qc, _⟩ := q_none xk (C := "ThePieces") (z := "pieces") (by decide)
      walk_at "go"
      intro a dx ha hdx hne
      have s1 : Same H (upd (upd H dx (.own a)) a (.ins (He.ga K "ThePieces") dx [])) := Same.mut (Same.new hdx) ha
      exact q a _ _ s1 ha (.none (by decide) qc upd_same)
    · -- knots
      refine ⟨_, rfl, ?_⟩
      rw [if_neg (by decide +kernel)]
      refine ⟨_, rfl, ?_⟩
      rw [if_neg (by decide +kernel)]
      refine ⟨_, rfl, ?_⟩
      rw [if_neg (by decide +kernel)]
      refine ⟨_, rfl, ?_⟩
      rw [if_neg (by decide +kernel)]
      refine ⟨_, rfl, ?_⟩
      rw [if_neg (by decide +kernel)]
      refine ⟨_, rfl, ?_⟩
      rw [if_neg (by decide +kernel)]
      refine ⟨_, rfl, ?_⟩
      rw [if_neg (by decide +kernel)]
      refine ⟨_, rfl, ?_⟩
      rw [if_neg (by decide +kernel)]
      refine ⟨_, rfl, ?_⟩
      rw [if_neg (by decide +kernel)]
      refine ⟨_, rfl, ?_⟩
      rw [if_neg (by decide +kernel)]
      refine ⟨_, rfl, ?_⟩
      rw [if_pos (by decide +kernel)]
      have hl : ns = [] := List.length_eq_zero_iff.mp hlen
      subst hl
      obtain ⟨qc, _⟩ := q_none xk (C := "TheKnots") (z := "knots") (by decide)
      walk_at "go"
      intro a dx ha hdx hne
      have s1 : Same H (upd (upd H dx (.own a)) a (.ins (He.ga K "TheKnots") dx [])) := Same.mut (Same.new hdx) ha
      exact q a _ _ s1 ha (.none (by decide) qc upd_same)
    · -- sides
      refine ⟨_, rfl, ?_⟩
      rw [if_neg (by decide +kernel)]
      refine ⟨_, rfl, ?_⟩
      rw [if_neg (by decide +kernel)]
      refine ⟨_, rfl, ?_⟩
      rw [if_neg (by decide +kernel)]
      refine ⟨_, rfl, ?_⟩
      rw [if_neg (by decide +kernel)]
      refine ⟨_, rfl, ?_⟩
      rw [if_neg (by decide +kernel)]
      refine ⟨_, rfl, ?_⟩
      rw [if_neg (by decide +kernel)]
      refine ⟨_, rfl, ?_⟩
      rw [if_neg (by decide +kernel)]
      refine ⟨_, rfl, ?_⟩
      rw [if_neg (by decide +kernel)]
      refine ⟨_, rfl, ?_⟩
      rw [if_neg (by decide +kernel)]
      refine ⟨_, rfl, ?_⟩
      rw [if_neg (by decide +kernel)]
      refine ⟨_, rfl, ?_⟩
      rw [if_neg (by decide +kernel)]
      refine ⟨_, rfl, ?_⟩
      rw [if_pos (by decide +kernel)]
      have hl : ns = [] := List.length_eq_zero_iff.mp hlen
      subst hl
      obtain ⟨qc, _⟩ := q_none xk (C := "TwoSides") (z := "sides") (by decide)
      walk_at "go"
      intro a dx ha hdx hne
      have s1 : Same H (upd (upd H dx (.own a)) a (.ins (He.ga K "TwoSides") dx [])) := Same.mut (Same.new hdx) ha
      exact q a _ _ s1 ha (.none (by decide) qc upd_same)
    · -- lightest
      refine ⟨_, rfl, ?_⟩
      rw [if_neg (by decide +kernel)]
      refine ⟨_, rfl, ?_⟩
      rw [if_neg (by decide +kernel)]
      refine ⟨_, rfl, ?_⟩
      rw [if_neg (by decide +kernel)]
      refine ⟨_, rfl, ?_⟩
      rw [if_neg (by decide +kernel)]
      refine ⟨_, rfl, ?_⟩
      rw [if_neg (by decide +kernel)]
      refine ⟨_, rfl, ?_⟩
      rw [if_neg (by decide +kernel)]
      refine ⟨_, rfl, ?_⟩
      rw [if_neg (by decide +kernel)]
      refine ⟨_, rfl, ?_⟩
      rw [if_neg (by decide +kernel)]
      refine ⟨_, rfl, ?_⟩
      rw [if_neg (by decide +kernel)]
      refine ⟨_, rfl, ?_⟩
      rw [if_neg (by decide +kernel)]
      refine ⟨_, rfl, ?_⟩
      rw [if_neg (by decide +kernel)]
      refine ⟨_, rfl, ?_⟩
      rw [if_neg (by decide +kernel)]
      refine ⟨_, rfl, ?_⟩
      rw [if_pos (by decide +kernel)]
      have hl : ns = [] := List.length_eq_zero_iff.mp hlen
      subst hl
      obtain ⟨qc, _⟩ := q_none xk (C := "LightestForest") (z := "lightest") (by decide)
      walk_at "go"
      intro a dx ha hdx hne
      have s1 : Same H (upd (upd H dx (.own a)) a (.ins (He.ga K "LightestForest") dx [])) := Same.mut (Same.new hdx) ha
      exact q a _ _ s1 ha (.none (by decide) qc upd_same)
    · -- starts
      refine ⟨_, rfl, ?_⟩
      rw [if_neg (by decide +kernel)]
      refine ⟨_, rfl, ?_⟩
      rw [if_neg (by decide +kernel)]
      refine ⟨_, rfl, ?_⟩
      rw [if_neg (by decide +kernel)]
      refine ⟨_, rfl, ?_⟩
      rw [if_neg (by decide +kernel)]
      refine ⟨_, rfl, ?_⟩
      rw [if_neg (by decide +kernel)]
      refine ⟨_, rfl, ?_⟩
      rw [if_neg (by decide +kernel)]
      refine ⟨_, rfl, ?_⟩
      rw [if_neg (by decide +kernel)]
      refine ⟨_, rfl, ?_⟩
      rw [if_neg (by decide +kernel)]
      refine ⟨_, rfl, ?_⟩
      rw [if_neg (by decide +kernel)]
      refine ⟨_, rfl, ?_⟩
      rw [if_neg (by decide +kernel)]
      refine ⟨_, rfl, ?_⟩
      rw [if_neg (by decide +kernel)]
      refine ⟨_, rfl, ?_⟩
      rw [if_neg (by decide +kernel)]
      refine ⟨_, rfl, ?_⟩
      rw [if_neg (by decide +kernel)]
      refine ⟨_, rfl, ?_⟩
      rw [if_pos (by decide +kernel)]
      have hl : ns = [] := List.length_eq_zero_iff.mp hlen
      subst hl
      obtain ⟨qc, _⟩ := q_none xk (C := "TheStarts") (z := "starts") (by decide)
      walk_at "go"
      intro a dx ha hdx hne
      have s1 : Same H (upd (upd H dx (.own a)) a (.ins (He.ga K "TheStarts") dx [])) := Same.mut (Same.new hdx) ha
      exact q a _ _ s1 ha (.none (by decide) qc upd_same)
    · -- leaves
      refine ⟨_, rfl, ?_⟩
      rw [if_neg (by decide +kernel)]
      refine ⟨_, rfl, ?_⟩
      rw [if_neg (by decide +kernel)]
      refine ⟨_, rfl, ?_⟩
      rw [if_neg (by decide +kernel)]
      refine ⟨_, rfl, ?_⟩
      rw [if_neg (by decide +kernel)]
      refine ⟨_, rfl, ?_⟩
      rw [if_neg (by decide +kernel)]
      refine ⟨_, rfl, ?_⟩
      rw [if_neg (by decide +kernel)]
      refine ⟨_, rfl, ?_⟩
      rw [if_neg (by decide +kernel)]
      refine ⟨_, rfl, ?_⟩
      rw [if_neg (by decide +kernel)]
      refine ⟨_, rfl, ?_⟩
      rw [if_neg (by decide +kernel)]
      refine ⟨_, rfl, ?_⟩
      rw [if_neg (by decide +kernel)]
      refine ⟨_, rfl, ?_⟩
      rw [if_neg (by decide +kernel)]
      refine ⟨_, rfl, ?_⟩
      rw [if_neg (by decide +kernel)]
      refine ⟨_, rfl, ?_⟩
      rw [if_neg (by decide +kernel)]
      refine ⟨_, rfl, ?_⟩
      rw [if_neg (by decide +kernel)]
      have hl : ns = [] := List.length_eq_zero_iff.mp hlen
      subst hl
      obtain ⟨qc, _⟩ := q_none xk (C := "TheLeaves") (z := "leaves") (by decide)
      walk_at "go"
      intro a dx ha hdx hne
      have s1 : Same H (upd (upd H dx (.own a)) a (.ins (He.ga K "TheLeaves") dx [])) := Same.mut (Same.new hdx) ha
      exact q a _ _ s1 ha (.none (by decide) qc upd_same)
end
end K25

set_option Elab.async false
set_option linter.all false
set_option maxRecDepth 100000
set_option maxHeartbeats 4000000
namespace K25
open PySem PySem.Spec PyProof.Rows L2 HX WB
local macro_rules | `(tactic| walk_at "side") => `(tactic| first
  | assumption
  | rfl
  | (show (0 : Int) < _; omega)
  | (unfold CDiv; omega)
  | (unfold CMul; omega)
  | (unfold CPow; omega)
  | (rw [sizeLine_eq]; omega)
  | omega)
local macro_rules | `(tactic| walk_at "e") => `(tactic| first
  | ((with_reducible apply i_var); exact rfl)
  | (with_reducible apply i_c)
  | (with_reducible apply i_op)
  | (with_reducible apply i_un)
  | (with_reducible apply i_rI0)
  | ((with_reducible apply i_rI); (case c => walk_at "side"))
  | (with_reducible apply i_rGe)
  | (with_reducible apply i_rGt)
  | (with_reducible apply i_rU)
  | (with_reducible apply i_rEqI)
  | (with_reducible apply i_rNeI)
  | (with_reducible apply i_rEqS)
  | (with_reducible apply i_rNeS)
  | (with_reducible apply i_rEqB)
  | (with_reducible apply i_rNeB)
  | (with_reducible apply i_rIsN)
  | (with_reducible apply i_rNotN)
  | (with_reducible apply i_rInS)
  | (with_reducible apply i_rNotInS)
  | ((with_reducible apply i_catS); (case c => walk_at "side"))
  | (with_reducible apply i_tcb)
  | (with_reducible apply i_nil)
  | (with_reducible apply i_cons)
  | ((with_reducible apply i_lenS); (case c => walk_at "side"))
  | ((with_reducible apply i_lenL); assumption)
  | (with_reducible apply i_abs)
  | (with_reducible apply i_max2)
  | (with_reducible apply i_min2)
  | ((with_reducible apply i_strI); (case c => walk_at "side"))
  | (with_reducible apply i_intB)
  | (with_reducible apply i_test)
  | (with_reducible apply i_tB)
  | (with_reducible apply i_kB)
  | (with_reducible apply i_and)
  | (with_reducible apply i_or)
  | (with_reducible apply i_not)
  | (with_reducible apply i_if)
  | (with_reducible apply i_andV)
  | (with_reducible apply i_orV)
  | (with_reducible apply i_notV)
  | (with_reducible apply i_kAndV)
  | (with_reducible apply i_kOrV)
  | (with_reducible apply i_kNotV)
  | (with_reducible apply i_chain)
  | (with_reducible apply i_kChain)
  | (with_reducible apply i_drop)
  | (with_reducible apply i_ret)
  | (with_reducible apply i_retN)
  | (with_reducible apply i_ifS)
  | (with_reducible apply i_asg)
  | (with_reducible apply i_gName)
  | (with_reducible apply i_for)
  | (with_reducible apply i_lc)
  | (with_reducible apply i_iList)
  | (with_reducible apply i_iTup)
  | (with_reducible apply i_iStr)
  | (with_reducible apply i_kStrI)
  | (with_reducible apply i_lst)
  | (with_reducible apply i_tup)
  | (with_reducible apply i_call)
  | (with_reducible apply i_m1)
  | (with_reducible apply i_kStr)
  | (with_reducible apply i_bm)
  | (with_reducible apply i_bm0)
  | (with_reducible apply i_part)
  | (with_reducible apply i_kInt)
  | (with_reducible apply i_noPart)
  | (with_reducible apply i_sl)
  | (with_reducible apply i_range1)
  | (with_reducible apply i_range2)
  | ((with_reducible apply i_kRng1); (case c => walk_at "side"))
  | ((with_reducible apply i_kRng2); (case c => walk_at "side"))
  | (with_reducible apply i_gCons)
  | (with_reducible apply i_gNil)
  | (with_reducible apply i_gSub)
  | (with_reducible apply i_iZip)
  | (with_reducible apply i_yes)
  | (with_reducible apply i_ift)
  | (with_reducible apply i_iff)
  | (with_reducible apply i_nb))
local macro_rules | `(tactic| walk_at "go") => `(tactic| repeat (first | (with_reducible apply i_seq) | (with_reducible apply i_next) | walk_at "e"))
local macro_rules | `(tactic| walk_at "ge") => `(tactic| repeat walk_at "e")
local macro_rules | `(tactic| walk_at "sz") => `(tactic| first | decide | (rw [sizeLine_eq]; simp; done) | (rw [sizeLine_eq]; omega))
local macro_rules | `(tactic| walk_at "side") => `(tactic| (with_reducible exact WB.most_pos))
local macro_rules | `(tactic| walk_at "e") => `(tactic| first
  | ((with_reducible apply i_isT (b := true)); exact rfl)
  | ((with_reducible apply i_isT (b := false)); exact rfl)
  | (with_reducible apply i_fld)
  | ((with_reducible apply i_kFld); (case h => assumption); (case c1 => assumption); (case c2 => assumption); (case e => first | exact lk_number | exact lk_tail | exact lk_head | exact lk_load | exact lk_oneway | exact lk_points | exact lk_ties | exact lk_given))
  | (with_reducible apply i_sfld)
  | ((with_reducible apply i_kSFld); (case h => first | assumption | exact upd_same); (case c1 => assumption); (case c2 => assumption); (case e => exact Nat.le_of_ble_eq_true rfl))
  | (with_reducible apply i_methC)
  | (with_reducible apply i_make)
  | (with_reducible apply i_fldaug)
  | (with_reducible apply i_vals)
  | (with_reducible apply i_items)
  | (with_reducible apply i_dget)
  | (with_reducible apply i_dput)
  | (with_reducible apply i_din)
  | (with_reducible apply i_dnotin)
  | (with_reducible apply i_ddel)
  | (with_reducible apply i_dc)
  | (with_reducible apply i_enum)
  | (with_reducible apply i_ckw))
local macro_rules | `(tactic| walk_at "e") => `(tactic| first | (with_reducible apply i_con) | (with_reducible apply i_dyn) | (with_reducible apply i_makeS) | (with_reducible apply i_match))
section
variable {P : Program} {w : World} {K : PySem.W.Frag} {mg : Str → Option Value} {base : Heap}
def sp_made (K : PySem.W.Frag) : Sp := fun vs H Q _ => ∃ (z : Str) (p : Addr) (ns : List Str) (m : Nat), vs = [.str z, .ref p] ∧ H p = some (.lst (ns.map V.str)) ∧ manyA z = some m ∧ ns.length = m ∧ ∀ a C H', Same H H' → H a = none → QAt K H' a C z ns → Q (.ref a) H'
set_option maxHeartbeats 16000000 in
theorem ok_law_made (T : Tx K mg) (xk : extra K = true) : FnOk P w K mg base CX0 3 (He.ga K "_law_made") T.fd_law_made ["_law_word", "_law_names_here"] (sp_made K) := by
  refine T.F_law_made.ok sc_law_made (fun vs H Q E h => ?_) (fun cdv A outer s H vs Q E hr h => ?_)
  · obtain ⟨_, _, _, _, rfl, _⟩ := h
    rfl
  · obtain ⟨z, p, ns, m, rfl, hp, hm, hlen, q⟩ := h
    have hu := hu_of hr
    refine ⟨_, PSs.nox (pss_cons (ps_if (pt_cmpR op_eq (pv 0) pe_str (nomark _)) (pss_one (ps_ret (pe_make (mk_two xk (C := "HangsTogether") (by decide)) (ok_OfTwo_init T) (hr.mono (by decide)) (by rfl) T.g_HangsTogether T.k_OfTwo_init .nil pass0 (pa_cons (pe_ix ix_list (pv 1) pe_int (fun _ _ => rfl)) (pa_cons (pe_ix ix_list (pv 1) pe_int (fun _ _ => rfl)) pa_nil))))) pss_nil)
      (pss_cons (ps_if (pt_cmpR op_eq (pv 0) pe_str (nomark _)) (pss_one (ps_ret (pe_make (mk_two xk (C := "ComesThere") (by decide)) (ok_OfTwo_init T) (hr.mono (by decide)) (by rfl) T.g_ComesThere T.k_OfTwo_init .nil pass0 (pa_cons (pe_ix ix_list (pv 1) pe_int (fun _ _ => rfl)) (pa_cons (pe_ix ix_list (pv 1) pe_int (fun _ _ => rfl)) pa_nil))))) pss_nil)
      (pss_cons (ps_if (pt_cmpR op_eq (pv 0) pe_str (nomark _)) (pss_one (ps_ret (pe_make (mk_two xk (C := "MustTies") (by decide)) (ok_OfTwo_init T) (hr.mono (by decide)) (by rfl) T.g_MustTies T.k_OfTwo_init .nil pass0 (pa_cons (pe_ix ix_list (pv 1) pe_int (fun _ _ => rfl)) (pa_cons (pe_ix ix_list (pv 1) pe_int (fun _ _ => rfl)) pa_nil))))) pss_nil)
      (pss_cons (ps_if (pt_cmpR op_eq (pv 0) pe_str (nomark _)) (pss_one (ps_ret (pe_make (mk_two xk (C := "MustPoints") (by decide)) (ok_OfTwo_init T) (hr.mono (by decide)) (by rfl) T.g_MustPoints T.k_OfTwo_init .nil pass0 (pa_cons (pe_ix ix_list (pv 1) pe_int (fun _ _ => rfl)) (pa_cons (pe_ix ix_list (pv 1) pe_int (fun _ _ => rfl)) pa_nil))))) pss_nil)
      (pss_cons (ps_if (pt_cmpR op_eq (pv 0) pe_str (nomark _)) (pss_one (ps_ret (pe_make (mk_two xk (C := "RingThrough") (by decide)) (ok_OfTwo_init T) (hr.mono (by decide)) (by rfl) T.g_RingThrough T.k_OfTwo_init .nil pass0 (pa_cons (pe_ix ix_list (pv 1) pe_int (fun _ _ => rfl)) (pa_cons (pe_ix ix_list (pv 1) pe_int (fun _ _ => rfl)) pa_nil))))) pss_nil)
      (pss_cons (ps_if (pt_cmpR op_eq (pv 0) pe_str (nomark _)) (pss_one (ps_ret (pe_make (mk_two xk (C := "LeastWay") (by decide)) (ok_OfTwo_init T) (hr.mono (by decide)) (by rfl) T.g_LeastWay T.k_OfTwo_init .nil pass0 (pa_cons (pe_ix ix_list (pv 1) pe_int (fun _ _ => rfl)) (pa_cons (pe_ix ix_list (pv 1) pe_int (fun _ _ => rfl)) pa_nil))))) pss_nil)
      (pss_cons (ps_if (pt_cmpR op_eq (pv 0) pe_str (nomark _)) (pss_one (ps_ret (pe_make (mk_two xk (C := "FewestTies") (by decide)) (ok_OfTwo_init T) (hr.mono (by decide)) (by rfl) T.g_FewestTies T.k_OfTwo_init .nil pass0 (pa_cons (pe_ix ix_list (pv 1) pe_int (fun _ _ => rfl)) (pa_cons (pe_ix ix_list (pv 1) pe_int (fun _ _ => rfl)) pa_nil))))) pss_nil)
      (pss_cons (ps_if (pt_cmpR op_eq (pv 0) pe_str (nomark _)) (pss_one (ps_ret (pe_make (mk_two xk (C := "WaysApart") (by decide)) (ok_OfTwo_init T) (hr.mono (by decide)) (by rfl) T.g_WaysApart T.k_OfTwo_init .nil pass0 (pa_cons (pe_ix ix_list (pv 1) pe_int (fun _ _ => rfl)) (pa_cons (pe_ix ix_list (pv 1) pe_int (fun _ _ => rfl)) pa_nil))))) pss_nil)
      (pss_cons (ps_if (pt_cmpR op_eq (pv 0) pe_str (nomark _)) (pss_one (ps_ret (pe_make (mk_three xk (C := "PastPoint") (by decide)) (ok_PastPoint_init T) (hr.mono (by decide)) (by rfl) T.g_PastPoint T.k_PastPoint_init .nil pass0 (pa_cons (pe_ix ix_list (pv 1) pe_int (fun _ _ => rfl)) (pa_cons (pe_ix ix_list (pv 1) pe_int (fun _ _ => rfl)) (pa_cons (pe_ix ix_list (pv 1) pe_int (fun _ _ => rfl)) pa_nil)))))) pss_nil)
      (pss_cons (ps_if (pt_cmpR op_eq (pv 0) pe_str (nomark _)) (pss_one (ps_ret (CLX.pe_mk0 (mk_none xk (C := "ThePieces") (by decide)) (by rfl) T.g_ThePieces))) pss_nil)
      (pss_cons (ps_if (pt_cmpR op_eq (pv 0) pe_str (nomark _)) (pss_one (ps_ret (CLX.pe_mk0 (mk_none xk (C := "TheKnots") (by decide)) (by rfl) T.g_TheKnots))) pss_nil)
      (pss_cons (ps_if (pt_cmpR op_eq (pv 0) pe_str (nomark _)) (pss_one (ps_ret (CLX.pe_mk0 (mk_none xk (C := "TwoSides") (by decide)) (by rfl) T.g_TwoSides))) pss_nil)
      (pss_cons (ps_if (pt_cmpR op_eq (pv 0) pe_str (nomark _)) (pss_one (ps_ret (CLX.pe_mk0 (mk_none xk (C := "LightestForest") (by decide)) (by rfl) T.g_LightestForest))) pss_nil)
      (pss_one (ps_ret (pe_ifExp (pt_cmpR op_eq (pv 0) pe_str (nomark _)) (CLX.pe_mk0 (mk_none xk (C := "TheStarts") (by decide)) (by rfl) T.g_TheStarts) (CLX.pe_mk0 (mk_none xk (C := "TheLeaves") (by decide)) (by rfl) T.g_TheLeaves))))))))))))))))), ?_⟩
    have hm := many_mem hm
    unfold kvA at hm
    simp only [List.mem_cons, List.not_mem_nil, or_false, Prod.mk.injEq] at hm
    rcases hm with ⟨rfl, rfl⟩ | ⟨rfl, rfl⟩ | ⟨rfl, rfl⟩ | ⟨rfl, rfl⟩ | ⟨rfl, rfl⟩ | ⟨rfl, rfl⟩ | ⟨rfl, rfl⟩ | ⟨rfl, rfl⟩ | ⟨rfl, rfl⟩ | ⟨rfl, rfl⟩ | ⟨rfl, rfl⟩ | ⟨rfl, rfl⟩ | ⟨rfl, rfl⟩ | ⟨rfl, rfl⟩ | ⟨rfl, rfl⟩
    · -- together
      walk_at "go"
      refine i_dec (fun _ => ?_) (fun c => absurd rfl c)
      obtain ⟨x, y, rfl⟩ : ∃ x y, ns = [x, y] := by
        match ns, hlen with
        | [x, y], _ => exact ⟨x, y, rfl⟩
      obtain ⟨qc, _⟩ := q_two xk (C := "HangsTogether") (z := "together") (by decide)
      walk_at "go"
      refine i_ixL (SqL.of hp) (atI_nat (j := 0) rfl) ?_
      walk_at "go"
      refine i_ixL (SqL.of hp) (atI_nat (j := 1) rfl) ?_
      walk_at "go"
      intro a dx ha hdx hne
      refine ⟨a, "HangsTogether", _, x, y, dx, rfl, qc, upd_same, rfl, ?_⟩
      rw [upd_upd]
      have s1 : Same H (upd (upd H dx (.own a)) a (.ins (He.ga K "HangsTogether") dx [("one", .str x), ("other", .str y)])) := Same.mut (Same.new hdx) ha
      exact q a _ _ s1 ha (.two (by decide) qc upd_same)
    · -- comes
      walk_at "go"
      refine i_dec (fun c => absurd c (by decide +kernel)) (fun _ => ?_)
      walk_at "go"
      refine i_dec (fun _ => ?_) (fun c => absurd rfl c)
      obtain ⟨x, y, rfl⟩ : ∃ x y, ns = [x, y] := by
        match ns, hlen with
        | [x, y], _ => exact ⟨x, y, rfl⟩
      obtain ⟨qc, _⟩ := q_two xk (C := "ComesThere") (z := "comes") (by decide)
      walk_at "go"
      refine i_ixL (SqL.of hp) (atI_nat (j := 0) rfl) ?_
      walk_at "go"
      refine i_ixL (SqL.of hp) (atI_nat (j := 1) rfl) ?_
      walk_at "go"
      intro a dx ha hdx hne
      refine ⟨a, "ComesThere", _, x, y, dx, rfl, qc, upd_same, rfl, ?_⟩
      rw [upd_upd]
      have s1 : Same H (upd (upd H dx (.own a)) a (.ins (He.ga K "ComesThere") dx [("one", .str x), ("other", .str y)])) := Same.mut (Same.new hdx) ha
      exact q a _ _ s1 ha (.two (by decide) qc upd_same)
    · -- must
      walk_at "go"
      refine i_dec (fun c => absurd c (by decide +kernel)) (fun _ => ?_)
      walk_at "go"
      refine i_dec (fun c => absurd c (by decide +kernel)) (fun _ => ?_)
      walk_at "go"
      refine i_dec (fun _ => ?_) (fun c => absurd rfl c)
      obtain ⟨x, y, rfl⟩ : ∃ x y, ns = [x, y] := by
        match ns, hlen with
        | [x, y], _ => exact ⟨x, y, rfl⟩
      obtain ⟨qc, _⟩ := q_two xk (C := "MustTies") (z := "must") (by decide)
      walk_at "go"
      refine i_ixL (SqL.of hp) (atI_nat (j := 0) rfl) ?_
      walk_at "go"
      refine i_ixL (SqL.of hp) (atI_nat (j := 1) rfl) ?_
      walk_at "go"
      intro a dx ha hdx hne
      refine ⟨a, "MustTies", _, x, y, dx, rfl, qc, upd_same, rfl, ?_⟩
      rw [upd_upd]
      have s1 : Same H (upd (upd H dx (.own a)) a (.ins (He.ga K "MustTies") dx [("one", .str x), ("other", .str y)])) := Same.mut (Same.new hdx) ha
      exact q a _ _ s1 ha (.two (by decide) qc upd_same)
    · -- points
      walk_at "go"
      refine i_dec (fun c => absurd c (by decide +kernel)) (fun _ => ?_)
      walk_at "go"
      refine i_dec (fun c => absurd c (by decide +kernel)) (fun _ => ?_)
      walk_at "go"
      refine i_dec (fun c => absurd c (by decide +kernel)) (fun _ => ?_)
      walk_at "go"
      refine i_dec (fun _ => ?_) (fun c => absurd rfl c)
      obtain ⟨x, y, rfl⟩ : ∃ x y, ns = [x, y] := by
        match ns, hlen with
        | [x, y], _ => exact ⟨x, y, rfl⟩
      obtain ⟨qc, _⟩ := q_two xk (C := "MustPoints") (z := "points") (by decide)
      walk_at "go"
      refine i_ixL (SqL.of hp) (atI_nat (j := 0) rfl) ?_
      walk_at "go"
      refine i_ixL (SqL.of hp) (atI_nat (j := 1) rfl) ?_
      walk_at "go"
      intro a dx ha hdx hne
      refine ⟨a, "MustPoints", _, x, y, dx, rfl, qc, upd_same, rfl, ?_⟩
      rw [upd_upd]
      have s1 : Same H (upd (upd H dx (.own a)) a (.ins (He.ga K "MustPoints") dx [("one", .str x), ("other", .str y)])) := Same.mut (Same.new hdx) ha
      exact q a _ _ s1 ha (.two (by decide) qc upd_same)
    · -- past
      walk_at "go"
      refine i_dec (fun c => absurd c (by decide +kernel)) (fun _ => ?_)
      walk_at "go"
      refine i_dec (fun c => absurd c (by decide +kernel)) (fun _ => ?_)
      walk_at "go"
      refine i_dec (fun c => absurd c (by decide +kernel)) (fun _ => ?_)
      walk_at "go"
      refine i_dec (fun c => absurd c (by decide +kernel)) (fun _ => ?_)
      walk_at "go"
      refine i_dec (fun c => absurd c (by decide +kernel)) (fun _ => ?_)
      walk_at "go"
      refine i_dec (fun c => absurd c (by decide +kernel)) (fun _ => ?_)
      walk_at "go"
      refine i_dec (fun c => absurd c (by decide +kernel)) (fun _ => ?_)
      walk_at "go"
      refine i_dec (fun c => absurd c (by decide +kernel)) (fun _ => ?_)
      walk_at "go"
      refine i_dec (fun _ => ?_) (fun c => absurd rfl c)
      obtain ⟨x, y, n, rfl⟩ : ∃ x y n, ns = [x, y, n] := by
        match ns, hlen with
        | [x, y, n], _ => exact ⟨x, y, n, rfl⟩
      obtain ⟨qc, _⟩ := q_three xk
      walk_at "go"
      refine i_ixL (SqL.of hp) (atI_nat (j := 0) rfl) ?_
      walk_at "go"
      refine i_ixL (SqL.of hp) (atI_nat (j := 1) rfl) ?_
      walk_at "go"
      refine i_ixL (SqL.of hp) (atI_nat (j := 2) rfl) ?_
      walk_at "go"
      intro a dx ha hdx hne
      refine ⟨a, "PastPoint", _, x, y, n, dx, rfl, qc, upd_same, rfl, ?_⟩
      rw [upd_upd]
      have s1 : Same H (upd (upd H dx (.own a)) a (.ins (He.ga K "PastPoint") dx [("one", .str x), ("other", .str y), ("name", .str n)])) := Same.mut (Same.new hdx) ha
      exact q a _ _ s1 ha (.three qc upd_same)
    · -- ring
      walk_at "go"
      refine i_dec (fun c => absurd c (by decide +kernel)) (fun _ => ?_)
      walk_at "go"
      refine i_dec (fun c => absurd c (by decide +kernel)) (fun _ => ?_)
      walk_at "go"
      refine i_dec (fun c => absurd c (by decide +kernel)) (fun _ => ?_)
      walk_at "go"
      refine i_dec (fun c => absurd c (by decide +kernel)) (fun _ => ?_)
      walk_at "go"
      refine i_dec (fun _ => ?_) (fun c => absurd rfl c)
      obtain ⟨x, y, rfl⟩ : ∃ x y, ns = [x, y] := by
        match ns, hlen with
        | [x, y], _ => exact ⟨x, y, rfl⟩
      obtain ⟨qc, _⟩ := q_two xk (C := "RingThrough") (z := "ring") (by decide)
      walk_at "go"
      refine i_ixL (SqL.of hp) (atI_nat (j := 0) rfl) ?_
      walk_at "go"
      refine i_ixL (SqL.of hp) (atI_nat (j := 1) rfl) ?_
      walk_at "go"
      intro a dx ha hdx hne
      refine ⟨a, "RingThrough", _, x, y, dx, rfl, qc, upd_same, rfl, ?_⟩
      rw [upd_upd]
      have s1 : Same H (upd (upd H dx (.own a)) a (.ins (He.ga K "RingThrough") dx [("one", .str x), ("other", .str y)])) := Same.mut (Same.new hdx) ha
      exact q a _ _ s1 ha (.two (by decide) qc upd_same)
    · -- least
      walk_at "go"
      refine i_dec (fun c => absurd c (by decide +kernel)) (fun _ => ?_)
      walk_at "go"
      refine i_dec (fun c => absurd c (by decide +kernel)) (fun _ => ?_)
      walk_at "go"
      refine i_dec (fun c => absurd c (by decide +kernel)) (fun _ => ?_)
      walk_at "go"
      refine i_dec (fun c => absurd c (by decide +kernel)) (fun _ => ?_)
      walk_at "go"
      refine i_dec (fun c => absurd c (by decide +kernel)) (fun _ => ?_)
      walk_at "go"
      refine i_dec (fun _ => ?_) (fun c => absurd rfl c)
      obtain ⟨x, y, rfl⟩ : ∃ x y, ns = [x, y] := by
        match ns, hlen with
        | [x, y], _ => exact ⟨x, y, rfl⟩
      obtain ⟨qc, _⟩ := q_two xk (C := "LeastWay") (z := "least") (by decide)
      walk_at "go"
      refine i_ixL (SqL.of hp) (atI_nat (j := 0) rfl) ?_
      walk_at "go"
      refine i_ixL (SqL.of hp) (atI_nat (j := 1) rfl) ?_
      walk_at "go"
      intro a dx ha hdx hne
      refine ⟨a, "LeastWay", _, x, y, dx, rfl, qc, upd_same, rfl, ?_⟩
      rw [upd_upd]
      have s1 : Same H (upd (upd H dx (.own a)) a (.ins (He.ga K "LeastWay") dx [("one", .str x), ("other", .str y)])) := Same.mut (Same.new hdx) ha
      exact q a _ _ s1 ha (.two (by decide) qc upd_same)
    · -- fewest
      walk_at "go"
      refine i_dec (fun c => absurd c (by decide +kernel)) (fun _ => ?_)
      walk_at "go"
      refine i_dec (fun c => absurd c (by decide +kernel)) (fun _ => ?_)
      walk_at "go"
      refine i_dec (fun c => absurd c (by decide +kernel)) (fun _ => ?_)
      walk_at "go"
      refine i_dec (fun c => absurd c (by decide +kernel)) (fun _ => ?_)
      walk_at "go"
      refine i_dec (fun c => absurd c (by decide +kernel)) (fun _ => ?_)
      walk_at "go"
      refine i_dec (fun c => absurd c (by decide +kernel)) (fun _ => ?_)
      walk_at "go"
      refine i_dec (fun _ => ?_) (fun c => absurd rfl c)
      obtain ⟨x, y, rfl⟩ : ∃ x y, ns = [x, y] := by
        match ns, hlen with
        | [x, y], _ => exact ⟨x, y, rfl⟩
      obtain ⟨qc, _⟩ := q_two xk (C := "FewestTies") (z := "fewest") (by decide)
      walk_at "go"
      refine i_ixL (SqL.of hp) (atI_nat (j := 0) rfl) ?_
      walk_at "go"
      refine i_ixL (SqL.of hp) (atI_nat (j := 1) rfl) ?_
      walk_at "go"
      intro a dx ha hdx hne
      refine ⟨a, "FewestTies", _, x, y, dx, rfl, qc, upd_same, rfl, ?_⟩
      rw [upd_upd]
      have s1 : Same H (upd (upd H dx (.own a)) a (.ins (He.ga K "FewestTies") dx [("one", .str x), ("other", .str y)])) := Same.mut (Same.new hdx) ha
      exact q a _ _ s1 ha (.two (by decide) qc upd_same)
    · -- apart
      walk_at "go"
      refine i_dec (fun c => absurd c (by decide +kernel)) (fun _ => ?_)
      walk_at "go"
      refine i_dec (fun c => absurd c (by decide +kernel)) (fun _ => ?_)
      walk_at "go"
      refine i_dec (fun c => absurd c (by decide +kernel)) (fun _ => ?_)
      walk_at "go"
      refine i_dec (fun c => absurd c (by decide +kernel)) (fun _ => ?_)
      walk_at "go"
      refine i_dec (fun c => absurd c (by decide +kernel)) (fun _ => ?_)
      walk_at "go"
      refine i_dec (fun c => absurd c (by decide +kernel)) (fun _ => ?_)
      walk_at "go"
      refine i_dec (fun c => absurd c (by decide +kernel)) (fun _ => ?_)
      walk_at "go"
      refine i_dec (fun _ => ?_) (fun c => absurd rfl c)
      obtain ⟨x, y, rfl⟩ : ∃ x y, ns = [x, y] := by
        match ns, hlen with
        | [x, y], _ => exact ⟨x, y, rfl⟩
      obtain ⟨qc, _⟩ := q_two xk (C := "WaysApart") (z := "apart") (by decide)
      walk_at "go"
      refine i_ixL (SqL.of hp) (atI_nat (j := 0) rfl) ?_
      walk_at "go"
      refine i_ixL (SqL.of hp) (atI_nat (j := 1) rfl) ?_
      walk_at "go"
      intro a dx ha hdx hne
      refine ⟨a, "WaysApart", _, x, y, dx, rfl, qc, upd_same, rfl, ?_⟩
      rw [upd_upd]
      have s1 : Same H (upd (upd H dx (.own a)) a (.ins (He.ga K "WaysApart") dx [("one", .str x), ("other", .str y)])) := Same.mut (Same.new hdx) ha
      exact q a _ _ s1 ha (.two (by decide) qc upd_same)
    · -- pieces
      walk_at "go"
      refine i_dec (fun c => absurd c (by decide +kernel)) (fun _ => ?_)
      walk_at "go"
      refine i_dec (fun c => absurd c (by decide +kernel)) (fun _ => ?_)
      walk_at "go"
      refine i_dec (fun c => absurd c (by decide +kernel)) (fun _ => ?_)
      walk_at "go"
      refine i_dec (fun c => absurd c (by decide +kernel)) (fun _ => ?_)
      walk_at "go"
      refine i_dec (fun c => absurd c (by decide +kernel)) (fun _ => ?_)
      walk_at "go"
      refine i_dec (fun c => absurd c (by decide +kernel)) (fun _ => ?_)
      walk_at "go"
      refine i_dec (fun c => absurd c (by decide +kernel)) (fun _ => ?_)
      walk_at "go"
      refine i_dec (fun c => absurd c (by decide +kernel)) (fun _ => ?_)
      walk_at "go"
      refine i_dec (fun c => absurd c (by decide +kernel)) (fun _ => ?_)
      walk_at "go"
      refine i_dec (fun _ => ?_) (fun c => absurd rfl c)
      have hl : ns = [] := List.length_eq_zero_iff.mp hlen
      subst hl
      obtain ⟨qc, _⟩ := q_none xk (C := "ThePieces") (z := "pieces") (by decide)
      walk_at "go"
      intro a dx ha hdx hne
      have s1 : Same H (upd (upd H dx (.own a)) a (.ins (He.ga K "ThePieces") dx [])) := Same.mut (Same.new hdx) ha
      exact q a _ _ s1 ha (.none (by decide) qc upd_same)
    · -- knots
      walk_at "go"
      refine i_dec (fun c => absurd c (by decide +kernel)) (fun _ => ?_)
      walk_at "go"
      refine i_dec (fun c => absurd c (by decide +kernel)) (fun _ => ?_)
      walk_at "go"
      refine i_dec (fun c => absurd c (by decide +kernel)) (fun _ => ?_)
      walk_at "go"
      refine i_dec (fun c => absurd c (by decide +kernel)) (fun _ => ?_)
      walk_at "go"
      refine i_dec (fun c => absurd c (by decide +kernel)) (fun _ => ?_)
      walk_at "go"
      refine i_dec (fun c => absurd c (by decide +kernel)) (fun _ => ?_)
      walk_at "go"
      refine i_dec (fun c => absurd c (by decide +kernel)) (fun _ => ?_)
      walk_at "go"
      refine i_dec (fun c => absurd c (by decide +kernel)) (fun _ => ?_)
      walk_at "go"
      refine i_dec (fun c => absurd c (by decide +kernel)) (fun _ => ?_)
      walk_at "go"
      refine i_dec (fun c => absurd c (by decide +kernel)) (fun _ => ?_)
      walk_at "go"
      refine i_dec (fun _ => ?_) (fun c => absurd rfl c)
      have hl : ns = [] := List.length_eq_zero_iff.mp hlen
      subst hl
      obtain ⟨qc, _⟩ := q_none xk (C := "TheKnots") (z := "knots") (by decide)
      walk_at "go"
      intro a dx ha hdx hne
      have s1 : Same H (upd (upd H dx (.own a)) a (.ins (He.ga K "TheKnots") dx [])) := Same.mut (Same.new hdx) ha
      exact q a _ _ s1 ha (.none (by decide) qc upd_same)
    · -- sides
      walk_at "go"
      refine i_dec (fun c => absurd c (by decide +kernel)) (fun _ => ?_)
      walk_at "go"
      refine i_dec (fun c => absurd c (by decide +kernel)) (fun _ => ?_)
      walk_at "go"
      refine i_dec (fun c => absurd c (by decide +kernel)) (fun _ => ?_)
      walk_at "go"
      refine i_dec (fun c => absurd c (by decide +kernel)) (fun _ => ?_)
      walk_at "go"
      refine i_dec (fun c => absurd c (by decide +kernel)) (fun _ => ?_)
      walk_at "go"
      refine i_dec (fun c => absurd c (by decide +kernel)) (fun _ => ?_)
      walk_at "go"
      refine i_dec (fun c => absurd c (by decide +kernel)) (fun _ => ?_)
      walk_at "go"
      refine i_dec (fun c => absurd c (by decide +kernel)) (fun _ => ?_)
      walk_at "go"
      refine i_dec (fun c => absurd c (by decide +kernel)) (fun _ => ?_)
      walk_at "go"
      refine i_dec (fun c => absurd c (by decide +kernel)) (fun _ => ?_)
      walk_at "go"
      refine i_dec (fun c => absurd c (by decide +kernel)) (fun _ => ?_)
      walk_at "go"
      refine i_dec (fun _ => ?_) (fun c => absurd rfl c)
      have hl : ns = [] := List.length_eq_zero_iff.mp hlen
      subst hl
      obtain ⟨qc, _⟩ := q_none xk (C := "TwoSides") (z := "sides") (by decide)
      walk_at "go"
      intro a dx ha hdx hne
      have s1 : Same H (upd (upd H dx (.own a)) a (.ins (He.ga K "TwoSides") dx [])) := Same.mut (Same.new hdx) ha
      exact q a _ _ s1 ha (.none (by decide) qc upd_same)
    · -- lightest
      walk_at "go"
      refine i_dec (fun c => absurd c (by decide +kernel)) (fun _ => ?_)
      walk_at "go"
      refine i_dec (fun c => absurd c (by decide +kernel)) (fun _ => ?_)
      walk_at "go"
      refine i_dec (fun c => absurd c (by decide +kernel)) (fun _ => ?_)
      walk_at "go"
      refine i_dec (fun c => absurd c (by decide +kernel)) (fun _ => ?_)
      walk_at "go"
      refine i_dec (fun c => absurd c (by decide +kernel)) (fun _ => ?_)
      walk_at "go"
      refine i_dec (fun c => absurd c (by decide +kernel)) (fun _ => ?_)
      walk_at "go"
      refine i_dec (fun c => absurd c (by decide +kernel)) (fun _ => ?_)
      walk_at "go"
      refine i_dec (fun c => absurd c (by decide +kernel)) (fun _ => ?_)
      walk_at "go"
      refine i_dec (fun c => absurd c (by decide +kernel)) (fun _ => ?_)
      walk_at "go"
      refine i_dec (fun c => absurd c (by decide +kernel)) (fun _ => ?_)
      walk_at "go"
      refine i_dec (fun c => absurd c (by decide +kernel)) (fun _ => ?_)
      walk_at "go"
      refine i_dec (fun c => absurd c (by decide +kernel)) (fun _ => ?_)
      walk_at "go"
      refine i_dec (fun _ => ?_) (fun c => absurd rfl c)
      have hl : ns = [] := List.length_eq_zero_iff.mp hlen
      subst hl
      obtain ⟨qc, _⟩ := q_none xk (C := "LightestForest") (z := "lightest") (by decide)
      walk_at "go"
      intro a dx ha hdx hne
      have s1 : Same H (upd (upd H dx (.own a)) a (.ins (He.ga K "LightestForest") dx [])) := Same.mut (Same.new hdx) ha
      exact q a _ _ s1 ha (.none (by decide) qc upd_same)
    · -- starts
      walk_at "go"
      refine i_dec (fun c => absurd c (by decide +kernel)) (fun _ => ?_)
      walk_at "go"
      refine i_dec (fun c => absurd c (by decide +kernel)) (fun _ => ?_)
      walk_at "go"
      refine i_dec (fun c => absurd c (by decide +kernel)) (fun _ => ?_)
      walk_at "go"
      refine i_dec (fun c => absurd c (by decide +kernel)) (fun _ => ?_)
      walk_at "go"
      refine i_dec (fun c => absurd c (by decide +kernel)) (fun _ => ?_)
      walk_at "go"
      refine i_dec (fun c => absurd c (by decide +kernel)) (fun _ => ?_)
      walk_at "go"
      refine i_dec (fun c => absurd c (by decide +kernel)) (fun _ => ?_)
      walk_at "go"
      refine i_dec (fun c => absurd c (by decide +kernel)) (fun _ => ?_)
      walk_at "go"
      refine i_dec (fun c => absurd c (by decide +kernel)) (fun _ => ?_)
      walk_at "go"
      refine i_dec (fun c => absurd c (by decide +kernel)) (fun _ => ?_)
      walk_at "go"
      refine i_dec (fun c => absurd c (by decide +kernel)) (fun _ => ?_)
      walk_at "go"
      refine i_dec (fun c => absurd c (by decide +kernel)) (fun _ => ?_)
      walk_at "go"
      refine i_dec (fun c => absurd c (by decide +kernel)) (fun _ => ?_)
      walk_at "go"
      refine i_dec (fun _ => ?_) (fun c => absurd rfl c)
      have hl : ns = [] := List.length_eq_zero_iff.mp hlen
      subst hl
      obtain ⟨qc, _⟩ := q_none xk (C := "TheStarts") (z := "starts") (by decide)
      walk_at "go"
      intro a dx ha hdx hne
      have s1 : Same H (upd (upd H dx (.own a)) a (.ins (He.ga K "TheStarts") dx [])) := Same.mut (Same.new hdx) ha
      exact q a _ _ s1 ha (.none (by decide) qc upd_same)
    · -- leaves
      walk_at "go"
      refine i_dec (fun c => absurd c (by decide +kernel)) (fun _ => ?_)
      walk_at "go"
      refine i_dec (fun c => absurd c (by decide +kernel)) (fun _ => ?_)
      walk_at "go"
      refine i_dec (fun c => absurd c (by decide +kernel)) (fun _ => ?_)
      walk_at "go"
      refine i_dec (fun c => absurd c (by decide +kernel)) (fun _ => ?_)
      walk_at "go"
      refine i_dec (fun c => absurd c (by decide +kernel)) (fun _ => ?_)
      walk_at "go"
      refine i_dec (fun c => absurd c (by decide +kernel)) (fun _ => ?_)
      walk_at "go"
      refine i_dec (fun c => absurd c (by decide +kernel)) (fun _ => ?_)
      walk_at "go"
      refine i_dec (fun c => absurd c (by decide +kernel)) (fun _ => ?_)
      walk_at "go"
      refine i_dec (fun c => absurd c (by decide +kernel)) (fun _ => ?_)
      walk_at "go"
      refine i_dec (fun c => absurd c (by decide +kernel)) (fun _ => ?_)
      walk_at "go"
      refine i_dec (fun c => absurd c (by decide +kernel)) (fun _ => ?_)
      walk_at "go"
      refine i_dec (fun c => absurd c (by decide +kernel)) (fun _ => ?_)
      walk_at "go"
      refine i_dec (fun c => absurd c (by decide +kernel)) (fun _ => ?_)
      walk_at "go"
      refine i_dec (fun c => absurd c (by decide +kernel)) (fun _ => ?_)
      have hl : ns = [] := List.length_eq_zero_iff.mp hlen
      subst hl
      obtain ⟨qc, _⟩ := q_none xk (C := "TheLeaves") (z := "leaves") (by decide)
      walk_at "go"
      intro a dx ha hdx hne
      have s1 : Same H (upd (upd H dx (.own a)) a (.ins (He.ga K "TheLeaves") dx [])) := Same.mut (Same.new hdx) ha
      exact q a _ _ s1 ha (.none (by decide) qc upd_same)
end
end K25

set_option Elab.async false
set_option linter.all false
set_option maxRecDepth 100000
set_option maxHeartbeats 4000000
namespace K25
open PySem PySem.Spec PyProof.Rows L2 HX WB
local macro_rules | `(tactic| walk_at "side") => `(tactic| first
  | assumption
  | rfl
  | (show (0 : Int) < _; omega)
  | (unfold CDiv; omega)
  | (unfold CMul; omega)
  | (unfold CPow; omega)
  | (rw [sizeLine_eq]; omega)
  | omega)
local macro_rules | `(tactic| walk_at "e") => `(tactic| first
  | ((with_reducible apply i_var); exact rfl)
  | (with_reducible apply i_c)
  | (with_reducible apply i_op)
  | (with_reducible apply i_un)
  | (with_reducible apply i_rI0)
  | ((with_reducible apply i_rI); (case c => walk_at "side"))
  | (with_reducible apply i_rGe)
  | (with_reducible apply i_rGt)
  | (with_reducible apply i_rU)
  | (with_reducible apply i_rEqI)
  | (with_reducible apply i_rNeI)
  | (with_reducible apply i_rEqS)
  | (with_reducible apply i_rNeS)
  | (with_reducible apply i_rEqB)
  | (with_reducible apply i_rNeB)
  | (with_reducible apply i_rIsN)
  | (with_reducible apply i_rNotN)
  | (with_reducible apply i_rInS)
  | (with_reducible apply i_rNotInS)
  | ((with_reducible apply i_catS); (case c => walk_at "side"))
  | (with_reducible apply i_tcb)
  | (with_reducible apply i_nil)
  | (with_reducible apply i_cons)
  | ((with_reducible apply i_lenS); (case c => walk_at "side"))
  | ((with_reducible apply i_lenL); assumption)
  | (with_reducible apply i_abs)
  | (with_reducible apply i_max2)
  | (with_reducible apply i_min2)
  | ((with_reducible apply i_strI); (case c => walk_at "side"))
  | (with_reducible apply i_intB)
  | (with_reducible apply i_test)
  | (with_reducible apply i_tB)
  | (with_reducible apply i_kB)
  | (with_reducible apply i_and)
  | (with_reducible apply i_or)
  | (with_reducible apply i_not)
  | (with_reducible apply i_if)
  | (with_reducible apply i_andV)
  | (with_reducible apply i_orV)
  | (with_reducible apply i_notV)
  | (with_reducible apply i_kAndV)
  | (with_reducible apply i_kOrV)
  | (with_reducible apply i_kNotV)
  | (with_reducible apply i_chain)
  | (with_reducible apply i_kChain)
  | (with_reducible apply i_drop)
  | (with_reducible apply i_ret)
  | (with_reducible apply i_retN)
  | (with_reducible apply i_ifS)
  | (with_reducible apply i_asg)
  | (with_reducible apply i_gName)
  | (with_reducible apply i_for)
  | (with_reducible apply i_lc)
  | (with_reducible apply i_iList)
  | (with_reducible apply i_iTup)
  | (with_reducible apply i_iStr)
  | (with_reducible apply i_kStrI)
  | (with_reducible apply i_lst)
  | (with_reducible apply i_tup)
  | (with_reducible apply i_call)
  | (with_reducible apply i_m1)
  | (with_reducible apply i_kStr)
  | (with_reducible apply i_bm)
  | (with_reducible apply i_bm0)
  | (with_reducible apply i_part)
  | (with_reducible apply i_kInt)
  | (with_reducible apply i_noPart)
  | (with_reducible apply i_sl)
  | (with_reducible apply i_range1)
  | (with_reducible apply i_range2)
  | ((with_reducible apply i_kRng1); (case c => walk_at "side"))
  | ((with_reducible apply i_kRng2); (case c => walk_at "side"))
  | (with_reducible apply i_gCons)
  | (with_reducible apply i_gNil)
  | (with_reducible apply i_gSub)
  | (with_reducible apply i_iZip)
  | (with_reducible apply i_yes)
  | (with_reducible apply i_ift)
  | (with_reducible apply i_iff)
  | (with_reducible apply i_nb))
local macro_rules | `(tactic| walk_at "go") => `(tactic| repeat (first | (with_reducible apply i_seq) | (with_reducible apply i_next) | walk_at "e"))
local macro_rules | `(tactic| walk_at "ge") => `(tactic| repeat walk_at "e")
local macro_rules | `(tactic| walk_at "sz") => `(tactic| first | decide | (rw [sizeLine_eq]; simp; done) | (rw [sizeLine_eq]; omega))
local macro_rules | `(tactic| walk_at "side") => `(tactic| (with_reducible exact WB.most_pos))
local macro_rules | `(tactic| walk_at "e") => `(tactic| first
  | ((with_reducible apply i_isT (b := true)); exact rfl)
  | ((with_reducible apply i_isT (b := false)); exact rfl)
  | (with_reducible apply i_fld)
  | ((with_reducible apply i_kFld); (case h => assumption); (case c1 => assumption); (case c2 => assumption); (case e => first | exact lk_number | exact lk_tail | exact lk_head | exact lk_load | exact lk_oneway | exact lk_points | exact lk_ties | exact lk_given))
  | (with_reducible apply i_sfld)
  | ((with_reducible apply i_kSFld); (case h => first | assumption | exact upd_same); (case c1 => assumption); (case c2 => assumption); (case e => exact Nat.le_of_ble_eq_true rfl))
  | (with_reducible apply i_methC)
  | (with_reducible apply i_make)
  | (with_reducible apply i_fldaug)
  | (with_reducible apply i_vals)
  | (with_reducible apply i_items)
  | (with_reducible apply i_dget)
  | (with_reducible apply i_dput)
  | (with_reducible apply i_din)
  | (with_reducible apply i_dnotin)
  | (with_reducible apply i_ddel)
  | (with_reducible apply i_dc)
  | (with_reducible apply i_enum)
  | (with_reducible apply i_ckw))
local macro_rules | `(tactic| walk_at "e") => `(tactic| first | (with_reducible apply i_con) | (with_reducible apply i_dyn) | (with_reducible apply i_makeS) | (with_reducible apply i_match))
section
variable {P : Program} {w : World} {K : PySem.W.Frag} {mg : Str → Option Value} {base : Heap}
def sp_need_names : Sp := fun vs H Q _ => ∃ (p : Addr) (z : Str) (ws : List Str), vs = [.ref p, .int (ws.length : Nat)] ∧ H p = some (.lst ((z :: ws).map V.str)) ∧ ws.length ≤ 3 ∧ z.length ≤ 1000 ∧ (∀ y ∈ ws, isNm y = true ∧ y.length ≤ 1000) ∧ ∀ H', Same H H' → Q .non H'
theorem ok_need_names (T : Tx K mg) : FnOk P w K mg base CX0 3 (He.ga K "_need_names") T.fd_need_names ["words", "many"] sp_need_names := by
  refine T.F_need_names.ok sc_need_names (fun vs H Q E h => ?_) (fun cdv A outer s H vs Q E hr h => ?_)
  · obtain ⟨_, _, _, rfl, _⟩ := h
    rfl
  · obtain ⟨p, z, ws, rfl, hp, m3, hlz, hl, q⟩ := h
    have hu := hu_of hr
    refine ⟨_, PSs.nox (pss_cons (ps_set (i := 2) sc_need_names.nd rfl (Or.inl rfl) (pe_callB x_lenS (by rfl) T.b_len (by decide +kernel) (pa_cons (pe_ix ix_list (pv 0) pe_int (fun _ _ => rfl)) pa_nil)))
      (pss_cons (ps_for PassesOwn.never rfl (pi_enum (by rfl) T.b_enumerate (pa_cons (pe_slice sl_list (pv 0) (po_some pe_int) po_none) pa_nil)) (pg_tup rfl (pgs_cons (pg_name (i := 3) sc_need_names.nd rfl (Or.inl rfl)) (pgs_cons (pg_name (i := 4) sc_need_names.nd rfl (Or.inl rfl)) pgs_nil)))
      (pss_cons (ps_if (PW.pt (pw_or (pt_cmpR op_ge (pv 3) (pv 1) (nomark _)) (pw_or1 (pt_not (pt_val (pe_call (ok_is_name T) (hr.mono (by decide)) (by rfl) T.g_is_name T.F_is_name.kp T.k_is_name .nil pass0 (pa_cons (pv 4) pa_nil))))))) (pss_one ps_never) pss_nil)
      (pss_one (ps_aug (i := 2) sc_need_names.nd rfl (Or.inl rfl) (pe_op op_add pe_int (pe_callB x_lenS (by rfl) T.b_len (by decide +kernel) (pa_cons (pv 4) pa_nil))) ip_add))))
      (pss_one (ps_if (pt_cmpR op_le (pe_callB x_lenL (by rfl) T.b_len (by decide +kernel) (pa_cons (pv 0) pa_nil)) (pv 1) (nomark _)) (pss_one ps_never) pss_nil)))), ?_⟩
    walk_at "go"
    refine i_ixL (SqL.of hp) (atI_nat (j := 0) rfl) ?_
    walk_at "go"
    refine i_slL (SqL.of hp) fun p2 hp2 => ?_
    rw [cut_post V.str (z :: ws) (by decide)]
    have s1 : Same H (upd H p2 (.lst (((z :: ws).drop (1 : Int).toNat).map V.str))) := Same.new hp2
    have e1 : (upd H p2 (.lst (((z :: ws).drop (1 : Int).toNat).map V.str))) p2 = some (.lst (ws.map V.str)) := upd_same
    generalize upd H p2 (.lst (((z :: ws).drop (1 : Int).toNat).map V.str)) = H1 at s1 e1 ⊢
    walk_at "go"
    refine i_kEnum (SqL.of e1) ?_
    refine for_it walk_enum (fun i σ H' => Same H1 H' ∧ ∃ pl : Int, ∃ v3 v4, σ = [some (.ref p), some (.int (ws.length : Nat)), some (.int pl), v3, v4])
      ⟨Same.refl _, (z.length : Int), none, none, rfl⟩ (fun i σ H' _ h => SqL.of (h.1 _ _ e1)) ?_ ?_
    · rintro i v σ H2 H3 hi ⟨s2, pl, v3, v4, rfl⟩ ⟨T0, u1, u2, rfl, hT, rfl, hu1, hu2⟩
      rw [List.length_map] at hi
      have hu1 : some (V.int ((i : Nat) : Int)) = some u1 := hu1
      have hu2 : (ws.map V.str)[i]? = some u2 := hu2
      rw [List.getElem?_map, List.getElem?_eq_getElem hi] at hu2
      cases hu1; cases hu2
      have hly := hl ws[i] (List.getElem_mem hi)
      generalize ws[i] = y at hly ⊢
      have sT : Same H2 (upd H2 T0 (.tup [.int (i : Nat), .str y])) := Same.new hT
      walk_at "go"
      refine i_gTup (SqT.of upd_same) rfl ?_
      generalize upd H2 T0 (.tup [.int (i : Nat), .str y]) = H3 at sT ⊢
      walk_at "go"
      refine i_dec (fun c => by omega) (fun c => ?_)
      walk_at "go"
      refine ⟨y, rfl, hly.2, ?_⟩
      rw [hly.1]
      walk_at "go"
      refine ⟨.int pl, rfl, ?_⟩
      walk_at "go"
      refine ⟨pl, _, rfl, rfl, ?_⟩
      exact ⟨s2.trans sT, _, _, _, rfl⟩
    · rintro σ H2 ⟨s2, pl, v3, v4, rfl⟩
      have s12 := s1.trans s2
      walk_at "go"
      refine i_lenL (SqL.of (s12 _ _ hp)) ?_
      rw [List.length_map, List.length_cons]
      walk_at "go"
      refine i_dec (fun c => by omega) (fun c => ?_)
      walk_at "go"
      exact q H2 s12
def sp_question_of (K : PySem.W.Frag) : Sp := fun vs H Q _ => ∃ (t z : Str) (ws : List Str) (m : Nat), vs = [.str t] ∧ t.length ≤ 500 ∧ Txt.split t " " = z :: ws ∧ manyA z = some m ∧ ws.length = m ∧ (∀ y ∈ ws, isNm y = true) ∧
  ∀ a C H', Same H H' → H a = none → QAt K H' a C z ws → Q (.ref a) H'
theorem ok_question_of (T : Tx K mg) (J : Js P w K mg base) (xk : extra K = true) : FnOk P w K mg base CX0 4 (He.ga K "question_of") T.fd_question_of ["text"] (sp_question_of K) := by
  refine T.F_question_of.ok sc_question_of (fun vs H Q E h => ?_) (fun cdv A outer s H vs Q E hr h => ?_)
  · obtain ⟨_, _, _, _, rfl, _⟩ := h
    rfl
  · obtain ⟨t, z, ws, m, rfl, ht, hsp, hm, hwm, hws, q⟩ := h
    have hu := hu_of hr
    refine ⟨_, PSs.nox (pss_cons (ps_if (pt_not (pt_val (pe_callB call_isi (by rfl) T.b_isinstance (by decide +kernel) (pa_cons (pv 0) (pa_cons (pe_bltn (v := .ty "str") rfl T.b_str (by decide +kernel) rfl) pa_nil))))) (pss_one ps_never) pss_nil)
      (pss_cons (ps_set (i := 1) sc_question_of.nd rfl (Or.inl rfl) (x_split (pv 0) pe_str))
      (pss_cons (ps_if (pt_cmpR (KDX.op_notInK J.kt.dict) (pe_ix ix_list (pv 1) pe_int (fun _ _ => rfl)) (pe_glob (v := .ref (He.ga K "NAMES_BEHIND")) rfl T.g_NAMES_BEHIND rfl) (by rfl)) (pss_one ps_never) pss_nil)
      (pss_cons (ps_expr (pe_call (ok_need_names T) (hr.mono (by decide)) (by rfl) T.g_need_names T.F_need_names.kp T.k_need_names .nil pass0 (pa_cons (pv 1) (pa_cons (pe_ix (KDX.ix_atK (d := He.ga K "NAMES_BEHIND")) (pe_glob (v := .ref (He.ga K "NAMES_BEHIND")) rfl T.g_NAMES_BEHIND rfl) (pe_ix ix_list (pv 1) pe_int (fun _ _ => rfl)) (fun _ _ => rfl)) pa_nil))))
      (pss_one (ps_ret (pe_call (ok_question T xk) (hr.mono (by decide)) (by rfl) T.g_question T.F_question.kp T.k_question .nil pass0 (pa_cons (pe_ix ix_list (pv 1) pe_int (fun _ _ => rfl)) (pa_cons (pe_slice sl_list (pv 1) (po_some pe_int) po_none) pa_nil))))))))), ?_⟩
    walk_at "go"
    refine i_split (fun p hp => ?_) (by decide +kernel) (by rw [sizeLine_eq]; omega)
    have s1 : Same H (upd H p (.lst ((Txt.split t " ").map V.str))) := Same.new hp
    have e1 : (upd H p (.lst ((Txt.split t " ").map V.str))) p = some (.lst ((Txt.split t " ").map V.str)) := upd_same
    generalize upd H p (.lst ((Txt.split t " ").map V.str)) = H1 at s1 e1 ⊢
    have hly : ∀ y ∈ Txt.split t " ", y.length ≤ 1000 := fun y hy => by have := split_len hy; omega
    rw [hsp] at e1 hly
    have kt := J.kt
    walk_at "go"
    refine i_ixL (SqL.of e1) (atI_nat (j := 0) rfl) ?_
    walk_at "go"
    refine i_notInK kt ?_
    rw [kv_in, hm]
    show kB _ (.bl false) _
    walk_at "go"
    refine i_ixL (SqL.of e1) (atI_nat (j := 0) rfl) ?_
    walk_at "go"
    refine i_atK kt (kv_mem hm) ?_
    walk_at "go"
    subst hwm
    refine ⟨p, z, ws, rfl, e1, many_le hm, hly z (by simp), fun y hy => ⟨hws y hy, hly y (List.mem_cons_of_mem _ hy)⟩, fun H2 s2 => ?_⟩
    have e2 := s2 _ _ e1
    have s12 := s1.trans s2
    walk_at "go"
    refine i_ixL (SqL.of e2) (atI_nat (j := 0) rfl) ?_
    walk_at "go"
    refine i_slL (SqL.of e2) fun p2 hp2 => ?_
    rw [cut_post V.str (z :: ws) (by decide)]
    walk_at "go"
    refine ⟨z, p2, ws, _, rfl, upd_same, hm, rfl, fun a C H3 s3 ha hq => ?_⟩
    have sp2 : Same H2 (upd H2 p2 (.lst (((z :: ws).drop (1 : Int).toNat).map V.str))) := Same.new hp2
    exact q a C H3 ((s12.trans sp2).trans s3) ((s12.trans sp2).free ha) hq
end
end K25

set_option Elab.async false
set_option linter.all false
set_option maxRecDepth 100000
set_option maxHeartbeats 4000000
namespace K25
open PySem PySem.Spec PyProof.Rows L2 HX WB
local macro_rules | `(tactic| walk_at "side") => `(tactic| first
  | assumption
  | rfl
  | (show (0 : Int) < _; omega)
  | (unfold CDiv; omega)
  | (unfold CMul; omega)
  | (unfold CPow; omega)
  | (rw [sizeLine_eq]; omega)
  | omega)
local macro_rules | `(tactic| walk_at "e") => `(tactic| first
  | ((with_reducible apply i_var); exact rfl)
  | (with_reducible apply i_c)
  | (with_reducible apply i_op)
  | (with_reducible apply i_un)
  | (with_reducible apply i_rI0)
  | ((with_reducible apply i_rI); (case c => walk_at "side"))
  | (with_reducible apply i_rGe)
  | (with_reducible apply i_rGt)
  | (with_reducible apply i_rU)
  | (with_reducible apply i_rEqI)
  | (with_reducible apply i_rNeI)
  | (with_reducible apply i_rEqS)
  | (with_reducible apply i_rNeS)
  | (with_reducible apply i_rEqB)
  | (with_reducible apply i_rNeB)
  | (with_reducible apply i_rIsN)
  | (with_reducible apply i_rNotN)
  | (with_reducible apply i_rInS)
  | (with_reducible apply i_rNotInS)
  | ((with_reducible apply i_catS); (case c => walk_at "side"))
  | (with_reducible apply i_tcb)
  | (with_reducible apply i_nil)
  | (with_reducible apply i_cons)
  | ((with_reducible apply i_lenS); (case c => walk_at "side"))
  | ((with_reducible apply i_lenL); assumption)
  | (with_reducible apply i_abs)
  | (with_reducible apply i_max2)
  | (with_reducible apply i_min2)
  | ((with_reducible apply i_strI); (case c => walk_at "side"))
  | (with_reducible apply i_intB)
  | (with_reducible apply i_test)
  | (with_reducible apply i_tB)
  | (with_reducible apply i_kB)
  | (with_reducible apply i_and)
  | (with_reducible apply i_or)
  | (with_reducible apply i_not)
  | (with_reducible apply i_if)
  | (with_reducible apply i_andV)
  | (with_reducible apply i_orV)
  | (with_reducible apply i_notV)
  | (with_reducible apply i_kAndV)
  | (with_reducible apply i_kOrV)
  | (with_reducible apply i_kNotV)
  | (with_reducible apply i_chain)
  | (with_reducible apply i_kChain)
  | (with_reducible apply i_drop)
  | (with_reducible apply i_ret)
  | (with_reducible apply i_retN)
  | (with_reducible apply i_ifS)
  | (with_reducible apply i_asg)
  | (with_reducible apply i_gName)
  | (with_reducible apply i_for)
  | (with_reducible apply i_lc)
  | (with_reducible apply i_iList)
  | (with_reducible apply i_iTup)
  | (with_reducible apply i_iStr)
  | (with_reducible apply i_kStrI)
  | (with_reducible apply i_lst)
  | (with_reducible apply i_tup)
  | (with_reducible apply i_call)
  | (with_reducible apply i_m1)
  | (with_reducible apply i_kStr)
  | (with_reducible apply i_bm)
  | (with_reducible apply i_bm0)
  | (with_reducible apply i_part)
  | (with_reducible apply i_kInt)
  | (with_reducible apply i_noPart)
  | (with_reducible apply i_sl)
  | (with_reducible apply i_range1)
  | (with_reducible apply i_range2)
  | ((with_reducible apply i_kRng1); (case c => walk_at "side"))
  | ((with_reducible apply i_kRng2); (case c => walk_at "side"))
  | (with_reducible apply i_gCons)
  | (with_reducible apply i_gNil)
  | (with_reducible apply i_gSub)
  | (with_reducible apply i_iZip)
  | (with_reducible apply i_yes)
  | (with_reducible apply i_ift)
  | (with_reducible apply i_iff)
  | (with_reducible apply i_nb))
local macro_rules | `(tactic| walk_at "go") => `(tactic| repeat (first | (with_reducible apply i_seq) | (with_reducible apply i_next) | walk_at "e"))
local macro_rules | `(tactic| walk_at "ge") => `(tactic| repeat walk_at "e")
local macro_rules | `(tactic| walk_at "sz") => `(tactic| first | decide | (rw [sizeLine_eq]; simp; done) | (rw [sizeLine_eq]; omega))
local macro_rules | `(tactic| walk_at "side") => `(tactic| (with_reducible exact WB.most_pos))
local macro_rules | `(tactic| walk_at "e") => `(tactic| first
  | ((with_reducible apply i_isT (b := true)); exact rfl)
  | ((with_reducible apply i_isT (b := false)); exact rfl)
  | (with_reducible apply i_fld)
  | ((with_reducible apply i_kFld); (case h => assumption); (case c1 => assumption); (case c2 => assumption); (case e => first | exact lk_number | exact lk_tail | exact lk_head | exact lk_load | exact lk_oneway | exact lk_points | exact lk_ties | exact lk_given))
  | (with_reducible apply i_sfld)
  | ((with_reducible apply i_kSFld); (case h => first | assumption | exact upd_same); (case c1 => assumption); (case c2 => assumption); (case e => exact Nat.le_of_ble_eq_true rfl))
  | (with_reducible apply i_methC)
  | (with_reducible apply i_make)
  | (with_reducible apply i_fldaug)
  | (with_reducible apply i_vals)
  | (with_reducible apply i_items)
  | (with_reducible apply i_dget)
  | (with_reducible apply i_dput)
  | (with_reducible apply i_din)
  | (with_reducible apply i_dnotin)
  | (with_reducible apply i_ddel)
  | (with_reducible apply i_dc)
  | (with_reducible apply i_enum)
  | (with_reducible apply i_ckw))
local macro_rules | `(tactic| walk_at "e") => `(tactic| first | (with_reducible apply i_con) | (with_reducible apply i_dyn) | (with_reducible apply i_makeS) | (with_reducible apply i_match))
theorem i_isQ {K : PySem.W.Frag} {H : Hp} {Q : VK} {a : Addr} {C z y : Str} {b : Bool} (g : ggB K = true) (i : QI K H a C z) (hy : isTo K C y b = true) (q : Q (.bl b) H) : rIsi K [.ref a, .ref (He.ga K y)] H Q := by
  obtain ⟨dx, fs, e, _⟩ := i.ins
  have h1 := i.isq
  unfold isqB isA at h1
  unfold ggB at g
  unfold isTo at hy
  simp only [Bool.and_eq_true, decide_eq_true_eq] at h1 g hy
  exact ⟨_, _, _, _, _, rfl, .own _, .base (.ins e i.cl h1.1.1 g.1 g.2 h1.1.2), hy, q⟩
theorem to_one {K : PySem.W.Frag} {C y : Str} (h : isqB K C = true) (hy : y ∈ cls) : isTo K C y (decide (y = C)) = true := by
  unfold isqB at h
  simp only [Bool.and_eq_true] at h
  exact List.all_eq_true.mp h.2.2 y hy
theorem to_q {K : PySem.W.Frag} {C : Str} (h : isqB K C = true) : isTo K C "Question" true = true := by
  unfold isqB at h
  simp only [Bool.and_eq_true] at h
  exact h.2.1
structure WdL (H : Hp) (D : Str) (l : Addr) (ws : List (Str × Str)) : Prop where
  ex : ∃ as : List Addr, H l = some (.lst (as.map V.ref)) ∧ Two (fun a (w : Str × Str) => H a = some (.tup [.str w.1, .bl (decide (w.2 = D))])) as ws
theorem WdL.same {H H' : Hp} {D : Str} {l : Addr} {ws : List (Str × Str)} (h : WdL H D l ws) (m : Same H H') : WdL H' D l ws := by
  obtain ⟨as, e, t⟩ := h.ex
  exact ⟨as, m _ _ e, Two.mono t fun _ _ e => m _ _ e⟩
theorem WdL.cat {H : Hp} {D : Str} {l b : Addr} {ws us : List (Str × Str)} {Q : VK} (h : WdL H D l ws) (g : WdL H D b us) (c : ws.length + us.length ≤ 100)
    (q : ∀ p, H p = none → ∀ H', Same H H' → WdL H' D p (ws ++ us) → Q (.ref p) H') : rCat (.ref l) (.ref b) H Q := by
  obtain ⟨as, e, t⟩ := h.ex
  obtain ⟨bs, e2, t2⟩ := g.ex
  have l1 := Two.len t
  have l2 := Two.len t2
  refine i_cat e e2 (by rw [List.length_map, List.length_map, sizeLine_eq]; omega) fun p hp => ?_
  have s : Same H (upd H p (.lst (as.map V.ref ++ bs.map V.ref))) := Same.new hp
  exact q p hp _ s ⟨as ++ bs, by rw [upd_same, List.map_append], Two.app (Two.mono t fun _ _ e => s _ _ e) (Two.mono t2 fun _ _ e => s _ _ e)⟩
def wsE : List (Str × Str) := [("together", "HangsTogether"), ("comes", "ComesThere"), ("must", "MustTies"), ("points", "MustPoints"), ("ring", "RingThrough"), ("least", "LeastWay"), ("fewest", "FewestTies"), ("apart", "WaysApart"), ("past", "PastPoint"), ("pieces", "ThePieces"), ("knots", "TheKnots"), ("sides", "TwoSides"), ("lightest", "LightestForest"), ("starts", "TheStarts"), ("leaves", "TheLeaves")]
section
variable {P : Program} {w : World} {K : PySem.W.Frag} {mg : Str → Option Value} {base : Heap}
def sp_kinds (K : PySem.W.Frag) : Sp := fun vs H Q _ => ∃ a C z ns, vs = [.ref a] ∧ QAt K H a C z ns ∧ ggB K = true ∧ ∀ p H', Same H H' → H p = none → H' p = some (.lst ([z].map V.str)) → Q (.ref p) H'
theorem ok_law_kinds (T : Tx K mg) : FnOk P w K mg base CX0 1 (He.ga K "_law_kinds") T.fd_law_kinds ["_law_found"] (sp_kinds K) := by
  refine T.F_law_kinds.ok sc_law_kinds (fun vs H Q E h => ?_) (fun cdv A outer s H vs Q E hr h => ?_)
  · obtain ⟨_, _, _, _, rfl, _⟩ := h
    rfl
  · obtain ⟨a, D, z, ns, rfl, hq, gg, q⟩ := h
    have tb := hq.info.tab
    have isq := hq.info.isq
    refine ⟨_, PSs.nox (pss_cons (ps_set (i := 1) sc_law_kinds.nd rfl (Or.inl rfl) (pe_lst (pa_cons (pe_tup (pa_cons pe_str (pa_cons (pe_callB call_isi (by rfl) T.b_isinstance (by decide +kernel) (pa_cons (pv 0) (pa_cons (pe_glob (v := .ref (He.ga K "HangsTogether")) rfl T.g_HangsTogether rfl) pa_nil))) pa_nil))) (pa_cons (pe_tup (pa_cons pe_str (pa_cons (pe_callB call_isi (by rfl) T.b_isinstance (by decide +kernel) (pa_cons (pv 0) (pa_cons (pe_glob (v := .ref (He.ga K "ComesThere")) rfl T.g_ComesThere rfl) pa_nil))) pa_nil))) pa_nil))))
      (pss_cons (ps_set (i := 1) sc_law_kinds.nd rfl (Or.inl rfl) (pe_op op_cat (pv 1) (pe_lst (pa_cons (pe_tup (pa_cons pe_str (pa_cons (pe_callB call_isi (by rfl) T.b_isinstance (by decide +kernel) (pa_cons (pv 0) (pa_cons (pe_glob (v := .ref (He.ga K "MustTies")) rfl T.g_MustTies rfl) pa_nil))) pa_nil))) (pa_cons (pe_tup (pa_cons pe_str (pa_cons (pe_callB call_isi (by rfl) T.b_isinstance (by decide +kernel) (pa_cons (pv 0) (pa_cons (pe_glob (v := .ref (He.ga K "MustPoints")) rfl T.g_MustPoints rfl) pa_nil))) pa_nil))) pa_nil)))))
      (pss_cons (ps_set (i := 1) sc_law_kinds.nd rfl (Or.inl rfl) (pe_op op_cat (pv 1) (pe_lst (pa_cons (pe_tup (pa_cons pe_str (pa_cons (pe_callB call_isi (by rfl) T.b_isinstance (by decide +kernel) (pa_cons (pv 0) (pa_cons (pe_glob (v := .ref (He.ga K "RingThrough")) rfl T.g_RingThrough rfl) pa_nil))) pa_nil))) (pa_cons (pe_tup (pa_cons pe_str (pa_cons (pe_callB call_isi (by rfl) T.b_isinstance (by decide +kernel) (pa_cons (pv 0) (pa_cons (pe_glob (v := .ref (He.ga K "LeastWay")) rfl T.g_LeastWay rfl) pa_nil))) pa_nil))) pa_nil)))))
      (pss_cons (ps_set (i := 1) sc_law_kinds.nd rfl (Or.inl rfl) (pe_op op_cat (pv 1) (pe_lst (pa_cons (pe_tup (pa_cons pe_str (pa_cons (pe_callB call_isi (by rfl) T.b_isinstance (by decide +kernel) (pa_cons (pv 0) (pa_cons (pe_glob (v := .ref (He.ga K "FewestTies")) rfl T.g_FewestTies rfl) pa_nil))) pa_nil))) (pa_cons (pe_tup (pa_cons pe_str (pa_cons (pe_callB call_isi (by rfl) T.b_isinstance (by decide +kernel) (pa_cons (pv 0) (pa_cons (pe_glob (v := .ref (He.ga K "WaysApart")) rfl T.g_WaysApart rfl) pa_nil))) pa_nil))) pa_nil)))))
      (pss_cons (ps_set (i := 1) sc_law_kinds.nd rfl (Or.inl rfl) (pe_op op_cat (pv 1) (pe_lst (pa_cons (pe_tup (pa_cons pe_str (pa_cons (pe_callB call_isi (by rfl) T.b_isinstance (by decide +kernel) (pa_cons (pv 0) (pa_cons (pe_glob (v := .ref (He.ga K "PastPoint")) rfl T.g_PastPoint rfl) pa_nil))) pa_nil))) (pa_cons (pe_tup (pa_cons pe_str (pa_cons (pe_callB call_isi (by rfl) T.b_isinstance (by decide +kernel) (pa_cons (pv 0) (pa_cons (pe_glob (v := .ref (He.ga K "ThePieces")) rfl T.g_ThePieces rfl) pa_nil))) pa_nil))) pa_nil)))))
      (pss_cons (ps_set (i := 1) sc_law_kinds.nd rfl (Or.inl rfl) (pe_op op_cat (pv 1) (pe_lst (pa_cons (pe_tup (pa_cons pe_str (pa_cons (pe_callB call_isi (by rfl) T.b_isinstance (by decide +kernel) (pa_cons (pv 0) (pa_cons (pe_glob (v := .ref (He.ga K "TheKnots")) rfl T.g_TheKnots rfl) pa_nil))) pa_nil))) (pa_cons (pe_tup (pa_cons pe_str (pa_cons (pe_callB call_isi (by rfl) T.b_isinstance (by decide +kernel) (pa_cons (pv 0) (pa_cons (pe_glob (v := .ref (He.ga K "TwoSides")) rfl T.g_TwoSides rfl) pa_nil))) pa_nil))) pa_nil)))))
      (pss_cons (ps_set (i := 1) sc_law_kinds.nd rfl (Or.inl rfl) (pe_op op_cat (pv 1) (pe_lst (pa_cons (pe_tup (pa_cons pe_str (pa_cons (pe_callB call_isi (by rfl) T.b_isinstance (by decide +kernel) (pa_cons (pv 0) (pa_cons (pe_glob (v := .ref (He.ga K "LightestForest")) rfl T.g_LightestForest rfl) pa_nil))) pa_nil))) (pa_cons (pe_tup (pa_cons pe_str (pa_cons (pe_callB call_isi (by rfl) T.b_isinstance (by decide +kernel) (pa_cons (pv 0) (pa_cons (pe_glob (v := .ref (He.ga K "TheStarts")) rfl T.g_TheStarts rfl) pa_nil))) pa_nil))) pa_nil)))))
      (pss_cons (ps_expr (pe_bm PySem.F.plainAttrs_list PySem.F.slot_list_append PySem.F.type_list_append mt_append (pv 1) (pa_cons (pe_tup (pa_cons pe_str (pa_cons (pe_callB call_isi (by rfl) T.b_isinstance (by decide +kernel) (pa_cons (pv 0) (pa_cons (pe_glob (v := .ref (He.ga K "TheLeaves")) rfl T.g_TheLeaves rfl) pa_nil))) pa_nil))) pa_nil)))
      (pss_one (ps_ret (pe_lc (own := [("_law_word", 2), ("_law_is_so", 3)]) (by rfl) sc_law_kinds.nd (pi_list (pv 1)) (blkOk_by (own := [("_law_word", 2), ("_law_is_so", 3)]) (N := N_law_kinds) (sc := defScope s_law_kinds) (by decide +kernel)) (fun _ _ _ _ _ => (pg_tupK (n := 2) K rfl rfl (pgs_cons (pg_name (i := 2) sc_law_kinds.nd rfl (Or.inl rfl)) (pgs_cons (pg_name (i := 3) sc_law_kinds.nd rfl (Or.inl rfl)) pgs_nil)))) (fun _ _ _ _ _ => (pts_one (pt_val (pv 3)))) (fun _ _ _ _ _ => (pv 2))))))))))))), ?_⟩
    obtain ⟨G0, hG0⟩ : ∃ G0 : Hp, G0 = H := ⟨_, rfl⟩
    have sa : Same H G0 := by rw [hG0]; exact Same.refl H
    rw [← hG0] at hq ⊢
    walk_at "go"
    refine i_isQ gg hq.info (to_one isq (y := "HangsTogether") (by decide +kernel)) ?_
    walk_at "go"
    refine ⟨by walk_at "sz", fun t1 ht1 => ?_⟩
    have s1 : Same G0 (upd G0 t1 (.tup [.str "together", .bl (decide (("HangsTogether" : Str) = D))])) := Same.new ht1
    have e1 : (upd G0 t1 (.tup [.str "together", .bl (decide (("HangsTogether" : Str) = D))])) t1 = some (.tup [.str "together", .bl (decide (("HangsTogether" : Str) = D))]) := upd_same
    generalize upd G0 t1 (.tup [.str "together", .bl (decide (("HangsTogether" : Str) = D))]) = G1 at s1 e1 ⊢
    have hq := hq.same s1
    have sa := sa.trans s1
    walk_at "go"
    refine i_isQ gg hq.info (to_one isq (y := "ComesThere") (by decide +kernel)) ?_
    walk_at "go"
    refine ⟨by walk_at "sz", fun t2 ht2 => ?_⟩
    have s2 : Same G1 (upd G1 t2 (.tup [.str "comes", .bl (decide (("ComesThere" : Str) = D))])) := Same.new ht2
    have e2 : (upd G1 t2 (.tup [.str "comes", .bl (decide (("ComesThere" : Str) = D))])) t2 = some (.tup [.str "comes", .bl (decide (("ComesThere" : Str) = D))]) := upd_same
    generalize upd G1 t2 (.tup [.str "comes", .bl (decide (("ComesThere" : Str) = D))]) = G2 at s2 e2 ⊢
    have e1 := s2 _ _ e1
    have hq := hq.same s2
    have sa := sa.trans s2
    walk_at "go"
    refine ⟨by walk_at "sz", fun l3 hl3 => ?_⟩
    have s3 : Same G2 (upd G2 l3 (.lst [.ref t1, .ref t2])) := Same.new hl3
    have nw : WdL (upd G2 l3 (.lst [.ref t1, .ref t2])) D l3 [("together", "HangsTogether"), ("comes", "ComesThere")] := ⟨[t1, t2], upd_same, .cons (s3 _ _ e1) (.cons (s3 _ _ e2) .nil)⟩
    have fr3 := sa.free hl3
    generalize upd G2 l3 (.lst [.ref t1, .ref t2]) = G3 at s3 nw ⊢
    have hq := hq.same s3
    have sa := sa.trans s3
    have wd := nw
    walk_at "go"
    refine i_isQ gg hq.info (to_one isq (y := "MustTies") (by decide +kernel)) ?_
    walk_at "go"
    refine ⟨by walk_at "sz", fun t4 ht4 => ?_⟩
    have s4 : Same G3 (upd G3 t4 (.tup [.str "must", .bl (decide (("MustTies" : Str) = D))])) := Same.new ht4
    have e4 : (upd G3 t4 (.tup [.str "must", .bl (decide (("MustTies" : Str) = D))])) t4 = some (.tup [.str "must", .bl (decide (("MustTies" : Str) = D))]) := upd_same
    generalize upd G3 t4 (.tup [.str "must", .bl (decide (("MustTies" : Str) = D))]) = G4 at s4 e4 ⊢
    have wd := wd.same s4
    have hq := hq.same s4
    have sa := sa.trans s4
    walk_at "go"
    refine i_isQ gg hq.info (to_one isq (y := "MustPoints") (by decide +kernel)) ?_
    walk_at "go"
    refine ⟨by walk_at "sz", fun t5 ht5 => ?_⟩
    have s5 : Same G4 (upd G4 t5 (.tup [.str "points", .bl (decide (("MustPoints" : Str) = D))])) := Same.new ht5
    have e5 : (upd G4 t5 (.tup [.str "points", .bl (decide (("MustPoints" : Str) = D))])) t5 = some (.tup [.str "points", .bl (decide (("MustPoints" : Str) = D))]) := upd_same
    generalize upd G4 t5 (.tup [.str "points", .bl (decide (("MustPoints" : Str) = D))]) = G5 at s5 e5 ⊢
    have e4 := s5 _ _ e4
    have wd := wd.same s5
    have hq := hq.same s5
    have sa := sa.trans s5
    walk_at "go"
    refine ⟨by walk_at "sz", fun l6 hl6 => ?_⟩
    have s6 : Same G5 (upd G5 l6 (.lst [.ref t4, .ref t5])) := Same.new hl6
    have nw : WdL (upd G5 l6 (.lst [.ref t4, .ref t5])) D l6 [("must", "MustTies"), ("points", "MustPoints")] := ⟨[t4, t5], upd_same, .cons (s6 _ _ e4) (.cons (s6 _ _ e5) .nil)⟩
    have fr6 := sa.free hl6
    generalize upd G5 l6 (.lst [.ref t4, .ref t5]) = G6 at s6 nw ⊢
    have wd := wd.same s6
    have hq := hq.same s6
    have sa := sa.trans s6
    walk_at "go"
    refine wd.cat nw (by decide) fun l7 hl7 G7 s7 nw2 => ?_
    have fr := sa.free hl7
    have wd := nw2
    have hq := hq.same s7
    have sa := sa.trans s7
    walk_at "go"
    refine i_isQ gg hq.info (to_one isq (y := "RingThrough") (by decide +kernel)) ?_
    walk_at "go"
    refine ⟨by walk_at "sz", fun t8 ht8 => ?_⟩
    have s8 : Same G7 (upd G7 t8 (.tup [.str "ring", .bl (decide (("RingThrough" : Str) = D))])) := Same.new ht8
    have e8 : (upd G7 t8 (.tup [.str "ring", .bl (decide (("RingThrough" : Str) = D))])) t8 = some (.tup [.str "ring", .bl (decide (("RingThrough" : Str) = D))]) := upd_same
    generalize upd G7 t8 (.tup [.str "ring", .bl (decide (("RingThrough" : Str) = D))]) = G8 at s8 e8 ⊢
    have wd := wd.same s8
    have hq := hq.same s8
    have sa := sa.trans s8
    walk_at "go"
    refine i_isQ gg hq.info (to_one isq (y := "LeastWay") (by decide +kernel)) ?_
    walk_at "go"
    refine ⟨by walk_at "sz", fun t9 ht9 => ?_⟩
    have s9 : Same G8 (upd G8 t9 (.tup [.str "least", .bl (decide (("LeastWay" : Str) = D))])) := Same.new ht9
    have e9 : (upd G8 t9 (.tup [.str "least", .bl (decide (("LeastWay" : Str) = D))])) t9 = some (.tup [.str "least", .bl (decide (("LeastWay" : Str) = D))]) := upd_same
    generalize upd G8 t9 (.tup [.str "least", .bl (decide (("LeastWay" : Str) = D))]) = G9 at s9 e9 ⊢
    have e8 := s9 _ _ e8
    have wd := wd.same s9
    have hq := hq.same s9
    have sa := sa.trans s9
    walk_at "go"
    refine ⟨by walk_at "sz", fun l10 hl10 => ?_⟩
    have s10 : Same G9 (upd G9 l10 (.lst [.ref t8, .ref t9])) := Same.new hl10
    have nw : WdL (upd G9 l10 (.lst [.ref t8, .ref t9])) D l10 [("ring", "RingThrough"), ("least", "LeastWay")] := ⟨[t8, t9], upd_same, .cons (s10 _ _ e8) (.cons (s10 _ _ e9) .nil)⟩
    have fr10 := sa.free hl10
    generalize upd G9 l10 (.lst [.ref t8, .ref t9]) = G10 at s10 nw ⊢
    have wd := wd.same s10
    have hq := hq.same s10
    have sa := sa.trans s10
    walk_at "go"
    refine wd.cat nw (by decide) fun l11 hl11 G11 s11 nw2 => ?_
    have fr := sa.free hl11
    have wd := nw2
    have hq := hq.same s11
    have sa := sa.trans s11
    walk_at "go"
    refine i_isQ gg hq.info (to_one isq (y := "FewestTies") (by decide +kernel)) ?_
    walk_at "go"
    refine ⟨by walk_at "sz", fun t12 ht12 => ?_⟩
    have s12 : Same G11 (upd G11 t12 (.tup [.str "fewest", .bl (decide (("FewestTies" : Str) = D))])) := Same.new ht12
    have e12 : (upd G11 t12 (.tup [.str "fewest", .bl (decide (("FewestTies" : Str) = D))])) t12 = some (.tup [.str "fewest", .bl (decide (("FewestTies" : Str) = D))]) := upd_same
    generalize upd G11 t12 (.tup [.str "fewest", .bl (decide (("FewestTies" : Str) = D))]) = G12 at s12 e12 ⊢
    have wd := wd.same s12
    have hq := hq.same s12
    have sa := sa.trans s12
    walk_at "go"
    refine i_isQ gg hq.info (to_one isq (y := "WaysApart") (by decide +kernel)) ?_
    walk_at "go"
    refine ⟨by walk_at "sz", fun t13 ht13 => ?_⟩
    have s13 : Same G12 (upd G12 t13 (.tup [.str "apart", .bl (decide (("WaysApart" : Str) = D))])) := Same.new ht13
    have e13 : (upd G12 t13 (.tup [.str "apart", .bl (decide (("WaysApart" : Str) = D))])) t13 = some (.tup [.str "apart", .bl (decide (("WaysApart" : Str) = D))]) := upd_same
    generalize upd G12 t13 (.tup [.str "apart", .bl (decide (("WaysApart" : Str) = D))]) = G13 at s13 e13 ⊢
    have e12 := s13 _ _ e12
    have wd := wd.same s13
    have hq := hq.same s13
    have sa := sa.trans s13
    walk_at "go"
    refine ⟨by walk_at "sz", fun l14 hl14 => ?_⟩
    have s14 : Same G13 (upd G13 l14 (.lst [.ref t12, .ref t13])) := Same.new hl14
    have nw : WdL (upd G13 l14 (.lst [.ref t12, .ref t13])) D l14 [("fewest", "FewestTies"), ("apart", "WaysApart")] := ⟨[t12, t13], upd_same, .cons (s14 _ _ e12) (.cons (s14 _ _ e13) .nil)⟩
    have fr14 := sa.free hl14
    generalize upd G13 l14 (.lst [.ref t12, .ref t13]) = G14 at s14 nw ⊢
    have wd := wd.same s14
    have hq := hq.same s14
    have sa := sa.trans s14
    walk_at "go"
    refine wd.cat nw (by decide) fun l15 hl15 G15 s15 nw2 => ?_
    have fr := sa.free hl15
    have wd := nw2
    have hq := hq.same s15
    have sa := sa.trans s15
    walk_at "go"
    refine i_isQ gg hq.info (to_one isq (y := "PastPoint") (by decide +kernel)) ?_
    walk_at "go"
    refine ⟨by walk_at "sz", fun t16 ht16 => ?_⟩
    have s16 : Same G15 (upd G15 t16 (.tup [.str "past", .bl (decide (("PastPoint" : Str) = D))])) := Same.new ht16
    have e16 : (upd G15 t16 (.tup [.str "past", .bl (decide (("PastPoint" : Str) = D))])) t16 = some (.tup [.str "past", .bl (decide (("PastPoint" : Str) = D))]) := upd_same
    generalize upd G15 t16 (.tup [.str "past", .bl (decide (("PastPoint" : Str) = D))]) = G16 at s16 e16 ⊢
    have wd := wd.same s16
    have hq := hq.same s16
    have sa := sa.trans s16
    walk_at "go"
    refine i_isQ gg hq.info (to_one isq (y := "ThePieces") (by decide +kernel)) ?_
    walk_at "go"
    refine ⟨by walk_at "sz", fun t17 ht17 => ?_⟩
    have s17 : Same G16 (upd G16 t17 (.tup [.str "pieces", .bl (decide (("ThePieces" : Str) = D))])) := Same.new ht17
    have e17 : (upd G16 t17 (.tup [.str "pieces", .bl (decide (("ThePieces" : Str) = D))])) t17 = some (.tup [.str "pieces", .bl (decide (("ThePieces" : Str) = D))]) := upd_same
    generalize upd G16 t17 (.tup [.str "pieces", .bl (decide (("ThePieces" : Str) = D))]) = G17 at s17 e17 ⊢
    have e16 := s17 _ _ e16
    have wd := wd.same s17
    have hq := hq.same s17
    have sa := sa.trans s17
    walk_at "go"
    refine ⟨by walk_at "sz", fun l18 hl18 => ?_⟩
    have s18 : Same G17 (upd G17 l18 (.lst [.ref t16, .ref t17])) := Same.new hl18
    have nw : WdL (upd G17 l18 (.lst [.ref t16, .ref t17])) D l18 [("past", "PastPoint"), ("pieces", "ThePieces")] := ⟨[t16, t17], upd_same, .cons (s18 _ _ e16) (.cons (s18 _ _ e17) .nil)⟩
    have fr18 := sa.free hl18
    generalize upd G17 l18 (.lst [.ref t16, .ref t17]) = G18 at s18 nw ⊢
    have wd := wd.same s18
    have hq := hq.same s18
    have sa := sa.trans s18
    walk_at "go"
    refine wd.cat nw (by decide) fun l19 hl19 G19 s19 nw2 => ?_
    have fr := sa.free hl19
    have wd := nw2
    have hq := hq.same s19
    have sa := sa.trans s19
    walk_at "go"
    refine i_isQ gg hq.info (to_one isq (y := "TheKnots") (by decide +kernel)) ?_
    walk_at "go"
    refine ⟨by walk_at "sz", fun t20 ht20 => ?_⟩
    have s20 : Same G19 (upd G19 t20 (.tup [.str "knots", .bl (decide (("TheKnots" : Str) = D))])) := Same.new ht20
    have e20 : (upd G19 t20 (.tup [.str "knots", .bl (decide (("TheKnots" : Str) = D))])) t20 = some (.tup [.str "knots", .bl (decide (("TheKnots" : Str) = D))]) := upd_same
    generalize upd G19 t20 (.tup [.str "knots", .bl (decide (("TheKnots" : Str) = D))]) = G20 at s20 e20 ⊢
    have wd := wd.same s20
    have hq := hq.same s20
    have sa := sa.trans s20
    walk_at "go"
    refine i_isQ gg hq.info (to_one isq (y := "TwoSides") (by decide +kernel)) ?_
    walk_at "go"
    refine ⟨by walk_at "sz", fun t21 ht21 => ?_⟩
    have s21 : Same G20 (upd G20 t21 (.tup [.str "sides", .bl (decide (("TwoSides" : Str) = D))])) := Same.new ht21
    have e21 : (upd G20 t21 (.tup [.str "sides", .bl (decide (("TwoSides" : Str) = D))])) t21 = some (.tup [.str "sides", .bl (decide (("TwoSides" : Str) = D))]) := upd_same
    generalize upd G20 t21 (.tup [.str "sides", .bl (decide (("TwoSides" : Str) = D))]) = G21 at s21 e21 ⊢
    have e20 := s21 _ _ e20
    have wd := wd.same s21
    have hq := hq.same s21
    have sa := sa.trans s21
    walk_at "go"
    refine ⟨by walk_at "sz", fun l22 hl22 => ?_⟩
    have s22 : Same G21 (upd G21 l22 (.lst [.ref t20, .ref t21])) := Same.new hl22
    have nw : WdL (upd G21 l22 (.lst [.ref t20, .ref t21])) D l22 [("knots", "TheKnots"), ("sides", "TwoSides")] := ⟨[t20, t21], upd_same, .cons (s22 _ _ e20) (.cons (s22 _ _ e21) .nil)⟩
    have fr22 := sa.free hl22
    generalize upd G21 l22 (.lst [.ref t20, .ref t21]) = G22 at s22 nw ⊢
    have wd := wd.same s22
    have hq := hq.same s22
    have sa := sa.trans s22
    walk_at "go"
    refine wd.cat nw (by decide) fun l23 hl23 G23 s23 nw2 => ?_
    have fr := sa.free hl23
    have wd := nw2
    have hq := hq.same s23
    have sa := sa.trans s23
    walk_at "go"
    refine i_isQ gg hq.info (to_one isq (y := "LightestForest") (by decide +kernel)) ?_
    walk_at "go"
    refine ⟨by walk_at "sz", fun t24 ht24 => ?_⟩
    have s24 : Same G23 (upd G23 t24 (.tup [.str "lightest", .bl (decide (("LightestForest" : Str) = D))])) := Same.new ht24
    have e24 : (upd G23 t24 (.tup [.str "lightest", .bl (decide (("LightestForest" : Str) = D))])) t24 = some (.tup [.str "lightest", .bl (decide (("LightestForest" : Str) = D))]) := upd_same
    generalize upd G23 t24 (.tup [.str "lightest", .bl (decide (("LightestForest" : Str) = D))]) = G24 at s24 e24 ⊢
    have wd := wd.same s24
    have hq := hq.same s24
    have sa := sa.trans s24
    walk_at "go"
    refine i_isQ gg hq.info (to_one isq (y := "TheStarts") (by decide +kernel)) ?_
    walk_at "go"
    refine ⟨by walk_at "sz", fun t25 ht25 => ?_⟩
    have s25 : Same G24 (upd G24 t25 (.tup [.str "starts", .bl (decide (("TheStarts" : Str) = D))])) := Same.new ht25
    have e25 : (upd G24 t25 (.tup [.str "starts", .bl (decide (("TheStarts" : Str) = D))])) t25 = some (.tup [.str "starts", .bl (decide (("TheStarts" : Str) = D))]) := upd_same
    generalize upd G24 t25 (.tup [.str "starts", .bl (decide (("TheStarts" : Str) = D))]) = G25 at s25 e25 ⊢
    have e24 := s25 _ _ e24
    have wd := wd.same s25
    have hq := hq.same s25
    have sa := sa.trans s25
    walk_at "go"
    refine ⟨by walk_at "sz", fun l26 hl26 => ?_⟩
    have s26 : Same G25 (upd G25 l26 (.lst [.ref t24, .ref t25])) := Same.new hl26
    have nw : WdL (upd G25 l26 (.lst [.ref t24, .ref t25])) D l26 [("lightest", "LightestForest"), ("starts", "TheStarts")] := ⟨[t24, t25], upd_same, .cons (s26 _ _ e24) (.cons (s26 _ _ e25) .nil)⟩
    have fr26 := sa.free hl26
    generalize upd G25 l26 (.lst [.ref t24, .ref t25]) = G26 at s26 nw ⊢
    have wd := wd.same s26
    have hq := hq.same s26
    have sa := sa.trans s26
    walk_at "go"
    refine wd.cat nw (by decide) fun l27 hl27 G27 s27 nw2 => ?_
    have fr := sa.free hl27
    have wd := nw2
    have hq := hq.same s27
    have sa := sa.trans s27
    walk_at "go"
    have wd : WdL G27 D l27 (wsE.take 14) := wd
    obtain ⟨as, el, tw⟩ := wd.ex
    have al := Two.len tw
    have al : as.length = 14 := al
    refine i_kTyL (SqL.of el) ?_
    walk_at "go"
    refine i_isQ gg hq.info (to_one isq (y := "TheLeaves") (by decide +kernel)) ?_
    walk_at "go"
    refine ⟨by walk_at "sz", fun t28 ht28 => ?_⟩
    have s28 : Same G27 (upd G27 t28 (.tup [.str "leaves", .bl (decide (("TheLeaves" : Str) = D))])) := Same.new ht28
    have e28 : (upd G27 t28 (.tup [.str "leaves", .bl (decide (("TheLeaves" : Str) = D))])) t28 = some (.tup [.str "leaves", .bl (decide (("TheLeaves" : Str) = D))]) := upd_same
    generalize upd G27 t28 (.tup [.str "leaves", .bl (decide (("TheLeaves" : Str) = D))]) = G28 at s28 e28 ⊢
    have wd := WdL.same wd s28
    have hq := hq.same s28
    have sa := sa.trans s28
    have el := s28 _ _ el
    have tw : Two (fun a (w : Str × Str) => G28 a = some (.tup [.str w.1, .bl (decide (w.2 = D))])) as (wsE.take 14) := Two.mono tw fun _ _ e => s28 _ _ e
    walk_at "go"
    refine i_append el ?_ (by rw [List.length_map, sizeLine_eq]; omega)
    have nl : ∀ {b : Addr} {o : HO}, G28 b = some o → (∀ xs, o ≠ .lst xs) → b ≠ l27 := fun {b o} eb no c => by
      rw [c, el] at eb
      exact no _ (Option.some.inj eb).symm
    have tw2 : Two (fun a (w : Str × Str) => (upd G28 l27 (.lst (as.map V.ref ++ [.ref t28]))) a = some (.tup [.str w.1, .bl (decide (w.2 = D))])) (as ++ [t28]) wsE :=
      Two.app (Two.mono tw fun _ _ e => (upd_ne (nl e fun xs c => by cases c)).trans e) (.cons ((upd_ne (nl e28 fun xs c => by cases c)).trans e28) .nil)
    have eL : (upd G28 l27 (.lst (as.map V.ref ++ [.ref t28]))) l27 = some (.lst ((as ++ [t28]).map V.ref)) := by rw [upd_same, List.map_append]; rfl
    have sa := Same.mut sa fr (o := .lst (as.map V.ref ++ [.ref t28]))
    generalize upd G28 l27 (.lst (as.map V.ref ++ [.ref t28])) = G31 at tw2 eL sa ⊢
    have al2 := Two.len tw2
    generalize as ++ [t28] = bs at tw2 eL al2
    walk_at "go"
    refine i_kListI (SqL.of eL) ?_
    intro LD hLD
    refine lc_it walk_list (fun i H' => Same G31 H' ∧ H' LD = some (.lst (((wsE.take i).filter fun w => decide (w.2 = D)).map fun w => V.str w.1)))
      ⟨Same.new hLD, by rw [upd_same]; rfl⟩ (fun i H' _ h => SqL.of (h.1 _ _ eL)) ?_ ?_
    · rintro i v H2 H3 hi ⟨s2, eD⟩ ⟨rfl, hv⟩
      rw [List.length_map] at hi
      rw [List.getElem?_map, List.getElem?_eq_getElem hi] at hv
      cases hv
      obtain ⟨⟨wd1, c1⟩, ew, et⟩ := Two.get tw2 (List.getElem?_eq_getElem hi)
      have tk : wsE.take (i + 1) = wsE.take i ++ [(wd1, c1)] := by rw [List.take_add_one, ew]; rfl
      have fl : ((wsE.take i).filter fun w => decide (w.2 = D)).length ≤ 16 := Nat.le_trans (List.length_filter_le _ _) (Nat.le_trans (List.length_take_le' _ _) (by decide))
      rw [tk, List.filter_append]
      generalize bs[i] = ai at et ⊢
      walk_at "go"
      refine i_gTup (SqT.of (s2 _ _ et)) rfl ?_
      walk_at "go"
      refine ⟨rfl, ?_⟩
      walk_at "go"
      refine i_dec (fun c => ?_) (fun c => ?_)
      · walk_at "go"
        refine ⟨_, eD, by rw [List.length_map, sizeLine_eq]; omega, Same.mut s2 hLD, ?_⟩
        rw [upd_same, List.map_append, List.filter_cons, if_pos (decide_eq_true c)]; rfl
      · walk_at "go"
        refine ⟨s2, ?_⟩
        rw [List.filter_cons, if_neg (by simpa using c), List.filter_nil, List.append_nil]
        exact eD
    · rintro H2 ⟨s2, eD⟩
      rw [List.length_map, al2, List.take_length] at eD
      have one : (wsE.filter fun w => decide (w.2 = D)) = [(z, D)] := by
        have all : ∀ p ∈ tab, (wsE.filter fun w => decide (w.2 = p.1)) = [(p.2, p.1)] := by decide +kernel
        exact all _ tb
      rw [one] at eD
      exact q LD H2 (sa.trans s2) (sa.free hLD) eD
end
end K25

set_option Elab.async false
set_option linter.all false
set_option maxRecDepth 100000
set_option maxHeartbeats 2000000
/-! KD: lists that are held against each other, deep. -/
namespace WB
open PySem PySem.Spec PyProof.Rows L2 HX
section
variable {K : PySem.W.Frag} {H : Hp} {Q : VK}
abbrev okS (z : Str) : Bool := PyData.strOk z
theorem dp_strs : ∀ ys : List Str, DpAll K H (ys.map V.str) (ys.map PyData.str)
  | [] => .nil
  | y :: r => .cons (.str y) (dp_strs r)
theorem depth_strs : ∀ ys : List Str, PyData.depthAll (ys.map PyData.str) = 0
  | [] => by simp [PyData.depthAll]
  | y :: r => by simp [PyData.depthAll, PyData.depth, depth_strs r]
theorem lay_strs : ∀ {ys : List Str}, (∀ y ∈ ys, okS y = true) → PyData.canLayAll0 (ys.map PyData.str) = true
  | [], _ => by simp [PyData.canLayAll0]
  | y :: r, h => by
    have h1 := h y (by simp)
    have h2 := lay_strs (ys := r) fun z hz => h z (by simp [hz])
    simp only [List.map_cons, PyData.canLayAll0, PyData.canLay0, h2, Bool.and_true]
    exact h1
theorem shaped_strs {ys : List Str} (h : ∀ y ∈ ys, okS y = true) : SeqAt.shaped (.list (ys.map PyData.str)) = true := by
  unfold SeqAt.shaped
  rw [PyData.canLay0, lay_strs h, PyData.depth, depth_strs]
  rfl
theorem dp_ints : ∀ ys : List Int, DpAll K H (ys.map V.int) (ys.map PyData.int)
  | [] => .nil
  | y :: r => .cons (.int y) (dp_ints r)
theorem depth_ints : ∀ ys : List Int, PyData.depthAll (ys.map PyData.int) = 0
  | [] => by simp [PyData.depthAll]
  | y :: r => by simp [PyData.depthAll, PyData.depth, depth_ints r]
theorem lay_ints : ∀ ys : List Int, PyData.canLayAll0 (ys.map PyData.int) = true
  | [] => by simp [PyData.canLayAll0]
  | y :: r => by
    have h2 := lay_ints r
    simp only [List.map_cons, PyData.canLayAll0, PyData.canLay0, h2, Bool.and_true]
theorem shaped_ints (ys : List Int) : SeqAt.shaped (.list (ys.map PyData.int)) = true := by
  unfold SeqAt.shaped
  rw [PyData.canLay0, lay_ints, PyData.depth, depth_ints]
  rfl
theorem eqvAll_nil (f : α → PyData) : ∀ ys : List α, PyData.eqv (.list (ys.map f)) (.list []) = ys.isEmpty
  | [] => by simp [PyData.eqv, PyData.eqvAll]
  | y :: r => by simp [PyData.eqv, PyData.eqvAll]
theorem i_eqNilI {D p : Addr} {ys : List Int} (h : SqL K H D (ys.map V.int)) (h2 : SqL K H p []) (q : Q (.bl ys.isEmpty) H) : rEqD K (.ref D) (.ref p) H Q :=
  ⟨_, _, .lst h (dp_ints ys), .lst h2 .nil, shaped_ints ys, by decide +kernel, by rw [eqvAll_nil]; exact q⟩
theorem i_eqSameI {D p : Addr} {ys : List Int} (h : SqL K H D (ys.map V.int)) (h2 : SqL K H p (ys.map V.int)) (q : Q (.bl true) H) : rEqD K (.ref D) (.ref p) H Q :=
  ⟨_, _, .lst h (dp_ints ys), .lst h2 (dp_ints ys), shaped_ints ys, shaped_ints ys, by rw [SeqAt.eqv_refl _ (by rw [PyData.canLay0]; exact lay_ints ys)]; exact q⟩
theorem i_eqNil {D p : Addr} {ys : List Str} (h : SqL K H D (ys.map V.str)) (h2 : SqL K H p []) (o : ∀ y ∈ ys, okS y = true) (q : Q (.bl ys.isEmpty) H) : rEqD K (.ref D) (.ref p) H Q :=
  ⟨_, _, .lst h (dp_strs ys), .lst h2 .nil, shaped_strs o, by decide +kernel, by rw [eqvAll_nil]; exact q⟩
theorem i_eq00 {D p : Addr} (h : SqL K H D []) (h2 : SqL K H p []) (q : Q (.bl true) H) : rEqD K (.ref D) (.ref p) H Q :=
  i_eqNilI (ys := []) h h2 q
theorem i_ne00 {D p : Addr} (h : SqL K H D []) (h2 : SqL K H p []) (q : Q (.bl false) H) : rNeD K (.ref D) (.ref p) H Q :=
  ⟨_, _, .lst (xs := [].map V.int) h (dp_ints []), .lst h2 .nil, shaped_ints [], by decide +kernel, by rw [eqvAll_nil]; exact q⟩
theorem i_neSame {D p : Addr} {ys : List Str} (h : SqL K H D (ys.map V.str)) (h2 : SqL K H p (ys.map V.str)) (o : ∀ y ∈ ys, okS y = true) (q : Q (.bl false) H) : rNeD K (.ref D) (.ref p) H Q :=
  ⟨_, _, .lst h (dp_strs ys), .lst h2 (dp_strs ys), shaped_strs o, shaped_strs o, by rw [SeqAt.eqv_refl _ (by rw [PyData.canLay0]; exact lay_strs o)]; exact q⟩
theorem nm_ok {z : Str} (h : isNm z = true) : okS z = true := by
  unfold isNm at h
  simp only [Bool.and_eq_true, decide_eq_true_eq, List.all_eq_true] at h
  show PyData.strOk z = true
  unfold PyData.strOk
  rw [Array.all_eq_true']
  intro c hc
  have := h.2 c (by simpa using hc)
  exact decide_eq_true (by omega)
/-! ### rows -/
def rowD (n : Int) (t : Ti) : PyData := .tuple [.int n, .str t.t, .str t.h, .int t.c, .bool t.o]
def RowAt (H : Hp) (n : Int) (t : Ti) (a : Addr) : Prop := H a = some (.tup [.int n, .str t.t, .str t.h, .int t.c, .bl t.o])
theorem RowAt.dp {n : Int} {t : Ti} {a : Addr} (h : RowAt H n t a) : Dp K H (.ref a) (rowD n t) := .tup (SqT.of h) (.cons (.int _) (.cons (.str _) (.cons (.str _) (.cons (.int _) (.cons (.bl _) .nil)))))
def RowsL (H : Hp) (as : List Addr) (ts : Ts) : Prop := Two (fun b nt => RowAt H nt.1 nt.2 b) as ts
theorem RowsL.dp {as : List Addr} {ts : Ts} (h : RowsL H as ts) : DpAll K H (as.map V.ref) (ts.map fun nt => rowD nt.1 nt.2) := by
  induction h with
  | nil => exact .nil
  | cons h _ ih => exact .cons (RowAt.dp h) ih
def rowOk (t : Ti) : Prop := okS t.t = true ∧ okS t.h = true
theorem row_lay {n : Int} {t : Ti} (o : rowOk t) : PyData.canLay0 (rowD n t) = true := by
  unfold rowD
  simp only [PyData.canLay0, PyData.canLayAll0, Bool.and_true, Bool.true_and]
  rw [show PyData.strOk t.t = true from o.1, show PyData.strOk t.h = true from o.2]
  rfl
theorem row_depth {n : Int} {t : Ti} : PyData.depth (rowD n t) = 1 := by
  unfold rowD
  simp [PyData.depth, PyData.depthAll]
theorem row_shaped {n : Int} {t : Ti} (o : rowOk t) : SeqAt.shaped (rowD n t) = true := by
  unfold SeqAt.shaped
  rw [row_lay o, row_depth]
  rfl
theorem rows_lay : ∀ {ts : Ts}, (∀ n t, (n, t) ∈ ts → rowOk t) → PyData.canLayAll0 (ts.map fun nt => rowD nt.1 nt.2) = true
  | [], _ => by simp [PyData.canLayAll0]
  | (n, t) :: r, o => by
    have h2 := rows_lay (ts := r) fun m u hu => o m u (List.mem_cons_of_mem _ hu)
    have h1 := row_lay (n := n) (o n t List.mem_cons_self)
    simp only [List.map_cons, PyData.canLayAll0, h1, h2, Bool.and_true]
theorem rows_depth : ∀ ts : Ts, PyData.depthAll (ts.map fun nt => rowD nt.1 nt.2) ≤ 1
  | [] => by simp [PyData.depthAll]
  | (n, t) :: r => by
    have h2 := rows_depth r
    simp only [List.map_cons, PyData.depthAll, row_depth]
    omega
theorem rows_shaped {ts : Ts} (o : ∀ n t, (n, t) ∈ ts → rowOk t) : SeqAt.shaped (.list (ts.map fun nt => rowD nt.1 nt.2)) = true := by
  have h := rows_depth ts
  unfold SeqAt.shaped
  rw [PyData.canLay0, rows_lay o, PyData.depth]
  simp
  omega
theorem i_neRows {D p : Addr} {as bs : List Addr} {ts : Ts} (h : SqL K H D (as.map V.ref)) (h2 : SqL K H p (bs.map V.ref)) (r1 : RowsL H as ts) (r2 : RowsL H bs ts) (o : ∀ n t, (n, t) ∈ ts → rowOk t) (q : Q (.bl false) H) : rNeD K (.ref D) (.ref p) H Q :=
  ⟨_, _, .lst h r1.dp, .lst h2 r2.dp, rows_shaped o, rows_shaped o, by rw [SeqAt.eqv_refl _ (by rw [PyData.canLay0]; exact rows_lay o)]; exact q⟩
theorem i_neRow {a b : Addr} {n : Int} {t : Ti} (r1 : RowAt H n t a) (r2 : RowAt H n t b) (o : rowOk t) (q : Q (.bl false) H) : rNeD K (.ref a) (.ref b) H Q :=
  ⟨_, _, r1.dp, r2.dp, row_shaped o, row_shaped o, by rw [SeqAt.eqv_refl _ (row_lay o)]; exact q⟩
theorem i_neRows0 {D p : Addr} {as : List Addr} {ts : Ts} (h : SqL K H D (as.map V.ref)) (h2 : SqL K H p []) (r1 : RowsL H as ts) (o : ∀ n t, (n, t) ∈ ts → rowOk t) (q : Q (.bl (!ts.isEmpty)) H) : rNeD K (.ref D) (.ref p) H Q :=
  ⟨_, _, .lst h r1.dp, .lst h2 .nil, rows_shaped o, by decide +kernel, by rw [eqvAll_nil]; exact q⟩
end
end WB

set_option Elab.async false
set_option linter.all false
set_option maxRecDepth 100000
set_option maxHeartbeats 4000000
namespace K25
open PySem PySem.Spec PyProof.Rows L2 HX WB
local macro_rules | `(tactic| walk_at "side") => `(tactic| first
  | assumption
  | rfl
  | (show (0 : Int) < _; omega)
  | (unfold CDiv; omega)
  | (unfold CMul; omega)
  | (unfold CPow; omega)
  | (rw [sizeLine_eq]; omega)
  | omega)
local macro_rules | `(tactic| walk_at "e") => `(tactic| first
  | ((with_reducible apply i_var); exact rfl)
  | (with_reducible apply i_c)
  | (with_reducible apply i_op)
  | (with_reducible apply i_un)
  | (with_reducible apply i_rI0)
  | ((with_reducible apply i_rI); (case c => walk_at "side"))
  | (with_reducible apply i_rGe)
  | (with_reducible apply i_rGt)
  | (with_reducible apply i_rU)
  | (with_reducible apply i_rEqI)
  | (with_reducible apply i_rNeI)
  | (with_reducible apply i_rEqS)
  | (with_reducible apply i_rNeS)
  | (with_reducible apply i_rEqB)
  | (with_reducible apply i_rNeB)
  | (with_reducible apply i_rIsN)
  | (with_reducible apply i_rNotN)
  | (with_reducible apply i_rInS)
  | (with_reducible apply i_rNotInS)
  | ((with_reducible apply i_catS); (case c => walk_at "side"))
  | (with_reducible apply i_tcb)
  | (with_reducible apply i_nil)
  | (with_reducible apply i_cons)
  | ((with_reducible apply i_lenS); (case c => walk_at "side"))
  | ((with_reducible apply i_lenL); assumption)
  | (with_reducible apply i_abs)
  | (with_reducible apply i_max2)
  | (with_reducible apply i_min2)
  | ((with_reducible apply i_strI); (case c => walk_at "side"))
  | (with_reducible apply i_intB)
  | (with_reducible apply i_test)
  | (with_reducible apply i_tB)
  | (with_reducible apply i_kB)
  | (with_reducible apply i_and)
  | (with_reducible apply i_or)
  | (with_reducible apply i_not)
  | (with_reducible apply i_if)
  | (with_reducible apply i_andV)
  | (with_reducible apply i_orV)
  | (with_reducible apply i_notV)
  | (with_reducible apply i_kAndV)
  | (with_reducible apply i_kOrV)
  | (with_reducible apply i_kNotV)
  | (with_reducible apply i_chain)
  | (with_reducible apply i_kChain)
  | (with_reducible apply i_drop)
  | (with_reducible apply i_ret)
  | (with_reducible apply i_retN)
  | (with_reducible apply i_ifS)
  | (with_reducible apply i_asg)
  | (with_reducible apply i_gName)
  | (with_reducible apply i_for)
  | (with_reducible apply i_lc)
  | (with_reducible apply i_iList)
  | (with_reducible apply i_iTup)
  | (with_reducible apply i_iStr)
  | (with_reducible apply i_kStrI)
  | (with_reducible apply i_lst)
  | (with_reducible apply i_tup)
  | (with_reducible apply i_call)
  | (with_reducible apply i_m1)
  | (with_reducible apply i_kStr)
  | (with_reducible apply i_bm)
  | (with_reducible apply i_bm0)
  | (with_reducible apply i_part)
  | (with_reducible apply i_kInt)
  | (with_reducible apply i_noPart)
  | (with_reducible apply i_sl)
  | (with_reducible apply i_range1)
  | (with_reducible apply i_range2)
  | ((with_reducible apply i_kRng1); (case c => walk_at "side"))
  | ((with_reducible apply i_kRng2); (case c => walk_at "side"))
  | (with_reducible apply i_gCons)
  | (with_reducible apply i_gNil)
  | (with_reducible apply i_gSub)
  | (with_reducible apply i_iZip)
  | (with_reducible apply i_yes)
  | (with_reducible apply i_ift)
  | (with_reducible apply i_iff)
  | (with_reducible apply i_nb))
local macro_rules | `(tactic| walk_at "go") => `(tactic| repeat (first | (with_reducible apply i_seq) | (with_reducible apply i_next) | walk_at "e"))
local macro_rules | `(tactic| walk_at "ge") => `(tactic| repeat walk_at "e")
local macro_rules | `(tactic| walk_at "sz") => `(tactic| first | decide | (rw [sizeLine_eq]; simp; done) | (rw [sizeLine_eq]; omega))
local macro_rules | `(tactic| walk_at "side") => `(tactic| (with_reducible exact WB.most_pos))
local macro_rules | `(tactic| walk_at "e") => `(tactic| first
  | ((with_reducible apply i_isT (b := true)); exact rfl)
  | ((with_reducible apply i_isT (b := false)); exact rfl)
  | (with_reducible apply i_fld)
  | ((with_reducible apply i_kFld); (case h => assumption); (case c1 => assumption); (case c2 => assumption); (case e => first | exact lk_number | exact lk_tail | exact lk_head | exact lk_load | exact lk_oneway | exact lk_points | exact lk_ties | exact lk_given))
  | (with_reducible apply i_sfld)
  | ((with_reducible apply i_kSFld); (case h => first | assumption | exact upd_same); (case c1 => assumption); (case c2 => assumption); (case e => exact Nat.le_of_ble_eq_true rfl))
  | (with_reducible apply i_methC)
  | (with_reducible apply i_make)
  | (with_reducible apply i_fldaug)
  | (with_reducible apply i_vals)
  | (with_reducible apply i_items)
  | (with_reducible apply i_dget)
  | (with_reducible apply i_dput)
  | (with_reducible apply i_din)
  | (with_reducible apply i_dnotin)
  | (with_reducible apply i_ddel)
  | (with_reducible apply i_dc)
  | (with_reducible apply i_enum)
  | (with_reducible apply i_ckw))
local macro_rules | `(tactic| walk_at "e") => `(tactic| first | (with_reducible apply i_con) | (with_reducible apply i_dyn) | (with_reducible apply i_makeS) | (with_reducible apply i_match))
section
variable {P : Program} {w : World} {K : PySem.W.Frag} {mg : Str → Option Value} {base : Heap}
/-- the words whose questions hang on loads -/
def lw : List Str := ["least", "lightest"]
theorem loads_ok (T : Tx K mg) {H : Hp} {a : Addr} {C z : Str} (i : QI K H a C z) : ∃ (f : Addr) (fd : FuncData) (ps : List Str) (k : Nat), Meth K (He.ga K C) "has_loads" f ∧ FnOk P w K mg base CX0 k f fd ps (sp_loads (decide (z ∈ lw))) ∧ k ≤ 1 ∧ L2.Binds K fd ps [] := by
  have all : ∀ p ∈ tab, (lo p.1 = "LeastWay" ∧ p.2 ∈ lw) ∨ (lo p.1 = "LightestForest" ∧ p.2 ∈ lw) ∨ (lo p.1 = "Question" ∧ p.2 ∉ lw) := by decide +kernel
  have m := i.loads
  rcases all _ i.tab with ⟨h1, h2⟩ | ⟨h1, h2⟩ | ⟨h1, h2⟩
  · rw [h1] at m
    rw [decide_eq_true h2]
    exact ⟨_, _, _, _, m, ok_LeastWay_has_loads T, by decide, T.k_LeastWay_has_loads⟩
  · rw [h1] at m
    rw [decide_eq_true h2]
    exact ⟨_, _, _, _, m, ok_LightestForest_has_loads T, by decide, T.k_LightestForest_has_loads⟩
  · rw [h1] at m
    rw [decide_eq_false h2]
    exact ⟨_, _, _, _, m, ok_Question_has_loads T, by decide, T.k_Question_has_loads⟩
theorem matter_ok (T : Tx K mg) {H : Hp} {a : Addr} {C z : Str} {ns : List Str} (h : QAt K H a C z ns) : ∃ (f : Addr) (fd : FuncData) (ps : List Str) (k : Nat) (sp : Sp), Meth K (He.ga K C) "matter" f ∧ FnOk P w K mg base CX0 k f fd ps sp ∧ k ≤ 1 ∧ L2.Binds K fd ps [] ∧
    ∀ Q E, (∀ p, H p = none → Q (.ref p) (upd H p (.lst (ns.map V.str)))) → sp [.ref a] H Q E := by
  cases h with
  | @two C z x y dx hm hc e => exact ⟨_, _, _, _, _, hc.matter, ok_OfTwo_matter T, by decide, T.k_OfTwo_matter, fun Q E q => ⟨a, C, _, x, y, dx, rfl, hc, e, q⟩⟩
  | @three x y n dx hc e => exact ⟨_, _, _, _, _, hc.matter, ok_PastPoint_matter T, by decide, T.k_PastPoint_matter, fun Q E q => ⟨a, "PastPoint", _, x, y, n, dx, rfl, hc, e, q⟩⟩
  | @none C z dx hm hc e => exact ⟨_, _, _, _, _, hc.matter, ok_Question_matter T, by decide, T.k_Question_matter, fun Q E q => ⟨a, rfl, q⟩⟩
def sp_right (K : PySem.W.Frag) : Sp := fun vs H Q _ => ∃ a C z p ns, vs = [.ref a, .str z, .ref p] ∧ QAt K H a C z ns ∧ H p = some (.lst (ns.map V.str)) ∧ ggB K = true ∧ z.length ≤ 100 ∧ TX.okS z = true ∧ (∀ y ∈ ns, TX.okS y = true ∧ y.length ≤ 100) ∧ ns.length ≤ 3 ∧ ∀ H', Same H H' → Q (.bl true) H'
theorem ok_law_right (T : Tx K mg) : FnOk P w K mg base CX0 5 (He.ga K "_law_right") T.fd_law_right ["_law_found", "_law_word", "_law_names_here"] (sp_right K) := by
  refine T.F_law_right.ok sc_law_right (fun vs H Q E h => ?_) (fun cdv A outer s H vs Q E hr h => ?_)
  · obtain ⟨_, _, _, _, _, rfl, _⟩ := h
    rfl
  · obtain ⟨a, C, z, p, ns, rfl, hq, hp, gg, lz, oz, on, n3, q⟩ := h
    have hu := hu_of hr
    refine ⟨_, PSs.nox (pss_cons (ps_if (PW.pt (pw_or (pt_not (pt_val (pe_callB call_isi (by rfl) T.b_isinstance (by decide +kernel) (pa_cons (pv 0) (pa_cons (pe_glob (v := .ref (He.ga K "Question")) rfl T.g_Question rfl) pa_nil))))) (pw_or1 (pt_cmpR (op_neD hr.units) (pe_call (ok_law_kinds T) (hr.mono (by decide)) (by rfl) T.g_law_kinds T.F_law_kinds.kp T.k_law_kinds .nil pass0 (pa_cons (pv 0) pa_nil)) (pe_lst (pa_cons (pv 1) pa_nil)) (nomark _))))) (pss_one (ps_ret pe_bl)) pss_nil)
      (pss_cons (ps_if (PW.pt (pw_or (pt_cmpR op_ne (CLX.pe_dyn0 (CX := CX0) (n := 3) (E := E0) (pv 0) (hr.mono (by decide)) pass0) (x_join pe_str (pe_op op_cat (pe_lst (pa_cons (pv 1) pa_nil)) (pv 2))) (nomark _)) (pw_or1 (pt_not (pt_val (pe_callB call_isi (by rfl) T.b_isinstance (by decide +kernel) (pa_cons (CLX.pe_dyn0 (CX := CX0) (n := 1) (E := E0) (pv 0) (hr.mono (by decide)) pass0) (pa_cons (pe_bltn (v := .ty "bool") rfl T.b_bool (by decide +kernel) rfl) pa_nil)))))))) (pss_one (ps_ret pe_bl)) pss_nil)
      (pss_cons (ps_if (pt_cmpR op_ne (CLX.pe_dyn0 (CX := CX0) (n := 1) (E := E0) (pv 0) (hr.mono (by decide)) pass0) (pe_cmpR op_in_seq (pv 1) (pe_tup (pa_cons pe_str (pa_cons pe_str pa_nil))) (by rfl)) (nomark _)) (pss_one (ps_ret pe_bl)) pss_nil)
      (pss_cons (ps_for PassesOwn.never rfl (pi_range1 rfl T.b_range (pa_cons pe_int pa_nil)) (pg_name (i := 3) sc_law_right.nd rfl (Or.inl rfl))
      (pss_cons (ps_set (i := 4) sc_law_right.nd rfl (Or.inl rfl) (CLX.pe_dyn0 (CX := CX0) (n := 1) (E := E0) (pv 0) (hr.mono (by decide)) pass0))
      (pss_cons (ps_if (PW.pt (pw_or (pt_not (pt_val (pe_callB call_isi (by rfl) T.b_isinstance (by decide +kernel) (pa_cons (pv 4) (pa_cons (pe_bltn (v := .ty "list") rfl T.b_list (by decide +kernel) rfl) pa_nil))))) (pw_or1 (pt_cmpR (op_neD hr.units) (pv 4) (pv 2) (nomark _))))) (pss_one (ps_ret pe_bl)) pss_nil)
      (pss_one (ps_expr (pe_bm PySem.F.plainAttrs_list PySem.F.slot_list_append PySem.F.type_list_append mt_append (pv 4) (pa_cons pe_str pa_nil)))))))
      (pss_one (ps_ret pe_bl)))))), ?_⟩
    walk_at "go"
    refine i_isQ gg hq.info (to_q hq.info.isq) ?_
    walk_at "go"
    refine ⟨a, C, z, ns, rfl, hq, gg, fun pk H1 s1 hpk epk => ?_⟩
    walk_at "go"
    refine ⟨by walk_at "sz", fun p2 hp2 => ?_⟩
    have s2 : Same H1 (upd H1 p2 (.lst [.str z])) := Same.new hp2
    have e2 : (upd H1 p2 (.lst [.str z])) p2 = some (.lst ([z].map V.str)) := upd_same
    refine i_neSame (ys := [z]) (SqL.of (s2 _ _ epk)) (SqL.of e2) (by simpa using oz) ?_
    generalize upd H1 p2 (.lst [.str z]) = H2 at s2 e2 ⊢
    have s12 := s1.trans s2
    have hq2 := hq.same s12
    walk_at "go"
    obtain ⟨dx, fs, e, lt, ll, lm⟩ := hq2.info.ins
    refine ⟨a, _, dx, _, fs, _, _, _, _, rfl, e, hq2.info.cl, hq2.info.text, lt, ok_Question_text T, by decide, T.k_Question_text, a, C, z, ns, rfl, hq2, lz, fun y hy => (on y hy).2, fun H3 s3 => ?_⟩
    have s13 := s12.trans s3
    walk_at "go"
    refine ⟨by walk_at "sz", fun p3 hp3 => ?_⟩
    have s4 : Same H3 (upd H3 p3 (.lst [.str z])) := Same.new hp3
    have e4 : (upd H3 p3 (.lst [.str z])) p3 = some (.lst [.str z]) := upd_same
    generalize upd H3 p3 (.lst [.str z]) = H4 at s4 e4 ⊢
    walk_at "go"
    have sp4 := (s13.trans s4)
    have ly2 : (ns.map V.str).length = ns.length := List.length_map _
    refine i_cat e4 (sp4 _ _ hp) (by rw [ly2, sizeLine_eq]; show 1 + _ ≤ _; omega) fun p4 hp4 => ?_
    have s5 : Same H4 (upd H4 p4 (.lst ([.str z] ++ ns.map V.str))) := Same.new hp4
    have e5 : (upd H4 p4 (.lst ([.str z] ++ ns.map V.str))) p4 = some (.lst ((z :: ns).map V.str)) := upd_same
    generalize upd H4 p4 (.lst ([.str z] ++ ns.map V.str)) = H5 at s5 e5 ⊢
    refine i_join (SqL.of e5) ?_ ?_
    · have h1 := TX.sum_le (ys := z :: ns) (k := 100) (fun y hy => (List.mem_cons.mp hy).elim (fun e => e ▸ lz) fun h => (on y h).2)
      have h2 : (" " : Str).length = 1 := by decide +kernel
      have h3 : (z :: ns).length ≤ 4 := by rw [List.length_cons]; omega
      have h4 : (z :: ns).length * 100 ≤ 4 * 100 := Nat.mul_le_mul_right _ h3
      rw [h2]
      omega
    walk_at "go"
    refine i_dec (fun _ => ?_) (fun c => absurd rfl c)
    have s15 := sp4.trans s5
    have hq5 := hq.same s15
    obtain ⟨dx5, fs5, e5', lt5, ll5, lm5⟩ := hq5.info.ins
    obtain ⟨f, fd, ps, k, me, fo, hk, bd⟩ := loads_ok (P := P) (w := w) (base := base) T hq5.info
    walk_at "go"
    refine ⟨a, _, dx5, f, fs5, fd, ps, _, k, rfl, e5', hq5.info.cl, me, ll5, fo, Nat.le_trans hk (by decide), bd, a, rfl, ?_⟩
    walk_at "go"
    refine ⟨a, _, dx5, f, fs5, fd, ps, _, k, rfl, e5', hq5.info.cl, me, ll5, fo, Nat.le_trans hk (by decide), bd, a, rfl, ?_⟩
    walk_at "go"
    refine ⟨by walk_at "sz", fun p6 hp6 => ?_⟩
    have s6 : Same H5 (upd H5 p6 (.tup [.str "least", .str "lightest"])) := Same.new hp6
    refine i_inT (ys := ["least", "lightest"]) (SqT.of upd_same) ?_
    generalize upd H5 p6 (.tup [.str "least", .str "lightest"]) = H6 at s6 ⊢
    have s16 := s15.trans s6
    have hq6 := hq.same s16
    have elw : (["least", "lightest"] : List Str) = lw := rfl
    rw [elw]
    walk_at "go"
    refine i_dec (fun _ => ?_) (fun c => absurd (by rw [if_neg (by decide)]) c)
    walk_at "go"
    refine for_it walk_range (fun i σ H' => Same H6 H' ∧ ∃ v3 v4, σ = [some (.ref a), some (.str z), some (.ref p), v3, v4])
      ⟨Same.refl _, none, none, rfl⟩ (fun _ _ _ _ _ => trivial) ?_ ?_
    · rintro i v σ H7 H8 hi ⟨s7, v3, v4, rfl⟩ ⟨rfl, rfl⟩
      have hq7 := hq6.same s7
      have hp7 := (s16.trans s7) _ _ hp
      obtain ⟨dx7, fs7, e7, lt7, ll7, lm7⟩ := hq7.info.ins
      obtain ⟨f, fd, ps, k, sp, me, fo, hk, bd, ms⟩ := matter_ok (P := P) (w := w) (base := base) T hq7
      walk_at "go"
      refine ⟨a, _, dx7, f, fs7, fd, ps, sp, k, rfl, e7, hq7.info.cl, me, lm7, fo, Nat.le_trans hk (by decide), bd, ms _ _ fun pm hpm => ?_⟩
      have s8 : Same H8 (upd H8 pm (.lst (ns.map V.str))) := Same.new hpm
      have e8 : (upd H8 pm (.lst (ns.map V.str))) pm = some (.lst (ns.map V.str)) := upd_same
      generalize upd H8 pm (.lst (ns.map V.str)) = H9 at s8 e8 ⊢
      walk_at "go"
      refine i_isL e8 ?_
      walk_at "go"
      refine i_neSame (SqL.of e8) (SqL.of (s8 _ _ hp7)) (fun y hy => (on y hy).1) ?_
      walk_at "go"
      refine i_kTyL (SqL.of e8) ?_
      walk_at "go"
      refine i_append e8 ?_ (by rw [ly2, sizeLine_eq]; omega)
      have s9 : Same H6 (upd H9 pm (.lst (ns.map V.str ++ [.str "more"]))) := Same.mut (s7.trans s8) (s7.free hpm)
      exact ⟨s9, _, _, rfl⟩
    · rintro σ H7 ⟨s7, v3, v4, rfl⟩
      walk_at "go"
      exact q H7 (s16.trans s7)
end
end K25

set_option Elab.async false
set_option linter.all false
set_option maxRecDepth 100000
set_option maxHeartbeats 4000000
namespace K25
open PySem PySem.Spec PyProof.Rows L2 HX WB
local macro_rules | `(tactic| walk_at "side") => `(tactic| first
  | assumption
  | rfl
  | (show (0 : Int) < _; omega)
  | (unfold CDiv; omega)
  | (unfold CMul; omega)
  | (unfold CPow; omega)
  | (rw [sizeLine_eq]; omega)
  | omega)
local macro_rules | `(tactic| walk_at "e") => `(tactic| first
  | ((with_reducible apply i_var); exact rfl)
  | (with_reducible apply i_c)
  | (with_reducible apply i_op)
  | (with_reducible apply i_un)
  | (with_reducible apply i_rI0)
  | ((with_reducible apply i_rI); (case c => walk_at "side"))
  | (with_reducible apply i_rGe)
  | (with_reducible apply i_rGt)
  | (with_reducible apply i_rU)
  | (with_reducible apply i_rEqI)
  | (with_reducible apply i_rNeI)
  | (with_reducible apply i_rEqS)
  | (with_reducible apply i_rNeS)
  | (with_reducible apply i_rEqB)
  | (with_reducible apply i_rNeB)
  | (with_reducible apply i_rIsN)
  | (with_reducible apply i_rNotN)
  | (with_reducible apply i_rInS)
  | (with_reducible apply i_rNotInS)
  | ((with_reducible apply i_catS); (case c => walk_at "side"))
  | (with_reducible apply i_tcb)
  | (with_reducible apply i_nil)
  | (with_reducible apply i_cons)
  | ((with_reducible apply i_lenS); (case c => walk_at "side"))
  | ((with_reducible apply i_lenL); assumption)
  | (with_reducible apply i_abs)
  | (with_reducible apply i_max2)
  | (with_reducible apply i_min2)
  | ((with_reducible apply i_strI); (case c => walk_at "side"))
  | (with_reducible apply i_intB)
  | (with_reducible apply i_test)
  | (with_reducible apply i_tB)
  | (with_reducible apply i_kB)
  | (with_reducible apply i_and)
  | (with_reducible apply i_or)
  | (with_reducible apply i_not)
  | (with_reducible apply i_if)
  | (with_reducible apply i_andV)
  | (with_reducible apply i_orV)
  | (with_reducible apply i_notV)
  | (with_reducible apply i_kAndV)
  | (with_reducible apply i_kOrV)
  | (with_reducible apply i_kNotV)
  | (with_reducible apply i_chain)
  | (with_reducible apply i_kChain)
  | (with_reducible apply i_drop)
  | (with_reducible apply i_ret)
  | (with_reducible apply i_retN)
  | (with_reducible apply i_ifS)
  | (with_reducible apply i_asg)
  | (with_reducible apply i_gName)
  | (with_reducible apply i_for)
  | (with_reducible apply i_lc)
  | (with_reducible apply i_iList)
  | (with_reducible apply i_iTup)
  | (with_reducible apply i_iStr)
  | (with_reducible apply i_kStrI)
  | (with_reducible apply i_lst)
  | (with_reducible apply i_tup)
  | (with_reducible apply i_call)
  | (with_reducible apply i_m1)
  | (with_reducible apply i_kStr)
  | (with_reducible apply i_bm)
  | (with_reducible apply i_bm0)
  | (with_reducible apply i_part)
  | (with_reducible apply i_kInt)
  | (with_reducible apply i_noPart)
  | (with_reducible apply i_sl)
  | (with_reducible apply i_range1)
  | (with_reducible apply i_range2)
  | ((with_reducible apply i_kRng1); (case c => walk_at "side"))
  | ((with_reducible apply i_kRng2); (case c => walk_at "side"))
  | (with_reducible apply i_gCons)
  | (with_reducible apply i_gNil)
  | (with_reducible apply i_gSub)
  | (with_reducible apply i_iZip)
  | (with_reducible apply i_yes)
  | (with_reducible apply i_ift)
  | (with_reducible apply i_iff)
  | (with_reducible apply i_nb))
local macro_rules | `(tactic| walk_at "go") => `(tactic| repeat (first | (with_reducible apply i_seq) | (with_reducible apply i_next) | walk_at "e"))
local macro_rules | `(tactic| walk_at "ge") => `(tactic| repeat walk_at "e")
local macro_rules | `(tactic| walk_at "sz") => `(tactic| first | decide | (rw [sizeLine_eq]; simp; done) | (rw [sizeLine_eq]; omega))
local macro_rules | `(tactic| walk_at "side") => `(tactic| (with_reducible exact WB.most_pos))
local macro_rules | `(tactic| walk_at "e") => `(tactic| first
  | ((with_reducible apply i_isT (b := true)); exact rfl)
  | ((with_reducible apply i_isT (b := false)); exact rfl)
  | (with_reducible apply i_fld)
  | ((with_reducible apply i_kFld); (case h => assumption); (case c1 => assumption); (case c2 => assumption); (case e => first | exact lk_number | exact lk_tail | exact lk_head | exact lk_load | exact lk_oneway | exact lk_points | exact lk_ties | exact lk_given))
  | (with_reducible apply i_sfld)
  | ((with_reducible apply i_kSFld); (case h => first | assumption | exact upd_same); (case c1 => assumption); (case c2 => assumption); (case e => exact Nat.le_of_ble_eq_true rfl))
  | (with_reducible apply i_methC)
  | (with_reducible apply i_make)
  | (with_reducible apply i_fldaug)
  | (with_reducible apply i_vals)
  | (with_reducible apply i_items)
  | (with_reducible apply i_dget)
  | (with_reducible apply i_dput)
  | (with_reducible apply i_din)
  | (with_reducible apply i_dnotin)
  | (with_reducible apply i_ddel)
  | (with_reducible apply i_dc)
  | (with_reducible apply i_enum)
  | (with_reducible apply i_ckw))
local macro_rules | `(tactic| walk_at "e") => `(tactic| first | (with_reducible apply i_con) | (with_reducible apply i_dyn) | (with_reducible apply i_makeS) | (with_reducible apply i_match))
def twosW : List Str := ["together", "comes", "must", "points", "ring", "least", "fewest", "apart"]
def wholesW : List Str := ["pieces", "knots", "sides", "lightest", "starts", "leaves"]
/-- a word and its names -/
structure Wd (z : Str) (us : List Str) (m : Nat) : Prop where
  hm : manyA z = some m
  lz : z.length ≤ 8
  oz : TX.okS z = true
  fr : 32 ∉ TL.tl z
  hl : us.length = m
  nm : ∀ y ∈ us, Gn y
theorem Wd.n3 {z : Str} {us : List Str} {m : Nat} (h : Wd z us m) : us.length ≤ 3 := by
  rw [h.hl]
  exact many_le h.hm
theorem Wd.on {z : Str} {us : List Str} {m : Nat} (h : Wd z us m) : ∀ y ∈ us, TX.okS y = true ∧ y.length ≤ 100 := fun y hy => ⟨(h.nm y hy).2.1, Nat.le_trans (h.nm y hy).2.2 (by decide)⟩
theorem nm_fr {y : Str} (h : isNm y = true) : 32 ∉ TL.tl y := fun hc => by
  unfold isNm at h
  simp only [Bool.and_eq_true, decide_eq_true_eq, List.all_eq_true] at h
  have := h.2 32 hc
  omega
theorem Wd.sp {z : Str} {us : List Str} {m : Nat} (h : Wd z us m) : Txt.split (Txt.join " " (z :: us)) " " = z :: us :=
  TL.split_join (S := []) tl_blank (by decide +kernel) (by simp) fun p hp => (List.mem_cons.mp hp).elim (fun e => e ▸ h.fr) fun hp => nm_fr (h.nm p hp).1
theorem Wd.sum {z : Str} {us : List Str} {m : Nat} (h : Wd z us m) : ((z :: us).map (·.length)).sum + (z :: us).length * (" " : Str).length ≤ 100 := by
  have h1 := TX.sum_le (ys := z :: us) (k := 12) (fun y hy => (List.mem_cons.mp hy).elim (fun e => by rw [e]; have := h.lz; omega) fun hy => (h.nm y hy).2.2)
  have h2 : (" " : Str).length = 1 := by decide +kernel
  have h3 : (z :: us).length ≤ 4 := by rw [List.length_cons]; have := h.n3; omega
  have h4 : (z :: us).length * 12 ≤ 4 * 12 := Nat.mul_le_mul_right _ h3
  rw [h2]
  omega
theorem Wd.len {z : Str} {us : List Str} {m : Nat} (h : Wd z us m) : (Txt.join " " (z :: us)).length ≤ 500 := by
  have h1 := join_len " " (z :: us)
  have h2 := h.sum
  omega
theorem name_at {ys : List Str} (hy : ∀ y ∈ ys, Gn y) {r : Int} (h0 : 0 ≤ r) (h1 : r < (ys.length : Int)) : ∃ z, atI (ys.map V.str) r = some (.str z) ∧ Gn z := by
  obtain ⟨j, rfl⟩ := Int.eq_ofNat_of_zero_le h0
  have hj : j < ys.length := by omega
  exact ⟨ys[j], atI_nat (by rw [List.getElem?_map, List.getElem?_eq_getElem hj]; rfl), hy _ (List.getElem_mem hj)⟩
theorem frees : ∀ z ∈ twosW ++ (("past" : Str) :: wholesW), (decide (z.length ≤ 8) && (TX.okS z && decide (32 ∉ TL.tl z))) = true := by decide +kernel
theorem wd_of {z : Str} {us : List Str} {m : Nat} (hz : z ∈ twosW ++ (("past" : Str) :: wholesW)) (hm : manyA z = some m) (hl : us.length = m) (nm : ∀ y ∈ us, Gn y) : Wd z us m := by
  have := frees z hz
  simp only [Bool.and_eq_true, decide_eq_true_eq] at this
  exact ⟨hm, this.1, this.2.1, this.2.2, hl, nm⟩
theorem twos_two : ∀ z ∈ twosW, manyA z = some 2 := by decide +kernel
theorem wholes_none : ∀ z ∈ wholesW, manyA z = some 0 := by decide +kernel
theorem join_one (z : Str) : Txt.join " " [z] = z := by
  rw [TL.join_eq]
  exact TL.ext_tl (by rw [TL.tl_join]; rfl)
section
variable {P : Program} {w : World} {K : PySem.W.Frag} {mg : Str → Option Value} {base : Heap}
def sp_law (K : PySem.W.Frag) : Sp := fun vs H Q _ => ∃ (a : Addr) (ns : List Int), vs = [.ref a] ∧ SqL K H a (ns.map V.int) ∧ ns.length ≤ 63 ∧ ∀ H', Q (.bl true) H'
theorem ok_law (T : Tx K mg) (J : Js P w K mg base) (xk : extra K = true) : FnOk P w K mg base CX0 6 (He.ga K "law") T.fd_law ["_law_script"] (sp_law K) := by
  refine T.F_law.ok sc_law (fun vs H Q E h => ?_) (fun cdv A outer s H vs Q E hr h => ?_)
  · obtain ⟨_, _, rfl, _⟩ := h
    rfl
  · obtain ⟨a, ns, rfl, hS, hln, q⟩ := h
    have hu := hu_of hr
    have gg := gg_of xk
    refine ⟨_, PSs.nox (pss_cons (ps_set (i := 1) sc_law.nd rfl (Or.inl rfl) (pe_lst (pa_cons pe_str (pa_cons pe_str (pa_cons pe_str (pa_cons pe_str (pa_cons pe_str (pa_cons pe_str (pa_cons pe_str (pa_cons pe_str pa_nil))))))))))
      (pss_cons (ps_set (i := 2) sc_law.nd rfl (Or.inl rfl) (pe_lst (pa_cons pe_str (pa_cons pe_str (pa_cons pe_str (pa_cons pe_str (pa_cons pe_str (pa_cons pe_str pa_nil))))))))
      (pss_cons (ps_for PassesOwn.never rfl (pi_range1 rfl T.b_range (pa_cons (pe_callB (x_max2 rfl) (by rfl) T.b_max (by decide +kernel) (pa_cons pe_int (pa_cons (pe_callB (x_min2 rfl) (by rfl) T.b_min (by decide +kernel) (pa_cons pe_int (pa_cons (pe_callB x_lenL (by rfl) T.b_len (by decide +kernel) (pa_cons (pv 0) pa_nil)) pa_nil))) pa_nil))) pa_nil)) (pg_name (i := 3) sc_law.nd rfl (Or.inl rfl))
      (pss_cons (ps_set (i := 4) sc_law.nd rfl (Or.inr rfl) (pe_call (ok_law_number T) (hr.mono (by decide)) (by rfl) T.g_law_number T.F_law_number.kp T.k_law_number .nil pass0 (pa_cons (pv 0) (pa_cons (pv 3) pa_nil))))
      (pss_cons (ps_set (i := 5) sc_law.nd rfl (Or.inr rfl) (pe_ix ix_list (pe_lst (pa_cons (pe_call (ok_law_names T) (hr.mono (by decide)) (by rfl) T.g_law_names T.F_law_names.kp T.k_law_names .nil pass0 (pa_cons (pv 4) (pa_cons pe_int pa_nil))) (pa_cons (pe_lst (pa_cons pe_str (pa_cons pe_str (pa_cons pe_str (pa_cons pe_str (pa_cons pe_str (pa_cons pe_str pa_nil))))))) pa_nil))) (pe_op op_mod (pe_op op_fdiv (pv 4) pe_int) pe_int) (fun _ _ => rfl)))
      (pss_cons (ps_setLc (i := 6) (own := [("_law_j", 8)]) (by rfl) sc_law.nd rfl rfl (sw_true rfl rfl rfl (by decide +kernel)) (pi_range1 rfl T.b_range (pa_cons pe_int pa_nil)) (blkOk_by (own := [("_law_j", 8)]) (N := N_law) (sc := defScope s_law) (by decide +kernel)) (fun _ _ _ _ _ => (pg_name (i := 8) sc_law.nd rfl (Or.inl rfl))) (fun _ _ _ _ _ => pts_nil) (fun _ _ _ _ _ => (pe_ix (ix_listK K rfl) (pv 5) (pe_op op_mod (pe_op op_fdiv (pv 4) (pe_op op_add pe_int (pv 8))) (pe_callB (x_lenLK K rfl) (by rfl) T.b_len (by decide +kernel) (pa_cons (pv 5) pa_nil))) (fun _ _ => rfl))))
      (pss_cons (ps_for PassesOwn.never rfl (pi_list (pv 1)) (pg_name (i := 7) sc_law.nd rfl (Or.inl rfl))
      (pss_cons (ps_if (pt_not (pt_val (pe_call (ok_law_right T) (hr.mono (by decide)) (by rfl) T.g_law_right T.F_law_right.kp T.k_law_right .nil pass0 (pa_cons (pe_call (ok_question_of T J xk) (hr.mono (by decide)) (by rfl) T.g_question_of T.F_question_of.kp T.k_question_of .nil pass0 (pa_cons (x_join pe_str (pe_op op_cat (pe_lst (pa_cons (pv 7) pa_nil)) (pe_slice sl_list (pv 6) po_none (po_some pe_int)))) pa_nil)) (pa_cons (pv 7) (pa_cons (pe_slice sl_list (pv 6) po_none (po_some pe_int)) pa_nil)))))) (pss_one (ps_ret pe_bl)) pss_nil)
      (pss_one (ps_if (pt_not (pt_val (pe_call (ok_law_right T) (hr.mono (by decide)) (by rfl) T.g_law_right T.F_law_right.kp T.k_law_right .nil pass0 (pa_cons (pe_call (ok_law_made T xk) (hr.mono (by decide)) (by rfl) T.g_law_made T.F_law_made.kp T.k_law_made .nil pass0 (pa_cons (pv 7) (pa_cons (pe_slice sl_list (pv 6) po_none (po_some pe_int)) pa_nil))) (pa_cons (pv 7) (pa_cons (pe_slice sl_list (pv 6) po_none (po_some pe_int)) pa_nil)))))) (pss_one (ps_ret pe_bl)) pss_nil))))
      (pss_cons (ps_if (pt_not (pt_val (pe_call (ok_law_right T) (hr.mono (by decide)) (by rfl) T.g_law_right T.F_law_right.kp T.k_law_right .nil pass0 (pa_cons (pe_call (ok_question_of T J xk) (hr.mono (by decide)) (by rfl) T.g_question_of T.F_question_of.kp T.k_question_of .nil pass0 (pa_cons (x_join pe_str (pe_op op_cat (pe_lst (pa_cons pe_str pa_nil)) (pv 6))) pa_nil)) (pa_cons pe_str (pa_cons (pv 6) pa_nil)))))) (pss_one (ps_ret pe_bl)) pss_nil)
      (pss_cons (ps_if (pt_not (pt_val (pe_call (ok_law_right T) (hr.mono (by decide)) (by rfl) T.g_law_right T.F_law_right.kp T.k_law_right .nil pass0 (pa_cons (pe_call (ok_law_made T xk) (hr.mono (by decide)) (by rfl) T.g_law_made T.F_law_made.kp T.k_law_made .nil pass0 (pa_cons pe_str (pa_cons (pv 6) pa_nil))) (pa_cons pe_str (pa_cons (pv 6) pa_nil)))))) (pss_one (ps_ret pe_bl)) pss_nil)
      (pss_cons (ps_set (i := 7) sc_law.nd rfl (Or.inl rfl) (pe_ix ix_list (pv 2) (pe_op op_mod (pv 3) pe_int) (fun _ _ => rfl)))
      (pss_one (ps_if (PW.pt (pw_or (pt_not (pt_val (pe_call (ok_law_right T) (hr.mono (by decide)) (by rfl) T.g_law_right T.F_law_right.kp T.k_law_right .nil pass0 (pa_cons (pe_call (ok_question_of T J xk) (hr.mono (by decide)) (by rfl) T.g_question_of T.F_question_of.kp T.k_question_of .nil pass0 (pa_cons (pv 7) pa_nil)) (pa_cons (pv 7) (pa_cons (pe_lst pa_nil) pa_nil)))))) (pw_or1 (pt_not (pt_val (pe_call (ok_law_right T) (hr.mono (by decide)) (by rfl) T.g_law_right T.F_law_right.kp T.k_law_right .nil pass0 (pa_cons (pe_call (ok_law_made T xk) (hr.mono (by decide)) (by rfl) T.g_law_made T.F_law_made.kp T.k_law_made .nil pass0 (pa_cons (pv 7) (pa_cons (pe_lst pa_nil) pa_nil))) (pa_cons (pv 7) (pa_cons (pe_lst pa_nil) pa_nil))))))))) (pss_one (ps_ret pe_bl)) pss_nil))))))))))
      (pss_one (ps_ret pe_bl))))), ?_⟩
    walk_at "go"
    refine ⟨by walk_at "sz", fun p1 hp1 => ?_⟩
    generalize hG : upd H p1 _ = H1
    have s1 : Same H H1 := by rw [← hG]; exact Same.new hp1
    have e1 : H1 p1 = some (.lst (twosW.map V.str)) := by rw [← hG, upd_same]; rfl
    clear hG
    walk_at "go"
    refine ⟨by walk_at "sz", fun p2 hp2 => ?_⟩
    generalize hG : upd H1 p2 _ = H2
    have s2 : Same H1 H2 := by rw [← hG]; exact Same.new hp2
    have e2 : H2 p2 = some (.lst (wholesW.map V.str)) := by rw [← hG, upd_same]; rfl
    clear hG
    walk_at "go"
    refine i_lenL ((s1.trans s2).seq hS) ?_
    rw [List.length_map]
    walk_at "go"
    have s02 : Same H H2 := s1.trans s2
    refine for_it walk_range (fun i σ H' => Same H2 H' ∧ ∃ v3 v4 v5 v6 v7, σ = [some (.ref a), some (.ref p1), some (.ref p2), v3, v4, v5, v6, v7, none])
      ⟨Same.refl _, none, none, none, none, none, rfl⟩ (fun _ _ _ _ _ => trivial) ?_ ?_
    · rintro i v σ H3 H4 hi ⟨s3, v3, v4, v5, v6, v7, rfl⟩ ⟨rfl, rfl⟩
      walk_at "go"
      refine ⟨a, ns, 0 + (i : Int), rfl, by omega, by omega, (s02.trans s3).seq hS, by omega, fun n n0 n1 => ?_⟩
      walk_at "go"
      refine ⟨n, rfl, n0, fun pa nn H5 s5 hpa ea hlen hgn => ?_⟩
      walk_at "go"
      refine ⟨by walk_at "sz", fun pb hpb => ?_⟩
      generalize hG : upd H5 pb _ = H6
      have s6 : Same H5 H6 := by rw [← hG]; exact Same.new hpb
      have eb : H6 pb = some (.lst ((["way", "past", "together", "pieces", "border", "at"] : List Str).map V.str)) := by rw [← hG, upd_same]; rfl
      clear hG
      walk_at "go"
      refine ⟨by walk_at "sz", fun pc hpc => ?_⟩
      generalize hG : upd H6 pc _ = H7
      have s7 : Same H6 H7 := by rw [← hG]; exact Same.new hpc
      have ec : H7 pc = some (.lst [.ref pa, .ref pb]) := by rw [← hG, upd_same]
      clear hG
      have ea7 := s7 _ _ (s6 _ _ ea)
      have eb7 := s7 _ _ eb
      have s27 : Same H2 H7 := (s3.trans s5).trans (s6.trans s7)
      walk_at "go"
      have pick : ∃ pn xs, atI [V.ref pa, V.ref pb] (n / 11 % 2) = some (.ref pn) ∧ H7 pn = some (.lst ((xs : List Str).map V.str)) ∧ (∀ y ∈ xs, Gn y) ∧ 0 < (xs.length : Int) ∧ xs.length ≤ 12 := by
        have h2 : n / 11 % 2 = 0 ∨ n / 11 % 2 = 1 := by omega
        rcases h2 with h | h
        · exact ⟨pa, nn, by rw [h]; exact atI_nat (j := 0) rfl, ea7, hgn, by omega, by omega⟩
        · refine ⟨pb, _, by rw [h]; exact atI_nat (j := 1) rfl, eb7, ?_, by decide, by decide⟩
          have : ∀ y ∈ (["way", "past", "together", "pieces", "border", "at"] : List Str), (isNm y && (TX.okS y && decide (y.length ≤ 12))) = true := by decide +kernel
          intro y hy
          have := this y hy
          rw [Bool.and_eq_true, Bool.and_eq_true, decide_eq_true_eq] at this
          exact this
      obtain ⟨pn, nms, epn, exs, hgx, hx0, hx12⟩ := pick
      refine i_ixL (SqL.of ec) epn ?_
      clear ec epn ea7 eb7 ea eb hgn hlen
      walk_at "go"
      intro D hD
      refine lc_it walk_range (fun j H' => Same H7 H' ∧ ∃ us : List Str, H' D = some (.lst (us.map V.str)) ∧ us.length = j ∧ ∀ y ∈ us, Gn y)
        ⟨Same.new hD, [], upd_same, rfl, by simp⟩ (fun _ _ _ _ => trivial) ?_ ?_
      · rintro j v H11 H12 hj ⟨s11, us, eD, hl, hus⟩ ⟨rfl, rfl⟩
        have hj3 : j < 3 := hj
        walk_at "go"
        refine ⟨rfl, ?_⟩
        walk_at "go"
        refine i_lenL (SqL.of (s11 _ _ exs)) ?_
        rw [List.length_map]
        walk_at "go"
        generalize n / (22 + (0 + (j : Int))) = q9
        obtain ⟨y, ey, gy⟩ := name_at hgx (r := q9 % (nms.length : Int)) (Int.emod_nonneg _ (by omega)) (Int.emod_lt_of_pos _ hx0)
        refine i_ixL (SqL.of (s11 _ _ exs)) ey ?_
        refine ⟨_, eD, by rw [List.length_map, sizeLine_eq]; omega, Same.mut s11 hD, us ++ [y], ?_, by simp [hl], ?_⟩
        · rw [upd_same, List.map_append]; rfl
        · intro u hu2
          rcases List.mem_append.mp hu2 with h | h
          · exact hus u h
          · rw [List.mem_singleton.mp h]; exact gy
      rintro H8 ⟨s8, xs, e6, hl3, hgs⟩
      have hl3 : xs.length = 3 := hl3
      have s28 := s27.trans s8
      generalize D = p6 at e6 ⊢
      clear hD exs hgx hx0 hx12 s8 s7 s6 s5 s3
      walk_at "go"
      refine i_kListI (SqL.of (s28 _ _ (s2 _ _ e1))) ?_
      refine for_it walk_list (fun _ σ H' => Same H8 H' ∧ ∃ v7, σ = [some (.ref a), some (.ref p1), some (.ref p2), some (.int (0 + (i : Int))), some (.int n), some (.ref pn), some (.ref p6), v7, none])
        ⟨Same.refl _, _, rfl⟩ (fun i σ H' _ h => SqL.of (h.1 _ _ (s28 _ _ (s2 _ _ e1)))) ?_ ?_
      · rintro j v σ H9 H10 hj ⟨s9', v7, rfl⟩ ⟨rfl, hv⟩
        rw [List.length_map] at hj
        rw [List.getElem?_map, List.getElem?_eq_getElem hj] at hv
        cases hv
        have hzm := List.getElem_mem hj
        generalize twosW[j] = z at hzm ⊢
        obtain ⟨us, hus⟩ : ∃ us, us = xs.take (2 : Int).toNat := ⟨_, rfl⟩
        have wd : Wd z us 2 := wd_of (List.mem_append_left _ hzm) (twos_two z hzm) (by rw [hus, List.length_take, hl3]; decide) (fun y hy => hgs y (List.mem_of_mem_take (by rw [← hus]; exact hy)))
        walk_at "go"
        refine ⟨by walk_at "sz", fun pw hpw => ?_⟩
        have sa : Same H10 (upd H10 pw (.lst [.str z])) := Same.new hpw
        have ew : (upd H10 pw (.lst [.str z])) pw = some (.lst [.str z]) := upd_same
        generalize upd H10 pw (.lst [.str z]) = Ha at sa ew ⊢
        walk_at "go"
        refine i_slL (SqL.of (sa _ _ (s9' _ _ e6))) fun ps hps => ?_
        rw [cut_pre V.str xs (by decide), ← hus]
        have sb : Same Ha (upd Ha ps (.lst (us.map V.str))) := Same.new hps
        have ep : (upd Ha ps (.lst (us.map V.str))) ps = some (.lst (us.map V.str)) := upd_same
        generalize upd Ha ps (.lst (us.map V.str)) = Hb at sb ep ⊢
        walk_at "go"
        have lu : (us.map V.str).length = us.length := List.length_map _
        refine i_cat (sb _ _ ew) ep (by rw [lu, sizeLine_eq]; have := wd.n3; show 1 + _ ≤ _; omega) fun pc hpc => ?_
        have sc : Same Hb (upd Hb pc (.lst ([.str z] ++ us.map V.str))) := Same.new hpc
        have ec : (upd Hb pc (.lst ([.str z] ++ us.map V.str))) pc = some (.lst ((z :: us).map V.str)) := upd_same
        generalize upd Hb pc (.lst ([.str z] ++ us.map V.str)) = Hc at sc ec ⊢
        walk_at "go"
        refine i_join (SqL.of ec) (Nat.le_trans wd.sum (by decide)) ?_
        walk_at "go"
        refine ⟨_, z, us, _, rfl, wd.len, wd.sp, wd.hm, wd.hl, fun y hy => (wd.nm y hy).1, fun a1 C1 Hd sd ha1 hq1 => ?_⟩
        have s9 : Same H8 Hd := (s9'.trans (sa.trans sb)).trans (sc.trans sd)
        walk_at "go"
        refine i_slL (SqL.of (s9 _ _ e6)) fun pr hpr => ?_
        rw [cut_pre V.str xs (by decide), ← hus]
        have se : Same Hd (upd Hd pr (.lst (us.map V.str))) := Same.new hpr
        have er : (upd Hd pr (.lst (us.map V.str))) pr = some (.lst (us.map V.str)) := upd_same
        generalize upd Hd pr (.lst (us.map V.str)) = He at se er ⊢
        walk_at "go"
        refine ⟨a1, C1, z, pr, us, rfl, hq1.same se, er, gg, Nat.le_trans wd.lz (by decide), wd.oz, wd.on, wd.n3, fun Hx sf => ?_⟩
        have sx : Same H8 Hx := s9.trans (se.trans sf)
        clear sf se er hq1 s9 ha1 
        walk_at "go"
        refine i_slL (SqL.of (sx _ _ e6)) fun ps hps => ?_
        rw [cut_pre V.str xs (by decide), ← hus]
        have sb : Same Hx (upd Hx ps (.lst (us.map V.str))) := Same.new hps
        have ep : (upd Hx ps (.lst (us.map V.str))) ps = some (.lst (us.map V.str)) := upd_same
        generalize upd Hx ps (.lst (us.map V.str)) = Hb at sb ep ⊢
        walk_at "go"
        refine ⟨z, ps, us, _, rfl, ep, wd.hm, wd.hl, fun a1 C1 Hd sd ha1 hq1 => ?_⟩
        have s9 : Same H8 Hd := (sx.trans sb).trans sd
        walk_at "go"
        refine i_slL (SqL.of (s9 _ _ e6)) fun pr hpr => ?_
        rw [cut_pre V.str xs (by decide), ← hus]
        have se : Same Hd (upd Hd pr (.lst (us.map V.str))) := Same.new hpr
        have er : (upd Hd pr (.lst (us.map V.str))) pr = some (.lst (us.map V.str)) := upd_same
        generalize upd Hd pr (.lst (us.map V.str)) = He at se er ⊢
        walk_at "go"
        refine ⟨a1, C1, z, pr, us, rfl, hq1.same se, er, gg, Nat.le_trans wd.lz (by decide), wd.oz, wd.on, wd.n3, fun Hy sf => ?_⟩
        have sy : Same H8 Hy := s9.trans (se.trans sf)
        clear sf se er hq1 s9 ha1 
        walk_at "go"
        exact ⟨sy, _, rfl⟩
      rintro σ H9 ⟨s9', v7', rfl⟩
      walk_at "go"
      have wd : Wd "past" xs 3 := wd_of (List.mem_append_right _ (List.mem_cons_self ..)) (by decide +kernel) hl3 hgs
      refine ⟨by walk_at "sz", fun pw hpw => ?_⟩
      have sa : Same H9 (upd H9 pw (.lst [.str "past"])) := Same.new hpw
      have ew : (upd H9 pw (.lst [.str "past"])) pw = some (.lst [.str "past"]) := upd_same
      generalize upd H9 pw (.lst [.str "past"]) = Ha at sa ew ⊢
      walk_at "go"
      have lu : (xs.map V.str).length = xs.length := List.length_map _
      have s8a := s9'.trans sa
      refine i_cat ew (s8a _ _ e6) (by rw [lu, sizeLine_eq, hl3]; decide) fun pc hpc => ?_
      have sc : Same Ha (upd Ha pc (.lst ([.str "past"] ++ xs.map V.str))) := Same.new hpc
      have ec : (upd Ha pc (.lst ([.str "past"] ++ xs.map V.str))) pc = some (.lst ((("past" : Str) :: xs).map V.str)) := upd_same
      generalize upd Ha pc (.lst ([.str "past"] ++ xs.map V.str)) = Hc at sc ec ⊢
      walk_at "go"
      refine i_join (SqL.of ec) (Nat.le_trans wd.sum (by decide)) ?_
      walk_at "go"
      refine ⟨_, "past", xs, _, rfl, wd.len, wd.sp, wd.hm, wd.hl, fun y hy => (wd.nm y hy).1, fun a1 C1 Hd sd ha1 hq1 => ?_⟩
      have s8d := s8a.trans (sc.trans sd)
      walk_at "go"
      refine ⟨a1, C1, "past", p6, xs, rfl, hq1, s8d _ _ e6, gg, by decide +kernel, wd.oz, wd.on, wd.n3, fun He se => ?_⟩
      have s8e := s8d.trans se
      walk_at "go"
      refine ⟨"past", p6, xs, _, rfl, s8e _ _ e6, wd.hm, wd.hl, fun a2 C2 Hf sf ha2 hq2 => ?_⟩
      have s8f := s8e.trans sf
      walk_at "go"
      refine ⟨a2, C2, "past", p6, xs, rfl, hq2, s8f _ _ e6, gg, by decide +kernel, wd.oz, wd.on, wd.n3, fun Hg sg => ?_⟩
      have s8g := s8f.trans sg
      walk_at "go"
      have hz : ∃ z, atI (wholesW.map V.str) ((0 + (i : Int)) % 6) = some (.str z) ∧ z ∈ wholesW := by
        obtain ⟨j, hj⟩ := Int.eq_ofNat_of_zero_le (show 0 ≤ (0 + (i : Int)) % 6 by omega)
        rw [hj]
        have hj6 : j < wholesW.length := by show j < 6; omega
        exact ⟨wholesW[j], atI_nat (by rw [List.getElem?_map, List.getElem?_eq_getElem hj6]; rfl), List.getElem_mem hj6⟩
      obtain ⟨z, ez, hzm⟩ := hz
      refine i_ixL (SqL.of (s28 _ _ e2 |> s8g _ _)) ez ?_
      have wz : Wd z [] 0 := wd_of (List.mem_append_right _ (List.mem_cons_of_mem _ hzm)) (wholes_none z hzm) rfl (by simp)
      have hsp := wz.sp
      rw [join_one] at hsp
      walk_at "go"
      refine ⟨z, z, [], _, rfl, by have := wz.lz; omega, hsp, wz.hm, rfl, by simp, fun a3 C3 Hh sh ha3 hq3 => ?_⟩
      walk_at "go"
      refine ⟨by walk_at "sz", fun p3 hp3 => ?_⟩
      have sn3 : Same Hh (upd Hh p3 (.lst [])) := Same.new hp3
      have en3 : (upd Hh p3 (.lst [])) p3 = some (.lst (([] : List Str).map V.str)) := upd_same
      generalize upd Hh p3 (.lst []) = Hi at sn3 en3 ⊢
      walk_at "go"
      refine ⟨a3, C3, z, p3, [], rfl, hq3.same sn3, en3, gg, by have := wz.lz; omega, wz.oz, by simp, by decide, fun Hj sj => ?_⟩
      have s8j := s8g.trans (sh.trans (sn3.trans sj))
      walk_at "go"
      refine ⟨by walk_at "sz", fun p4 hp4 => ?_⟩
      have sn4 : Same Hj (upd Hj p4 (.lst [])) := Same.new hp4
      have en4 : (upd Hj p4 (.lst [])) p4 = some (.lst (([] : List Str).map V.str)) := upd_same
      generalize upd Hj p4 (.lst []) = Hk at sn4 en4 ⊢
      walk_at "go"
      refine ⟨z, p4, [], _, rfl, en4, wz.hm, rfl, fun a4 C4 Hl sl ha4 hq4 => ?_⟩
      walk_at "go"
      refine ⟨by walk_at "sz", fun p5 hp5 => ?_⟩
      have sn5 : Same Hl (upd Hl p5 (.lst [])) := Same.new hp5
      have en5 : (upd Hl p5 (.lst [])) p5 = some (.lst (([] : List Str).map V.str)) := upd_same
      generalize upd Hl p5 (.lst []) = Hm at sn5 en5 ⊢
      walk_at "go"
      refine ⟨a4, C4, z, p5, [], rfl, hq4.same sn5, en5, gg, by have := wz.lz; omega, wz.oz, by simp, by decide, fun Hn sn => ?_⟩
      have s8n := s8j.trans (sn4.trans (sl.trans (sn5.trans sn)))
      walk_at "go"
      exact ⟨s28.trans s8n, _, _, _, _, _, rfl⟩
    · rintro σ H4 ⟨s4, v3, v4, v5, v6, v7, rfl⟩
      walk_at "go"
      exact q H4
end
end K25

set_option Elab.async false
set_option linter.all false
set_option maxRecDepth 100000
set_option maxHeartbeats 4000000
namespace K25
open PySem PySem.Spec PyProof.Rows L2 HX WB

theorem facts {P : Program} {w : World} {K : PySem.W.Frag} {h : Heap} {mg : Str → Option Value} {f : Addr} (X : K.In h) (G : h.Ns mainGlobals mg) (hfa : mg ("law" : Str) = some (.ref f)) (c0 : He.SaysW extra fa fn kts w K) (hP : P.main.file = "/claim/cut.py") (hsup : (P.main.scope.names.lookup ("super" : Str)).isSome = false) :
    ∃ fd : FuncData, (∀ (s : Shared) (v : Value), BindsTo s fd ⟨[v], []⟩ [("_law_script", v)]) ∧ ∀ base : Heap, K.In base → base.Ns mainGlobals mg → FnOk P w K mg base CX0 6 f fd ["_law_script"] (sp_law K) := by
  obtain ⟨xk, c⟩ := c0.x.both
  obtain ⟨fd0, F0⟩ := c.def_ 0 (d := d_has_only) rfl
  obtain ⟨fd1, F1⟩ := c.def_ 1 (d := d_is_name) rfl
  obtain ⟨fd2, F2⟩ := c.def_ 2 (d := d_number_text) rfl
  obtain ⟨fd3, F3⟩ := c.def_ 3 (d := d_need_all) rfl
  obtain ⟨fd4, F4⟩ := c.def_ 4 (d := d_names_in) rfl
  obtain ⟨fd5, F5⟩ := c.def_ 5 (d := d_plain_steps) rfl
  obtain ⟨fd6, F6⟩ := c.def_ 6 (d := d_free_steps) rfl
  obtain ⟨fd7, F7⟩ := c.def_ 7 (d := d_came_from) rfl
  obtain ⟨fd8, F8⟩ := c.def_ 8 (d := d_numbers_to) rfl
  obtain ⟨fd9, F9⟩ := c.def_ 9 (d := d_Way_init) rfl
  obtain ⟨fd10, F10⟩ := c.def_ 10 (d := d_Border_init) rfl
  obtain ⟨fd11, F11⟩ := c.def_ 11 (d := d_Sides_init) rfl
  obtain ⟨fd12, F12⟩ := c.def_ 12 (d := d_OddRing_init) rfl
  obtain ⟨fd13, F13⟩ := c.def_ 13 (d := d_grouped) rfl
  obtain ⟨fd14, F14⟩ := c.def_ 14 (d := d_pieces) rfl
  obtain ⟨fd15, F15⟩ := c.def_ 15 (d := d_way_or_border) rfl
  obtain ⟨fd16, F16⟩ := c.def_ 16 (d := d_together) rfl
  obtain ⟨fd17, F17⟩ := c.def_ 17 (d := d_joining) rfl
  obtain ⟨fd18, F18⟩ := c.def_ 18 (d := d_ring) rfl
  obtain ⟨fd19, F19⟩ := c.def_ 19 (d := d_sides_by) rfl
  obtain ⟨fd20, F20⟩ := c.def_ 20 (d := d_sides) rfl
  obtain ⟨fd21, F21⟩ := c.def_ 21 (d := d_need_points) rfl
  obtain ⟨fd22, F22⟩ := c.def_ 22 (d := d_border_by) rfl
  obtain ⟨fd23, F23⟩ := c.def_ 23 (d := d_way_by) rfl
  obtain ⟨fd24, F24⟩ := c.def_ 24 (d := d_came_plainly) rfl
  obtain ⟨fd25, F25⟩ := c.def_ 25 (d := d_came_without) rfl
  obtain ⟨fd26, F26⟩ := c.def_ 26 (d := d_came_past) rfl
  obtain ⟨fd27, F27⟩ := c.def_ 27 (d := d_must_ties) rfl
  obtain ⟨fd28, F28⟩ := c.def_ 28 (d := d_must_points) rfl
  obtain ⟨fd29, F29⟩ := c.def_ 29 (d := d_way_past) rfl
  obtain ⟨fd30, F30⟩ := c.def_ 30 (d := d_leaves) rfl
  obtain ⟨fd31, F31⟩ := c.def_ 31 (d := d_Ring_init) rfl
  obtain ⟨fd32, F32⟩ := c.def_ 32 (d := d_comes) rfl
  obtain ⟨fd33, F33⟩ := c.def_ 33 (d := d_knots_by_points) rfl
  obtain ⟨fd34, F34⟩ := c.def_ 34 (d := d_is_led_into) rfl
  obtain ⟨fd35, F35⟩ := c.def_ 35 (d := d_first_free) rfl
  obtain ⟨fd36, F36⟩ := c.def_ 36 (d := d_knots) rfl
  obtain ⟨fd37, F37⟩ := c.def_ 37 (d := d_ring_through) rfl
  obtain ⟨fd38, F38⟩ := c.def_ 38 (d := d_starts) rfl
  obtain ⟨fd39, F39⟩ := c.def_ 39 (d := d_Forest_init) rfl
  obtain ⟨fd40, F40⟩ := c.def_ 40 (d := d_Least_init) rfl
  obtain ⟨fd41, F41⟩ := c.def_ 41 (d := d_Fewest_init) rfl
  obtain ⟨fd42, F42⟩ := c.def_ 42 (d := d_Apart_init) rfl
  obtain ⟨fd43, F43⟩ := c.def_ 43 (d := d_lightest) rfl
  obtain ⟨fd44, F44⟩ := c.def_ 44 (d := d_least_came) rfl
  obtain ⟨fd45, F45⟩ := c.def_ 45 (d := d_least_way) rfl
  obtain ⟨fd46, F46⟩ := c.def_ 46 (d := d_layers) rfl
  obtain ⟨fd47, F47⟩ := c.def_ 47 (d := d_fewest) rfl
  obtain ⟨fd48, F48⟩ := c.def_ 48 (d := d_open_steps) rfl
  obtain ⟨fd49, F49⟩ := c.def_ 49 (d := d_gone_steps) rfl
  obtain ⟨fd50, F50⟩ := c.def_ 50 (d := d_go) rfl
  obtain ⟨fd51, F51⟩ := c.def_ 51 (d := d_ways_gone) rfl
  obtain ⟨fd52, F52⟩ := c.def_ 52 (d := d_ties_out) rfl
  obtain ⟨fd53, F53⟩ := c.def_ 53 (d := d_ways_apart) rfl
  obtain ⟨fd54, F54⟩ := c.def_ 54 (d := d_row) rfl
  obtain ⟨fd55, F55⟩ := c.def_ 55 (d := d_number_row) rfl
  obtain ⟨fd56, F56⟩ := c.def_ 56 (d := d_name_rows) rfl
  obtain ⟨fd57, F57⟩ := c.def_ 57 (d := d_border_rows) rfl
  obtain ⟨fd58, F58⟩ := c.def_ 58 (d := d_way_rows) rfl
  obtain ⟨fd59, F59⟩ := c.def_ 59 (d := d_Question_text) rfl
  obtain ⟨fd60, F60⟩ := c.def_ 60 (d := d_Question_matter) rfl
  obtain ⟨fd61, F61⟩ := c.def_ 61 (d := d_Question_has_loads) rfl
  obtain ⟨fd62, F62⟩ := c.def_ 62 (d := d_Question_told) rfl
  obtain ⟨fd63, F63⟩ := c.def_ 63 (d := d_OfTwo_init) rfl
  obtain ⟨fd64, F64⟩ := c.def_ 64 (d := d_OfTwo_matter) rfl
  obtain ⟨fd65, F65⟩ := c.def_ 65 (d := d_HangsTogether_told) rfl
  obtain ⟨fd66, F66⟩ := c.def_ 66 (d := d_ComesThere_told) rfl
  obtain ⟨fd67, F67⟩ := c.def_ 67 (d := d_MustTies_told) rfl
  obtain ⟨fd68, F68⟩ := c.def_ 68 (d := d_MustPoints_told) rfl
  obtain ⟨fd69, F69⟩ := c.def_ 69 (d := d_PastPoint_init) rfl
  obtain ⟨fd70, F70⟩ := c.def_ 70 (d := d_PastPoint_matter) rfl
  obtain ⟨fd71, F71⟩ := c.def_ 71 (d := d_PastPoint_told) rfl
  obtain ⟨fd72, F72⟩ := c.def_ 72 (d := d_RingThrough_told) rfl
  obtain ⟨fd73, F73⟩ := c.def_ 73 (d := d_LeastWay_has_loads) rfl
  obtain ⟨fd74, F74⟩ := c.def_ 74 (d := d_LeastWay_told) rfl
  obtain ⟨fd75, F75⟩ := c.def_ 75 (d := d_FewestTies_told) rfl
  obtain ⟨fd76, F76⟩ := c.def_ 76 (d := d_WaysApart_told) rfl
  obtain ⟨fd77, F77⟩ := c.def_ 77 (d := d_ThePieces_told) rfl
  obtain ⟨fd78, F78⟩ := c.def_ 78 (d := d_TheKnots_told) rfl
  obtain ⟨fd79, F79⟩ := c.def_ 79 (d := d_TwoSides_told) rfl
  obtain ⟨fd80, F80⟩ := c.def_ 80 (d := d_LightestForest_has_loads) rfl
  obtain ⟨fd81, F81⟩ := c.def_ 81 (d := d_LightestForest_told) rfl
  obtain ⟨fd82, F82⟩ := c.def_ 82 (d := d_TheStarts_told) rfl
  obtain ⟨fd83, F83⟩ := c.def_ 83 (d := d_TheLeaves_told) rfl
  obtain ⟨fd84, F84⟩ := c.def_ 84 (d := d_need_names) rfl
  obtain ⟨fd85, F85⟩ := c.def_ 85 (d := d_question) rfl
  obtain ⟨fd86, F86⟩ := c.def_ 86 (d := d_question_of) rfl
  obtain ⟨fd87, F87⟩ := c.def_ 87 (d := d_law_number) rfl
  obtain ⟨fd88, F88⟩ := c.def_ 88 (d := d_law_names) rfl
  obtain ⟨fd89, F89⟩ := c.def_ 89 (d := d_law_kinds) rfl
  obtain ⟨fd90, F90⟩ := c.def_ 90 (d := d_law_made) rfl
  obtain ⟨fd91, F91⟩ := c.def_ 91 (d := d_law_right) rfl
  obtain ⟨fd92, F92⟩ := c.def_ 92 (d := d_law) rfl
  let T : Tx K mg := {
    b_NotImplementedError := He.free_ok X G (c.fact 0 (f := .free "NotImplementedError") rfl),
    b_any := He.free_ok X G (c.fact 1 (f := .free "any") rfl),
    b_bool := He.free_ok X G (c.fact 2 (f := .free "bool") rfl),
    b_dict := He.free_ok X G (c.fact 3 (f := .free "dict") rfl),
    b_enumerate := He.free_ok X G (c.fact 4 (f := .free "enumerate") rfl),
    b_isinstance := He.free_ok X G (c.fact 5 (f := .free "isinstance") rfl),
    b_len := He.free_ok X G (c.fact 6 (f := .free "len") rfl),
    b_list := He.free_ok X G (c.fact 7 (f := .free "list") rfl),
    b_max := He.free_ok X G (c.fact 8 (f := .free "max") rfl),
    b_min := He.free_ok X G (c.fact 9 (f := .free "min") rfl),
    b_point := He.free_ok X G (c.fact 10 (f := .free "point") rfl),
    b_range := He.free_ok X G (c.fact 11 (f := .free "range") rfl),
    b_set := He.free_ok X G (c.fact 12 (f := .free "set") rfl),
    b_sorted := He.free_ok X G (c.fact 13 (f := .free "sorted") rfl),
    b_str := He.free_ok X G (c.fact 14 (f := .free "str") rfl),
    b_sum := He.free_ok X G (c.fact 15 (f := .free "sum") rfl),
    b_tie := He.free_ok X G (c.fact 16 (f := .free "tie") rfl),
    g_NAMES_BEHIND := He.glo_ok X G (c.fact 17 (f := .glo "NAMES_BEHIND") rfl),
    c_LETTERS := He.str_ok X G (c.fact 18 (f := .str "LETTERS" "abcdefghijklmnopqrstuvwxyz") rfl),
    c_MOST_LETTERS := He.int_ok X G (c.fact 19 (f := .int "MOST_LETTERS" 12) rfl),
    g_Way := He.glo_ok X G (c.fact 20 (f := .glo "Way") rfl),
    cl_Way := He.cls_ok (c.fact 21 (f := .cls "Way") rfl),
    mk_Way := He.mkr_ok (c.fact 22 (f := .mkr "Way") rfl),
    na_Way_numbers := He.noat_ok (c.fact 23 (f := .noat "Way" "numbers") rfl),
    g_Border := He.glo_ok X G (c.fact 24 (f := .glo "Border") rfl),
    cl_Border := He.cls_ok (c.fact 25 (f := .cls "Border") rfl),
    mk_Border := He.mkr_ok (c.fact 26 (f := .mkr "Border") rfl),
    na_Border_names := He.noat_ok (c.fact 27 (f := .noat "Border" "names") rfl),
    g_Sides := He.glo_ok X G (c.fact 28 (f := .glo "Sides") rfl),
    cl_Sides := He.cls_ok (c.fact 29 (f := .cls "Sides") rfl),
    mk_Sides := He.mkr_ok (c.fact 30 (f := .mkr "Sides") rfl),
    na_Sides_sides := He.noat_ok (c.fact 31 (f := .noat "Sides" "sides") rfl),
    g_OddRing := He.glo_ok X G (c.fact 32 (f := .glo "OddRing") rfl),
    cl_OddRing := He.cls_ok (c.fact 33 (f := .cls "OddRing") rfl),
    mk_OddRing := He.mkr_ok (c.fact 34 (f := .mkr "OddRing") rfl),
    na_OddRing_numbers := He.noat_ok (c.fact 35 (f := .noat "OddRing" "numbers") rfl),
    g_Ring := He.glo_ok X G (c.fact 36 (f := .glo "Ring") rfl),
    cl_Ring := He.cls_ok (c.fact 37 (f := .cls "Ring") rfl),
    mk_Ring := He.mkr_ok (c.fact 38 (f := .mkr "Ring") rfl),
    na_Ring_numbers := He.noat_ok (c.fact 39 (f := .noat "Ring" "numbers") rfl),
    g_Forest := He.glo_ok X G (c.fact 40 (f := .glo "Forest") rfl),
    cl_Forest := He.cls_ok (c.fact 41 (f := .cls "Forest") rfl),
    mk_Forest := He.mkr_ok (c.fact 42 (f := .mkr "Forest") rfl),
    na_Forest_numbers := He.noat_ok (c.fact 43 (f := .noat "Forest" "numbers") rfl),
    na_Forest_load := He.noat_ok (c.fact 44 (f := .noat "Forest" "load") rfl),
    g_Least := He.glo_ok X G (c.fact 45 (f := .glo "Least") rfl),
    cl_Least := He.cls_ok (c.fact 46 (f := .cls "Least") rfl),
    mk_Least := He.mkr_ok (c.fact 47 (f := .mkr "Least") rfl),
    na_Least_numbers := He.noat_ok (c.fact 48 (f := .noat "Least" "numbers") rfl),
    na_Least_load := He.noat_ok (c.fact 49 (f := .noat "Least" "load") rfl),
    na_Least_heights := He.noat_ok (c.fact 50 (f := .noat "Least" "heights") rfl),
    g_Fewest := He.glo_ok X G (c.fact 51 (f := .glo "Fewest") rfl),
    cl_Fewest := He.cls_ok (c.fact 52 (f := .cls "Fewest") rfl),
    mk_Fewest := He.mkr_ok (c.fact 53 (f := .mkr "Fewest") rfl),
    na_Fewest_numbers := He.noat_ok (c.fact 54 (f := .noat "Fewest" "numbers") rfl),
    na_Fewest_layers := He.noat_ok (c.fact 55 (f := .noat "Fewest" "layers") rfl),
    g_Apart := He.glo_ok X G (c.fact 56 (f := .glo "Apart") rfl),
    cl_Apart := He.cls_ok (c.fact 57 (f := .cls "Apart") rfl),
    mk_Apart := He.mkr_ok (c.fact 58 (f := .mkr "Apart") rfl),
    na_Apart_ways := He.noat_ok (c.fact 59 (f := .noat "Apart" "ways") rfl),
    na_Apart_wall := He.noat_ok (c.fact 60 (f := .noat "Apart" "wall") rfl),
    g_Question := He.glo_ok X G (c.fact 61 (f := .glo "Question") rfl),
    g_OfTwo := He.glo_ok X G (c.fact 62 (f := .glo "OfTwo") rfl),
    g_HangsTogether := He.glo_ok X G (c.fact 63 (f := .glo "HangsTogether") rfl),
    g_ComesThere := He.glo_ok X G (c.fact 64 (f := .glo "ComesThere") rfl),
    g_MustTies := He.glo_ok X G (c.fact 65 (f := .glo "MustTies") rfl),
    g_MustPoints := He.glo_ok X G (c.fact 66 (f := .glo "MustPoints") rfl),
    g_PastPoint := He.glo_ok X G (c.fact 67 (f := .glo "PastPoint") rfl),
    g_RingThrough := He.glo_ok X G (c.fact 68 (f := .glo "RingThrough") rfl),
    g_LeastWay := He.glo_ok X G (c.fact 69 (f := .glo "LeastWay") rfl),
    g_FewestTies := He.glo_ok X G (c.fact 70 (f := .glo "FewestTies") rfl),
    g_WaysApart := He.glo_ok X G (c.fact 71 (f := .glo "WaysApart") rfl),
    g_ThePieces := He.glo_ok X G (c.fact 72 (f := .glo "ThePieces") rfl),
    g_TheKnots := He.glo_ok X G (c.fact 73 (f := .glo "TheKnots") rfl),
    g_TwoSides := He.glo_ok X G (c.fact 74 (f := .glo "TwoSides") rfl),
    g_LightestForest := He.glo_ok X G (c.fact 75 (f := .glo "LightestForest") rfl),
    g_TheStarts := He.glo_ok X G (c.fact 76 (f := .glo "TheStarts") rfl),
    g_TheLeaves := He.glo_ok X G (c.fact 77 (f := .glo "TheLeaves") rfl),
    b_super := He.free_ok X G (c.fact 78 (f := .free "super") rfl),
    g_WebError := He.glo_ok X G (c.fact 79 (f := .glo "WebError") rfl),
    g_BadText := He.glo_ok X G (c.fact 80 (f := .glo "BadText") rfl),
    xm_BadText := He.exm_ok (c.fact 81 (f := .exm "BadText" "WebError" true) rfl),
    g_has_only := He.glo_ok X G (c.fact 82 (f := .glo "_has_only") rfl),
    g_is_name := He.glo_ok X G (c.fact 83 (f := .glo "is_name") rfl),
    g_number_text := He.glo_ok X G (c.fact 84 (f := .glo "number_text") rfl),
    g_need_all := He.glo_ok X G (c.fact 85 (f := .glo "need_all") rfl),
    g_names_in := He.glo_ok X G (c.fact 86 (f := .glo "names_in") rfl),
    g_plain_steps := He.glo_ok X G (c.fact 87 (f := .glo "plain_steps") rfl),
    g_free_steps := He.glo_ok X G (c.fact 88 (f := .glo "free_steps") rfl),
    g_came_from := He.glo_ok X G (c.fact 89 (f := .glo "came_from") rfl),
    g_numbers_to := He.glo_ok X G (c.fact 90 (f := .glo "numbers_to") rfl),
    g_grouped := He.glo_ok X G (c.fact 91 (f := .glo "grouped") rfl),
    g_pieces := He.glo_ok X G (c.fact 92 (f := .glo "pieces") rfl),
    g_way_or_border := He.glo_ok X G (c.fact 93 (f := .glo "way_or_border") rfl),
    g_together := He.glo_ok X G (c.fact 94 (f := .glo "together") rfl),
    g_joining := He.glo_ok X G (c.fact 95 (f := .glo "joining") rfl),
    g_ring := He.glo_ok X G (c.fact 96 (f := .glo "_ring") rfl),
    g_sides_by := He.glo_ok X G (c.fact 97 (f := .glo "_sides_by") rfl),
    g_sides := He.glo_ok X G (c.fact 98 (f := .glo "sides") rfl),
    g_need_points := He.glo_ok X G (c.fact 99 (f := .glo "need_points") rfl),
    g_border_by := He.glo_ok X G (c.fact 100 (f := .glo "border_by") rfl),
    g_way_by := He.glo_ok X G (c.fact 101 (f := .glo "way_by") rfl),
    g_came_plainly := He.glo_ok X G (c.fact 102 (f := .glo "_came_plainly") rfl),
    g_came_without := He.glo_ok X G (c.fact 103 (f := .glo "_came_without") rfl),
    g_came_past := He.glo_ok X G (c.fact 104 (f := .glo "_came_past") rfl),
    g_must_ties := He.glo_ok X G (c.fact 105 (f := .glo "must_ties") rfl),
    g_must_points := He.glo_ok X G (c.fact 106 (f := .glo "must_points") rfl),
    g_way_past := He.glo_ok X G (c.fact 107 (f := .glo "way_past") rfl),
    g_leaves := He.glo_ok X G (c.fact 108 (f := .glo "leaves") rfl),
    g_comes := He.glo_ok X G (c.fact 109 (f := .glo "comes") rfl),
    g_knots_by_points := He.glo_ok X G (c.fact 110 (f := .glo "_knots_by_points") rfl),
    g_is_led_into := He.glo_ok X G (c.fact 111 (f := .glo "_is_led_into") rfl),
    g_first_free := He.glo_ok X G (c.fact 112 (f := .glo "_first_free") rfl),
    g_knots := He.glo_ok X G (c.fact 113 (f := .glo "knots") rfl),
    g_ring_through := He.glo_ok X G (c.fact 114 (f := .glo "ring_through") rfl),
    g_starts := He.glo_ok X G (c.fact 115 (f := .glo "starts") rfl),
    g_lightest := He.glo_ok X G (c.fact 116 (f := .glo "lightest") rfl),
    g_least_came := He.glo_ok X G (c.fact 117 (f := .glo "_least_came") rfl),
    g_least_way := He.glo_ok X G (c.fact 118 (f := .glo "least_way") rfl),
    g_layers := He.glo_ok X G (c.fact 119 (f := .glo "_layers") rfl),
    g_fewest := He.glo_ok X G (c.fact 120 (f := .glo "fewest") rfl),
    g_open_steps := He.glo_ok X G (c.fact 121 (f := .glo "_open_steps") rfl),
    g_gone_steps := He.glo_ok X G (c.fact 122 (f := .glo "_gone_steps") rfl),
    g_go := He.glo_ok X G (c.fact 123 (f := .glo "_go") rfl),
    g_ways_gone := He.glo_ok X G (c.fact 124 (f := .glo "_ways_gone") rfl),
    g_ties_out := He.glo_ok X G (c.fact 125 (f := .glo "_ties_out") rfl),
    g_ways_apart := He.glo_ok X G (c.fact 126 (f := .glo "ways_apart") rfl),
    g_row := He.glo_ok X G (c.fact 127 (f := .glo "_row") rfl),
    g_number_row := He.glo_ok X G (c.fact 128 (f := .glo "_number_row") rfl),
    g_name_rows := He.glo_ok X G (c.fact 129 (f := .glo "_name_rows") rfl),
    g_border_rows := He.glo_ok X G (c.fact 130 (f := .glo "_border_rows") rfl),
    g_way_rows := He.glo_ok X G (c.fact 131 (f := .glo "_way_rows") rfl),
    g_need_names := He.glo_ok X G (c.fact 132 (f := .glo "_need_names") rfl),
    g_question := He.glo_ok X G (c.fact 133 (f := .glo "_question") rfl),
    g_question_of := He.glo_ok X G (c.fact 134 (f := .glo "question_of") rfl),
    g_law_number := He.glo_ok X G (c.fact 135 (f := .glo "_law_number") rfl),
    g_law_names := He.glo_ok X G (c.fact 136 (f := .glo "_law_names") rfl),
    g_law_kinds := He.glo_ok X G (c.fact 137 (f := .glo "_law_kinds") rfl),
    g_law_made := He.glo_ok X G (c.fact 138 (f := .glo "_law_made") rfl),
    g_law_right := He.glo_ok X G (c.fact 139 (f := .glo "_law_right") rfl),
    g_law := He.glo_ok X G (c.fact 140 (f := .glo "law") rfl),
    fd_has_only := fd0,
    F_has_only := F0,
    k_has_only := FunD.bindsN F0 fun _ _ _ _ _ _ us hl => match us, hl with | [_, _], _ => rfl,
    fd_is_name := fd1,
    F_is_name := F1,
    k_is_name := FunD.bindsN F1 fun _ _ _ _ _ _ us hl => match us, hl with | [_], _ => rfl,
    fd_number_text := fd2,
    F_number_text := F2,
    k_number_text := FunD.bindsN F2 fun _ _ _ _ _ _ us hl => match us, hl with | [_], _ => rfl,
    fd_need_all := fd3,
    F_need_all := F3,
    k_need_all := FunD.bindsN F3 fun _ _ _ _ _ _ us hl => match us, hl with | [_, _], _ => rfl,
    fd_names_in := fd4,
    F_names_in := F4,
    k_names_in := FunD.bindsN F4 fun _ _ _ _ _ _ us hl => match us, hl with | [_, _], _ => rfl,
    fd_plain_steps := fd5,
    F_plain_steps := F5,
    k_plain_steps := FunD.bindsN F5 fun _ _ _ _ _ _ us hl => match us, hl with | [_, _], _ => rfl,
    fd_free_steps := fd6,
    F_free_steps := F6,
    k_free_steps := FunD.bindsN F6 fun _ _ _ _ _ _ us hl => match us, hl with | [_, _], _ => rfl,
    fd_came_from := fd7,
    F_came_from := F7,
    k_came_from := FunD.bindsN F7 fun _ _ _ _ _ _ us hl => match us, hl with | [_, _], _ => rfl,
    fd_numbers_to := fd8,
    F_numbers_to := F8,
    k_numbers_to := FunD.bindsN F8 fun _ _ _ _ _ _ us hl => match us, hl with | [_, _], _ => rfl,
    fd_Way_init := fd9,
    F_Way_init := F9,
    k_Way_init := FunD.bindsN F9 fun _ _ _ _ _ _ us hl => match us, hl with | [_, _], _ => rfl,
    fd_Border_init := fd10,
    F_Border_init := F10,
    k_Border_init := FunD.bindsN F10 fun _ _ _ _ _ _ us hl => match us, hl with | [_, _], _ => rfl,
    fd_Sides_init := fd11,
    F_Sides_init := F11,
    k_Sides_init := FunD.bindsN F11 fun _ _ _ _ _ _ us hl => match us, hl with | [_, _], _ => rfl,
    fd_OddRing_init := fd12,
    F_OddRing_init := F12,
    k_OddRing_init := FunD.bindsN F12 fun _ _ _ _ _ _ us hl => match us, hl with | [_, _], _ => rfl,
    fd_grouped := fd13,
    F_grouped := F13,
    k_grouped := FunD.bindsN F13 fun _ _ _ _ _ _ us hl => match us, hl with | [_, _], _ => rfl,
    fd_pieces := fd14,
    F_pieces := F14,
    k_pieces := FunD.bindsN F14 fun _ _ _ _ _ _ us hl => match us, hl with | [_], _ => rfl,
    fd_way_or_border := fd15,
    F_way_or_border := F15,
    k_way_or_border := FunD.bindsN F15 fun _ _ _ _ _ _ us hl => match us, hl with | [_, _, _], _ => rfl,
    fd_together := fd16,
    F_together := F16,
    k_together := FunD.bindsN F16 fun _ _ _ _ _ _ us hl => match us, hl with | [_, _, _], _ => rfl,
    fd_joining := fd17,
    F_joining := F17,
    k_joining := FunD.bindsN F17 fun _ _ _ _ _ _ us hl => match us, hl with | [_, _], _ => rfl,
    fd_ring := fd18,
    F_ring := F18,
    k_ring := FunD.bindsN F18 fun _ _ _ _ _ _ us hl => match us, hl with | [_, _, _], _ => rfl,
    fd_sides_by := fd19,
    F_sides_by := F19,
    k_sides_by := FunD.bindsN F19 fun _ _ _ _ _ _ us hl => match us, hl with | [_, _], _ => rfl,
    fd_sides := fd20,
    F_sides := F20,
    k_sides := FunD.bindsN F20 fun _ _ _ _ _ _ us hl => match us, hl with | [_], _ => rfl,
    fd_need_points := fd21,
    F_need_points := F21,
    k_need_points := FunD.bindsN F21 fun _ _ _ _ _ _ us hl => match us, hl with | [_, _], _ => rfl,
    fd_border_by := fd22,
    F_border_by := F22,
    k_border_by := FunD.bindsN F22 fun _ _ _ _ _ _ us hl => match us, hl with | [_, _], _ => rfl,
    fd_way_by := fd23,
    F_way_by := F23,
    k_way_by := FunD.bindsN F23 fun _ _ _ _ _ _ us hl => match us, hl with | [_, _], _ => rfl,
    fd_came_plainly := fd24,
    F_came_plainly := F24,
    k_came_plainly := FunD.bindsN F24 fun _ _ _ _ _ _ us hl => match us, hl with | [_, _], _ => rfl,
    fd_came_without := fd25,
    F_came_without := F25,
    k_came_without := FunD.bindsN F25 fun _ _ _ _ _ _ us hl => match us, hl with | [_, _, _], _ => rfl,
    fd_came_past := fd26,
    F_came_past := F26,
    k_came_past := FunD.bindsN F26 fun _ _ _ _ _ _ us hl => match us, hl with | [_, _, _], _ => rfl,
    fd_must_ties := fd27,
    F_must_ties := F27,
    k_must_ties := FunD.bindsN F27 fun _ _ _ _ _ _ us hl => match us, hl with | [_, _, _], _ => rfl,
    fd_must_points := fd28,
    F_must_points := F28,
    k_must_points := FunD.bindsN F28 fun _ _ _ _ _ _ us hl => match us, hl with | [_, _, _], _ => rfl,
    fd_way_past := fd29,
    F_way_past := F29,
    k_way_past := FunD.bindsN F29 fun _ _ _ _ _ _ us hl => match us, hl with | [_, _, _, _], _ => rfl,
    fd_leaves := fd30,
    F_leaves := F30,
    k_leaves := FunD.bindsN F30 fun _ _ _ _ _ _ us hl => match us, hl with | [_], _ => rfl,
    fd_Ring_init := fd31,
    F_Ring_init := F31,
    k_Ring_init := FunD.bindsN F31 fun _ _ _ _ _ _ us hl => match us, hl with | [_, _], _ => rfl,
    fd_comes := fd32,
    F_comes := F32,
    k_comes := FunD.bindsN F32 fun _ _ _ _ _ _ us hl => match us, hl with | [_, _, _], _ => rfl,
    fd_knots_by_points := fd33,
    F_knots_by_points := F33,
    k_knots_by_points := FunD.bindsN F33 fun _ _ _ _ _ _ us hl => match us, hl with | [_], _ => rfl,
    fd_is_led_into := fd34,
    F_is_led_into := F34,
    k_is_led_into := FunD.bindsN F34 fun _ _ _ _ _ _ us hl => match us, hl with | [_, _, _], _ => rfl,
    fd_first_free := fd35,
    F_first_free := F35,
    k_first_free := FunD.bindsN F35 fun _ _ _ _ _ _ us hl => match us, hl with | [_, _], _ => rfl,
    fd_knots := fd36,
    F_knots := F36,
    k_knots := FunD.bindsN F36 fun _ _ _ _ _ _ us hl => match us, hl with | [_], _ => rfl,
    fd_ring_through := fd37,
    F_ring_through := F37,
    k_ring_through := FunD.bindsN F37 fun _ _ _ _ _ _ us hl => match us, hl with | [_, _, _], _ => rfl,
    fd_starts := fd38,
    F_starts := F38,
    k_starts := FunD.bindsN F38 fun _ _ _ _ _ _ us hl => match us, hl with | [_], _ => rfl,
    fd_Forest_init := fd39,
    F_Forest_init := F39,
    k_Forest_init := FunD.bindsN F39 fun _ _ _ _ _ _ us hl => match us, hl with | [_, _, _], _ => rfl,
    fd_Least_init := fd40,
    F_Least_init := F40,
    k_Least_init := FunD.bindsN F40 fun _ _ _ _ _ _ us hl => match us, hl with | [_, _, _, _], _ => rfl,
    fd_Fewest_init := fd41,
    F_Fewest_init := F41,
    k_Fewest_init := FunD.bindsN F41 fun _ _ _ _ _ _ us hl => match us, hl with | [_, _, _], _ => rfl,
    fd_Apart_init := fd42,
    F_Apart_init := F42,
    k_Apart_init := FunD.bindsN F42 fun _ _ _ _ _ _ us hl => match us, hl with | [_, _, _], _ => rfl,
    fd_lightest := fd43,
    F_lightest := F43,
    k_lightest := FunD.bindsN F43 fun _ _ _ _ _ _ us hl => match us, hl with | [_], _ => rfl,
    fd_least_came := fd44,
    F_least_came := F44,
    k_least_came := FunD.bindsN F44 fun _ _ _ _ _ _ us hl => match us, hl with | [_, _], _ => rfl,
    fd_least_way := fd45,
    F_least_way := F45,
    k_least_way := FunD.bindsN F45 fun _ _ _ _ _ _ us hl => match us, hl with | [_, _, _], _ => rfl,
    fd_layers := fd46,
    F_layers := F46,
    k_layers := FunD.bindsN F46 fun _ _ _ _ _ _ us hl => match us, hl with | [_, _], _ => rfl,
    fd_fewest := fd47,
    F_fewest := F47,
    k_fewest := FunD.bindsN F47 fun _ _ _ _ _ _ us hl => match us, hl with | [_, _, _], _ => rfl,
    fd_open_steps := fd48,
    F_open_steps := F48,
    k_open_steps := FunD.bindsN F48 fun _ _ _ _ _ _ us hl => match us, hl with | [_, _], _ => rfl,
    fd_gone_steps := fd49,
    F_gone_steps := F49,
    k_gone_steps := FunD.bindsN F49 fun _ _ _ _ _ _ us hl => match us, hl with | [_, _], _ => rfl,
    fd_go := fd50,
    F_go := F50,
    k_go := FunD.bindsN F50 fun _ _ _ _ _ _ us hl => match us, hl with | [_, _, _, _], _ => rfl,
    fd_ways_gone := fd51,
    F_ways_gone := F51,
    k_ways_gone := FunD.bindsN F51 fun _ _ _ _ _ _ us hl => match us, hl with | [_, _, _, _], _ => rfl,
    fd_ties_out := fd52,
    F_ties_out := F52,
    k_ties_out := FunD.bindsN F52 fun _ _ _ _ _ _ us hl => match us, hl with | [_, _], _ => rfl,
    fd_ways_apart := fd53,
    F_ways_apart := F53,
    k_ways_apart := FunD.bindsN F53 fun _ _ _ _ _ _ us hl => match us, hl with | [_, _, _], _ => rfl,
    fd_row := fd54,
    F_row := F54,
    k_row := FunD.bindsN F54 fun _ _ _ _ _ _ us hl => match us, hl with | [_, _], _ => rfl,
    fd_number_row := fd55,
    F_number_row := F55,
    k_number_row := FunD.bindsN F55 fun _ _ _ _ _ _ us hl => match us, hl with | [_, _], _ => rfl,
    fd_name_rows := fd56,
    F_name_rows := F56,
    k_name_rows := FunD.bindsN F56 fun _ _ _ _ _ _ us hl => match us, hl with | [_, _], _ => rfl,
    fd_border_rows := fd57,
    F_border_rows := F57,
    k_border_rows := FunD.bindsN F57 fun _ _ _ _ _ _ us hl => match us, hl with | [_], _ => rfl,
    fd_way_rows := fd58,
    F_way_rows := F58,
    k_way_rows := FunD.bindsN F58 fun _ _ _ _ _ _ us hl => match us, hl with | [_], _ => rfl,
    fd_Question_text := fd59,
    F_Question_text := F59,
    k_Question_text := FunD.bindsN F59 fun _ _ _ _ _ _ us hl => match us, hl with | [_], _ => rfl,
    fd_Question_matter := fd60,
    F_Question_matter := F60,
    k_Question_matter := FunD.bindsN F60 fun _ _ _ _ _ _ us hl => match us, hl with | [_], _ => rfl,
    fd_Question_has_loads := fd61,
    F_Question_has_loads := F61,
    k_Question_has_loads := FunD.bindsN F61 fun _ _ _ _ _ _ us hl => match us, hl with | [_], _ => rfl,
    fd_Question_told := fd62,
    F_Question_told := F62,
    k_Question_told := FunD.bindsN F62 fun _ _ _ _ _ _ us hl => match us, hl with | [_, _], _ => rfl,
    fd_OfTwo_init := fd63,
    F_OfTwo_init := F63,
    k_OfTwo_init := FunD.bindsN F63 fun _ _ _ _ _ _ us hl => match us, hl with | [_, _, _], _ => rfl,
    fd_OfTwo_matter := fd64,
    F_OfTwo_matter := F64,
    k_OfTwo_matter := FunD.bindsN F64 fun _ _ _ _ _ _ us hl => match us, hl with | [_], _ => rfl,
    fd_HangsTogether_told := fd65,
    F_HangsTogether_told := F65,
    k_HangsTogether_told := FunD.bindsN F65 fun _ _ _ _ _ _ us hl => match us, hl with | [_, _], _ => rfl,
    fd_ComesThere_told := fd66,
    F_ComesThere_told := F66,
    k_ComesThere_told := FunD.bindsN F66 fun _ _ _ _ _ _ us hl => match us, hl with | [_, _], _ => rfl,
    fd_MustTies_told := fd67,
    F_MustTies_told := F67,
    k_MustTies_told := FunD.bindsN F67 fun _ _ _ _ _ _ us hl => match us, hl with | [_, _], _ => rfl,
    fd_MustPoints_told := fd68,
    F_MustPoints_told := F68,
    k_MustPoints_told := FunD.bindsN F68 fun _ _ _ _ _ _ us hl => match us, hl with | [_, _], _ => rfl,
    fd_PastPoint_init := fd69,
    F_PastPoint_init := F69,
    k_PastPoint_init := FunD.bindsN F69 fun _ _ _ _ _ _ us hl => match us, hl with | [_, _, _, _], _ => rfl,
    fd_PastPoint_matter := fd70,
    F_PastPoint_matter := F70,
    k_PastPoint_matter := FunD.bindsN F70 fun _ _ _ _ _ _ us hl => match us, hl with | [_], _ => rfl,
    fd_PastPoint_told := fd71,
    F_PastPoint_told := F71,
    k_PastPoint_told := FunD.bindsN F71 fun _ _ _ _ _ _ us hl => match us, hl with | [_, _], _ => rfl,
    fd_RingThrough_told := fd72,
    F_RingThrough_told := F72,
    k_RingThrough_told := FunD.bindsN F72 fun _ _ _ _ _ _ us hl => match us, hl with | [_, _], _ => rfl,
    fd_LeastWay_has_loads := fd73,
    F_LeastWay_has_loads := F73,
    k_LeastWay_has_loads := FunD.bindsN F73 fun _ _ _ _ _ _ us hl => match us, hl with | [_], _ => rfl,
    fd_LeastWay_told := fd74,
    F_LeastWay_told := F74,
    k_LeastWay_told := FunD.bindsN F74 fun _ _ _ _ _ _ us hl => match us, hl with | [_, _], _ => rfl,
    fd_FewestTies_told := fd75,
    F_FewestTies_told := F75,
    k_FewestTies_told := FunD.bindsN F75 fun _ _ _ _ _ _ us hl => match us, hl with | [_, _], _ => rfl,
    fd_WaysApart_told := fd76,
    F_WaysApart_told := F76,
    k_WaysApart_told := FunD.bindsN F76 fun _ _ _ _ _ _ us hl => match us, hl with | [_, _], _ => rfl,
    fd_ThePieces_told := fd77,
    F_ThePieces_told := F77,
    k_ThePieces_told := FunD.bindsN F77 fun _ _ _ _ _ _ us hl => match us, hl with | [_, _], _ => rfl,
    fd_TheKnots_told := fd78,
    F_TheKnots_told := F78,
    k_TheKnots_told := FunD.bindsN F78 fun _ _ _ _ _ _ us hl => match us, hl with | [_, _], _ => rfl,
    fd_TwoSides_told := fd79,
    F_TwoSides_told := F79,
    k_TwoSides_told := FunD.bindsN F79 fun _ _ _ _ _ _ us hl => match us, hl with | [_, _], _ => rfl,
    fd_LightestForest_has_loads := fd80,
    F_LightestForest_has_loads := F80,
    k_LightestForest_has_loads := FunD.bindsN F80 fun _ _ _ _ _ _ us hl => match us, hl with | [_], _ => rfl,
    fd_LightestForest_told := fd81,
    F_LightestForest_told := F81,
    k_LightestForest_told := FunD.bindsN F81 fun _ _ _ _ _ _ us hl => match us, hl with | [_, _], _ => rfl,
    fd_TheStarts_told := fd82,
    F_TheStarts_told := F82,
    k_TheStarts_told := FunD.bindsN F82 fun _ _ _ _ _ _ us hl => match us, hl with | [_, _], _ => rfl,
    fd_TheLeaves_told := fd83,
    F_TheLeaves_told := F83,
    k_TheLeaves_told := FunD.bindsN F83 fun _ _ _ _ _ _ us hl => match us, hl with | [_, _], _ => rfl,
    fd_need_names := fd84,
    F_need_names := F84,
    k_need_names := FunD.bindsN F84 fun _ _ _ _ _ _ us hl => match us, hl with | [_, _], _ => rfl,
    fd_question := fd85,
    F_question := F85,
    k_question := FunD.bindsN F85 fun _ _ _ _ _ _ us hl => match us, hl with | [_, _], _ => rfl,
    fd_question_of := fd86,
    F_question_of := F86,
    k_question_of := FunD.bindsN F86 fun _ _ _ _ _ _ us hl => match us, hl with | [_], _ => rfl,
    fd_law_number := fd87,
    F_law_number := F87,
    k_law_number := FunD.bindsN F87 fun _ _ _ _ _ _ us hl => match us, hl with | [_, _], _ => rfl,
    fd_law_names := fd88,
    F_law_names := F88,
    k_law_names := FunD.bindsN F88 fun _ _ _ _ _ _ us hl => match us, hl with | [_, _], _ => rfl,
    fd_law_kinds := fd89,
    F_law_kinds := F89,
    k_law_kinds := FunD.bindsN F89 fun _ _ _ _ _ _ us hl => match us, hl with | [_], _ => rfl,
    fd_law_made := fd90,
    F_law_made := F90,
    k_law_made := FunD.bindsN F90 fun _ _ _ _ _ _ us hl => match us, hl with | [_, _], _ => rfl,
    fd_law_right := fd91,
    F_law_right := F91,
    k_law_right := FunD.bindsN F91 fun _ _ _ _ _ _ us hl => match us, hl with | [_, _, _], _ => rfl,
    fd_law := fd92,
    F_law := F92,
    k_law := FunD.bindsN F92 fun _ _ _ _ _ _ us hl => match us, hl with | [_], _ => rfl }
  have e : He.ga K "law" = f := by
    have z := T.g_law.symm.trans hfa
    exact Value.ref.inj (Option.some.inj z)
  subst e
  have b := FunD.bindsA (ps := ["_law_script"]) F92 fun _ _ _ _ _ _ us hl => match us, hl with | [_], _ => rfl
  have J : ∀ base : Heap, Js P w K mg base := fun base => by
    refine ⟨EVX.ini_ok (fld := "place") (x := "BadText") (file := "/claim/cut.py") ?_ hP hsup T.b_super (fun _ _ _ _ _ _ _ _ _ _ _ _ _ _ => rfl), He.ktab_ok (c0.keys 0) (ktabB xk)⟩
    all_goals (unfold extra at xk; simp only [Bool.and_eq_true] at xk; simp only [xk])
  exact ⟨T.fd_law, fun s v => b s [v] rfl, fun base _ _ => ok_law T (J base) xk⟩
end K25
open PySem PySem.W PySem.Calls PyProof.Rows
set_option maxRecDepth 100000 in
set_option maxHeartbeats 0 in
theorem PySem.Challenge.cw_reachbook_k25_questions_as_texts_holds : PySem.Challenge.rw_reachbook_k25_questions_as_texts.Holds := by
  w_on; o_law
  refine HandSHeadRun.head_any (r := OpenLaw.row PySem.Challenge.rw_reachbook_k25_questions_as_texts) (q := view (OpenLaw.row PySem.Challenge.rw_reachbook_k25_questions_as_texts).prog [100]) (H := K25.hk) (ob := K25.ob) (M := 20000) (loose := K25.loose) (d := HandSHeadRun.topDef (OpenLaw.row PySem.Challenge.rw_reachbook_k25_questions_as_texts).prog 100) (kwd := []) K25.ob_eq
    (by kernel_rfl) (fun s => by kernel_rfl) K25.run (by kernel_rfl) (by kernel_rfl) (by kernel_rfl) (by rfl) (by first | assumption | decide +kernel) (by decide +kernel) ⟨rfl, rfl, rfl, rfl, rfl, by decide +kernel⟩ ?hw ?hc
  case hw => w_witness2
  case hc =>
    refine L2.walk_ofE (l := PySem.Challenge.rw_reachbook_k25_questions_as_texts) (n := 63) (k := 6) (x := "_law_script") (CX := L2.CX0) rfl (by decide) (by kernel_rfl) ⟨rfl, by decide, by decide⟩ ?F (fun _ _ _ _ z => z)
    intro w mg fa h Y G hmg0
    obtain ⟨K, KX, c⟩ := Y
    have hmg : mg ("law" : PySem.Str) = some (.ref fa) := by
      have e : (HandSHeadRun.topDef (OpenLaw.row PySem.Challenge.rw_reachbook_k25_questions_as_texts).prog 100).name = ("law" : PySem.Str) := by kernel_rfl
      rw [← e]
      exact hmg0
    obtain ⟨fd, hb, hF⟩ := K25.facts (P := (PySem.Challenge.rw_reachbook_k25_questions_as_texts).prog) (w := w) KX G hmg c (by kernel_rfl) (by kernel_rfl)
    exact ⟨K, fd, K25.sp_law K, KX, hb, fun H a ns hl hO hS => ⟨a, ns, rfl, hS, hl, fun _ => rfl⟩, hF⟩
#print axioms PySem.Challenge.cw_reachbook_k25_questions_as_texts_holds
