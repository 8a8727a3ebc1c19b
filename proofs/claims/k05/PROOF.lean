import PyProof.Rows.All
import Wide.All
import OpenK.AllK
import Wide.FinOn
import KE.KExcSuper
import HandS.Base
import HandS.Call
import HandS.List
import HandS.Exc
import HandS.ExcInit
import HandS.ForList
import HandS.IsInst
import KE.KExcIs
import HandS.Wide
import HandS.DeepEq
import HandS.ForMost
import HandS.SetFor
import HandS.EndBits
import PySem.Challenge.RW_relatedrights_k05_errors_as_told
set_option Elab.async false
set_option linter.all false
set_option maxRecDepth 100000
set_option maxHeartbeats 4000000
/-! Own errors whose __init__ says super().__init__('..') and then stores one field, or two. -/
namespace PySem
namespace Err
open PySem.W PySem.Calls PyProof.Rows PySem.HandSPX
/-! ### the texts -/
abbrev iA (fs : List (Str × Pos)) (p1 : Pos) : Arguments := { posonlyargs := [], args := { arg := "self", annotation := none, pos := p1 } :: fs.map (fun f => { arg := f.1, annotation := none, pos := f.2 }), vararg := none, kwonlyargs := [], kw_defaults := [], kwarg := none, defaults := [] }
abbrev iSup (txt : Str) (k : Nat) (p0 p1 p2 p3 p4 p5 : Pos) : Stmt := .Expr (.Call (.Attribute (.Call (.Name "super" p0) [] [] p1) "__init__" p2) [.Constant (.str txt) k p3] [] p4) p5
abbrev iSet (f : Str) (q1 q2 q3 q4 : Pos) : Stmt := .Assign [.Attribute (.Name "self" q1) f q2] (.Name f q3) q4
abbrev iS (fs : List Str) : Scope := { kind := .function, names := ("self", .local) :: (fs.map (fun f => (f, NameKind.local)) ++ [(PySem.Str.ofString "__class__", .free), (PySem.Str.ofString "super", .globalImplicit)]), isGenerator := false, isCoroutine := false, more := [] }

/-- what the written part says of an error class at C: its __init__ at fI, the cell of __class__ at cc, the code object at cda -/
structure ErrTxt (prog : Program) (K : Frag) (C fI cc cda : Addr) (qual : Str) (ar : Arguments) (body : List Stmt) (sc : Scope) (fd : FuncData) : Prop where
  cls : ∃ nm q N bs bm sn sub ab col dd k0 k1 k2 k3 k5, K.lookup C = some (excClassObj nm q C N bs bm true sn sub ab col dd k0 k1 k2 k3 k5 "ValueError.__new__") ∧ refsVE bm = true ∧ alongIn K "__init__" bm = some (some (.builtin "ValueError.__init__"))
  sa : findIn K (.ref C) "__setattr__" = some (some (.builtin "object.__setattr__"))
  iC : findIn K (.ref C) "__init__" = some (some (.ref fI))
  tC : typeIn K (.ref fI) = some (.type "function")
  kC : keepIn K (.ref C) = true
  sVE : subIn K (.ref C) (.type "ValueError") = some true
  exC : subIn K (.ref C) (.type "BaseException") = some true
  tyC : typeIn K (.ref C) = some (.type "type")
  mC : mroIn K C (.ref C) = some true
  op : nsIn K cStatics "thirdparty.any" = some none
  top : (prog.main.scope.names.lookup ("super" : Str)).isSome = false
  cel : ∃ cl cld csl, K.lookup cc = some ⟨cl, cld, .cell (some (.ref C)), csl⟩
  cod : ∃ ccl cdd vs ccs file tf, K.lookup cda = some ⟨ccl, cdd, .fields vs, ccs⟩ ∧ vs[2]? = some (.str file tf) ∧ ((prog.main.file : Str) == file) = true
  fn : (∃ oc od osl, K.lookup fI = some ⟨oc, od, .func fd, osl⟩) ∧ (∃ doc pm an ct, fd = ksFn "__init__" qual ar body sc .none .none doc pm an (.ref cda) ct cc) ∧ codeIn K (.ref cda) qual = true

/-- the module's names at hand -/
structure Names (h : Heap) (mg : Str → Option Value) : Prop where
  g : h.Ns mainGlobals mg
  s : mg "super" = none
  b : ∃ mb, h.Ns builtinsNs mb ∧ mb "super" = some (.type "super")
theorem Names.keeps {h h' : Heap} {mg : Str → Option Value} (n : Names h mg) (k : ∀ b o, h.get? b = some o → h'.get? b = some o) : Names h' mg := ⟨n.g.keeps k, n.s, let ⟨mb, a, b⟩ := n.b; ⟨mb, a.keeps k, b⟩⟩

section
variable {prog : Program} {w : World} {A : Around} {E : Value → Shared → Prop} {R : Result → Shared → Prop} {s : Shared} {K : Frag} {mg : Str → Option Value} {C fI cc cda : Addr} {qual : Str} {ar : Arguments} {body : List Stmt} {sc : Scope} {fd : FuncData}
variable {h : Heap} {g : Array GenState} {d : Drawn} {t : Nat} {os : OsState}

/-- the bound ValueError.__init__ called -/
theorem call_mw {u e t0 : Addr} {rest : List Value} {Q : Value → Shared → Prop} {nm q : Str} {N : Addr} {bs bm : List Value} {hdct : Bool} {sn : List Str} {sub : List Value} {ab : Bool} {col : Option Bool} {dd : Option Addr} {k0 k1 k2 k3 k5 : Option Value}
    (hC : h.get? C = some (excClassObj nm q C N bs bm hdct sn sub ab col dd k0 k1 k2 k3 k5 "ValueError.__new__")) (he : h.get? e = some (excO C t0)) (hu : h.get? u = some (kxs_mw "ValueError.__init__" e)) (hrest : rest.length ≤ sizeLine)
    (hq : ∀ h' t1, (∀ b o, b ≠ e → h.get? b = some o → h'.get? b = some o) → h'.get? e = some (excO C t1) → Q .none ⟨h', g, d, t, os⟩) :
    wpAny (model prog w) A (call (.ref u) rest) Q E ⟨h, g, d, t, os⟩ := by
  refine wpAny_call (codeAny_of_tree ?_)
  show wpAny _ A.in1 (callAny (.ref u) ⟨rest, []⟩) _ _ _
  simp only [callAny]
  refine wpAny_bind (wpAny_load hu ?_)
  simp only [kxs_mw, show (Value.type "method-wrapper" == Value.type "method" || Value.type "method-wrapper" == Value.type "builtin_function_or_method" || Value.type "method-wrapper" == Value.type "method-wrapper") = true by decide, if_true]
  refine KFB.if_so (by decide) ?_
  refine wpAny_bind (check_bound_init F.excBase_ValueError.toExcCallFacts hC he rfl ?_)
  refine wpAny_bind (wpAny_pure (wpAny_pure ?_))
  refine ⟨plainId_quiet F.excBase_ValueError.init.plain _, codeAny_builtin F.excBase_ValueError.initEntry ?_⟩
  refine exc_init_tree (cls := .ref C) (t0 := t0) (dv := none) (c2 := .none) (c3 := .none) (b4 := .bool false) he hrest fun h' k e' _ => ?_
  exact hq h' h.objs.size k e'

theorem eval_sup {txt : Str} {kk : Nat} {p0 p1 p2 p3 p4 : Pos} (env : Env) (hp : (p2.endLine == p4.line) = true) :
    eval (.Call (.Attribute (.Call (.Name "super" p0) [] [] p1) "__init__" p2) [.Constant (.str txt) kk p3] [] p4) env = (do
      let ov ← attributeBase (.Call (.Name "super" p0) [] [] p1) "__init__" env (eval (.Call (.Name "super" p0) [] [] p1) env)
      standAt p2.atName
      let (f, first) ← holding [ov] (getMethod ov "__init__" (do return (← importBound (.Call (.Name "super" p0) [] [] p1) env).getD true))
      callWith p4 f first (backTo p4 (starEach [.Constant (.str txt) kk p3] env)) []) := by
  have e0 : eval (.Call (.Attribute (.Call (.Name "super" p0) [] [] p1) "__init__" p2) [.Constant (.str txt) kk p3] [] p4) env = (do
      let ov ← attributeBase (.Call (.Name "super" p0) [] [] p1) "__init__" env (eval (.Call (.Name "super" p0) [] [] p1) env)
      standAt p2.atName
      methodCall (.Call (.Name "super" p0) [] [] p1) "__init__" p2 p4 env ov 1 (backTo p4 (starEach [.Constant (.str txt) kk p3] env)) []) := rfl
  rw [e0]
  unfold methodCall methodCallPos
  have e1 : methodCallForm 1 (backTo p4 (starEach [.Constant (.str txt) kk p3] env)) [] = true := rfl
  simp only [e1, hp, calleeOf, if_true, Bool.not_true, Bool.or_true, pure_bind]

/-- super().__init__('..') in the __init__ of an error that has no dict yet -/
theorem super_init (T : ErrTxt prog K C fI cc cda qual ar body sc fd) {txt : Str} {kk : Nat} {p0 p1 p2 p3 p4 p5 : Pos} {L : Addr} {x t0 : Addr} {m : Str → Option Value} {rest : List Stmt} {Q : Flow → Shared → Prop} {a0 : Arg} {afs : List Arg}
    (har : ar.posonlyargs ++ ar.args = a0 :: afs) (ha0 : a0.arg = "self")
    (hself : sc.names.lookup ("self" : Str) = some .local) (hkc : sc.names.lookup ("__class__" : Str) = some .free) (hks : sc.names.lookup ("super" : Str) = some .globalImplicit) (hk : sc.kind = .function)
    (hp : (p2.endLine == p4.line) = true) (X : K.In h) (G : Names h mg) (hn : h.Ns L m) (hv : m "self" = some (.ref x)) (hx : h.get? x = some (excO C t0)) (hnx : K.lookup x = none)
    (hq : ∀ h' tk t1, (∀ b o, b ≠ x → h.get? b = some o → h'.get? b = some o) → h'.get? x = some (excO C t1) →
      _root_.PySem.wpAt (model prog w) A (.func body (ksEnv qual sc L fI (.ref cda) cc)) (execs rest (ksEnv qual sc L fI (.ref cda) cc)) Q E ⟨h', g, d, tk, os⟩) :
    _root_.PySem.wpAt (model prog w) A (.func body (ksEnv qual sc L fI (.ref cda) cc)) (execs (iSup txt kk p0 p1 p2 p3 p4 p5 :: rest) (ksEnv qual sc L fI (.ref cda) cc)) Q E ⟨h, g, d, t, os⟩ := by
  obtain ⟨⟨oc, od, osl, ho⟩, ⟨doc, pm, an, ct, rfl⟩, hcd⟩ := T.fn
  obtain ⟨ccl, cdd, vs, ccs, file, tf, hcc, hvs, hfile⟩ := T.cod
  obtain ⟨cl, cld, csl, hcel⟩ := T.cel
  obtain ⟨nm, q, N, bs, bm, sn, sub, ab, col, dd, k0, k1, k2, k3, k5, hC, hbm, hal⟩ := T.cls
  have hcl : clsIn K C = some { name := nm, bases := bs, mro := .ref C :: bm, ns := N, qualname := q, hasDict := true, slotNames := sn, subclasses := sub, abstract := ab, collection := col, hasDel := false } := by unfold clsIn; rw [hC] <;> rfl
  obtain ⟨mb, hb, hbs⟩ := G.b
  have hCg := X _ _ hC
  have hxC : x ≠ C := fun z => by rw [z] at hnx; rw [hnx] at hC; cases hC
  refine ks_wpAt_execs_cons (ks_wpAt_Expr_any (ks_wpAt_MethodCall ?_ (eval_sup _ hp)) (by unfold interactive; rw [hk]; rfl) (by rfl))
  refine ks_wpAt_super_base (env := ksEnv qual sc L fI (.ref cda) cc) (ar := a0) hks hkc (by decide) rfl (X _ _ ho) rfl (by rw [har]; rfl) rfl (X _ _ hcc) rfl hvs hfile T.top ?_
  refine ks_loadName_global hk hks (loadGlobal_builtin (env := ksEnv qual sc L fI (.ref cda) cc) G.g G.s hb hbs ⟨rfl, ?_⟩)
  refine wpAny_loadName_free hk hkc rfl ⟨_, X _ _ hcel, rfl⟩ ?_
  rw [ha0]
  refine wpAny_loadName_local hk hself hn hv ?_
  refine ks_wpAny_isType_cls hCg rfl ⟨rfl, ?_⟩
  refine ks_wpAny_call_super hCg rfl hx rfl (fun c e => by cases e) (looks_mroIn X T.mC) (fun h1 e1 k1 => ?_)
  have X1 : K.In h1 := X.keeps k1
  have hx1 := k1 _ _ hx
  have I1 : InstAt h1 x (excO C t0) C none := ⟨hx1, rfl, rfl, trivial⟩
  have hI : Looks (model prog w) h1 (isInstance (.ref x) (.type "ValueError")) true := I1.type.andThen (looks_subIn X1 T.sVE)
  refine kxs_getMethod kxs_ValueError e1 (looks_opaque X1 T.op) (l₀ := .ref C :: bm) (fun A Q E s k q => wpAny_bind ((looks_clsIn X1 hcl) A _ E s k (wpAny_pure q))) (show ((Value.ref C :: bm).dropWhile (· != .ref C)).drop 1 = bm by simp [List.dropWhile_cons]) X1 hal hI hxC (by decide) ?_
  have hu : (h1.push (kxs_mw "ValueError.__init__" x)).get? h1.objs.size = some (kxs_mw "ValueError.__init__" x) := Heap.get?_push_at rfl rfl
  refine kxs_callWith (i := "ValueError.__init__") (x := x) (by rfl) ?_
  refine evalArgs_plain (spliced_cons ?_)
  refine Calls.Constant_str (k := kk) (pos := p3) (spliced_nil ⟨hu, ?_⟩)
  have kp : ∀ b o, h1.get? b = some o → (h1.push (kxs_mw "ValueError.__init__" x)).get? b = some o := fun b o e => Heap.get?_push_of_some _ e
  refine call_mw (kp _ _ (k1 _ _ hCg)) (kp _ _ hx1) hu (by rw [sizeLine_eq]; show 1 ≤ 16777216; decide) (fun h2 t1 k2 hx2 => ?_)
  exact hq h2 _ t1 (fun b o hb e => k2 b o hb (kp _ _ (k1 _ _ e))) hx2
end
end Err
end PySem

set_option maxHeartbeats 4000000
/-! A class of the program over ValueError called, by place or by name: what is left to its __init__. -/
namespace PySem
namespace Err
open PySem.W PySem.Calls PyProof.Rows PySem.HandSPX
section
variable {prog : Program} {w : World} {nm q : Str} {C N fI : Addr} {bs bm : List Value} {hd : Bool} {sn : List Str} {sub : List Value} {ab : Bool} {col : Option Bool} {dd : Option Addr} {k0 k1 k2 k3 k5 : Option Value}
abbrev clsVE (nm q : Str) (C N : Addr) (bs bm : List Value) (hd : Bool) (sn : List Str) (sub : List Value) (ab : Bool) (col : Option Bool) (dd : Option Addr) (k0 k1 k2 k3 k5 : Option Value) : Obj := excClassObj nm q C N bs bm hd sn sub ab col dd k0 k1 k2 k3 k5 "ValueError.__new__"
/-- which built-in classes stand above -/
theorem over_VE (hbm : refsVE bm = true) (X : String) : (Value.ref C :: bm).contains (.type X) = veTail.contains (.type X) := by
  rw [List.contains_cons, refsVE_contains X bm hbm]
  rfl
/-- the object is made: a tuple of what came by place, and the error -/
theorem fresh_kw {A : Around} {R : Result → Shared → Prop} {s : Shared} {a : Args} (hC : s.heap.get? C = some (clsVE nm q C N bs bm hd sn sub ab col dd k0 k1 k2 k3 k5)) (hbm : refsVE bm = true) (hz : a.pos.length ≤ sizeLine)
    (hq : R (.ok (.ret (.ref (s.heap.objs.size + 1)))) { s with heap := (s.heap.push (kdv_tup a.pos)).push (excO C s.heap.objs.size) }) :
    codeAny (model prog w) A (.builtin "ValueError.__new__" ⟨.ref C :: a.pos, a.kw⟩) R s := by
  have V := F.excBase_ValueError
  have e0 := V.ends
  have eV : (Value.ref C :: bm).contains (.type "ValueError") = true := (over_VE hbm _).trans (by decide +kernel)
  have eA : (Value.ref C :: bm).contains (.type "AttributeError") = false := (over_VE hbm _).trans (by decide +kernel)
  have eN : (Value.ref C :: bm).contains (.type "NameError") = false := (over_VE hbm _).trans (by decide +kernel)
  obtain ⟨h, g, d, t, os⟩ := s
  refine codeAny_builtinAt V.entry (wpAt_bind ?_)
  show wpAt _ _ _ (stack >>= _) _ _ _
  refine wpAt_bind (wpAt_stack fun _ _ => wpAt_of_wpAny ?_)
  wp_walk
  refine wpAt_of_wpAny ?_
  rw [V.owner]
  repeat (first | (with_reducible refine wpAny_madeHere_exc V.canon hC ?_) | (with_reducible refine wpAny_loadPart_at hC ?_) | (with_reducible refine wpAny_isSubtype_exc hC ?_; first | rw [eV] | rw [eA] | rw [eN]) | wp_step)
  have z : R (.ok (.ret (.ref (h.objs.size + 1)))) ⟨(h.push (kdv_tup a.pos)).push (excO C h.objs.size), g, d, t, os⟩ := hq
  show R _ _
  rw [Heap.size_push]
  exact z
/-- the class is called: behind the new object its __init__ has the word -/
theorem call_kw {A : Around} {R : Result → Shared → Prop} {s : Shared} {a : Args} (hC : s.heap.get? C = some (clsVE nm q C N bs bm hd sn sub ab col dd k0 k1 k2 k3 k5)) (hbm : refsVE bm = true)
    (hi : Looks (model prog w) s.heap (typeLookup (.ref C) "__init__") (some (.ref fI))) (hb : ∀ o, Looks (model prog w) s.heap (bindSpecial (.ref fI) o) (.ref fI, [o])) (hz : a.pos.length ≤ sizeLine)
    (hq : codeAny (model prog w) (A.under (.builtin "type.__call__" ⟨.ref C :: a.pos, a.kw⟩)) (.call (.ref fI) ⟨.ref (s.heap.objs.size + 1) :: a.pos, a.kw⟩) (InitBack (s.heap.objs.size + 1) R) { s with heap := (s.heap.push (kdv_tup a.pos)).push (excO C s.heap.objs.size) }) :
    codeAny (model prog w) A (.call (.ref C) a) R s := by
  have V := F.excBase_ValueError
  obtain ⟨h, g, d, t, os⟩ := s
  have l1 := tc_lookup
  have l2 := tc_bind (.ref C)
  have ty : Shared.TypeIs ⟨h, g, d, t, os⟩ (.ref C) "type" := ⟨_, hC, rfl⟩
  have old : ∀ b o, h.get? b = some o → ((h.push (kdv_tup a.pos)).push (excO C h.objs.size)).get? b = some o := fun b o e => Heap.get?_push_of_some _ (Heap.get?_push_of_some _ e)
  have hC2 := old _ _ hC
  have hx : ((h.push (kdv_tup a.pos)).push (excO C h.objs.size)).get? (h.objs.size + 1) = some (excO C h.objs.size) := by heap_get
  have self : (Value.ref C :: bm).contains (.ref C) = true := by simp
  have eV : (Value.ref C :: bm).contains (.type "ValueError") = true := (over_VE hbm _).trans (by decide +kernel)
  refine codeAny_of_tree ?_
  show wpAny _ _ (callAny (.ref C) _) _ _ _
  repeat (any_goals (first | assumption | (with_reducible refine wpAny_loadPart_at hC ?_) | wp_step))
  refine ⟨rfl, codeAny_call_builtin_at (Code.quiet_builtin _ (by decide +kernel)) entry_typeCall (wpAny_check_type_call_sub hC ?_)⟩
  repeat (first | (with_reducible refine wpAny_loadPart_at hC ?_) | (with_reducible refine wpAny_madeBy_exc hC ?_) | wp_step)
  refine codeAny_call_builtin_code (Code.quiet_builtin _ V.quiet) ?_
  have star := V.noStar
  simp only [checkBuiltinCall, V.newKind, V.newSplit, V.newRow]
  repeat (first | refine wpAny_loadPart_at hC ?_ | (refine wpAny_isSubtype_exc hC ?_; rw [eV]) | refine wpAny_staticBase_exc hC ?_ | refine wpAny_madeBy_exc hC ?_ | simp only [bne_self_eq_false, Bool.false_eq_true, if_false] | wp_step)
  refine fresh_kw (s := ⟨h, g, d, t, os⟩) (a := a) hC hbm hz ?_
  show wpAny _ _ _ _ _ _
  unfold isInstance
  repeat (first | (with_reducible refine wpAny_loadPart_at hx ?_) | (with_reducible refine wpAny_isSubtype_exc hC2 ?_; rw [self]) | wp_step)
  show wpAny _ _ (typeLookup (.ref C) _) _ _ _
  refine (hi.keeps old).at (wpAny_holding (wpAny_bind (((hb (.ref (h.objs.size + 1))).keeps old).at ?_)))
  refine wpAny_bind (wpAny_call (codeAny_mono hq fun r s' z => ?_))
  cases r with
  | error e => exact z
  | ok fl =>
    cases fl with
    | ret v =>
      obtain ⟨rfl, z'⟩ := z
      first
        | exact wpAny_pure (wpAny_pure z')
        | (wp_walk; exact z')
    | next => exact (show False from z).elim
    | brk => exact (show False from z).elim
    | cont => exact (show False from z).elim
end
end Err
end PySem

set_option maxHeartbeats 4000000
/-! An own error with one field, or two, made. -/
namespace PySem
namespace Err
open PySem.W PySem.Calls PyProof.Rows PySem.HandSPX
/-- a field's name -/
structure FOk (f : Str) : Prop where
  a : (f == ("self" : Str)) = false
  b : (("self" : Str) == f) = false
  c : (("__class__" : Str) == f) = false
  d : (("super" : Str) == f) = false
  e : (f == ("__debug__" : Str)) = false
/-- what __init__ leaves of a fresh error at x: its dict at dx, with m -/
structure InitEnd (h h' : Heap) (x C dx t1 : Addr) (m : Str → Option Value) : Prop where
  keep : ∀ b o, b ≠ x → h.get? b = some o → h'.get? b = some o
  obj : h'.get? x = some { cls := .ref C, dict := some dx, data := .fields #[.ref t1, .none, .none, .none, .bool false, .none] }
  dbig : h.objs.size ≤ dx
  dne : dx ≠ x
  ns : h'.Ns1 dx m
/-- an error made: at e, of the class at C, its dict at d -/
structure Made (h h' : Heap) (e C d : Addr) (m : Str → Option Value) : Prop where
  keep : ∀ b o, h.get? b = some o → h'.get? b = some o
  new : h.objs.size ≤ e
  obj : ∃ t1 : Addr, h'.get? e = some ({ cls := .ref C, dict := some d, data := .fields #[.ref t1, .none, .none, .none, .bool false, .none] } : Obj)
  dbig : h.objs.size ≤ d
  dne : d ≠ e
  ns : h'.Ns1 d m
section
variable {prog : Program} {w : World} {A : Around} {E : Value → Shared → Prop} {R : Result → Shared → Prop} {s : Shared} {K : Frag} {mg : Str → Option Value} {C fI cc cda : Addr} {qual f : Str} {ar : Arguments} {body : List Stmt} {sc : Scope} {fd : FuncData}
theorem ldA {M : Model} {env : Env} {L : Addr} {m : Str → Option Value} {x : Str} {pos : Pos} {v : Value} {Q : Value → Shared → Prop} (hL : env.locals = L) (hn : s.heap.Ns L m) (hv : m x = some v) (hk : env.scope.kind = .function) (hl : env.kindOf x = some .local)
    (hd : (x == ("__debug__" : Str)) = false) (h : Q v s) : wpAny M A (eval (.Name x pos) env) Q E s := wpAny_Name (wpAny_loadName_local hk hl (by rw [hL]; exact hn) hv h) hd
theorem err_init1 {txt : Str} {kk : Nat} {ps pf p0 p1 p2 p3 p4 p5 q1 q2 q3 q4 : Pos} (T : ErrTxt prog K C fI cc cda qual (iA [(f, pf)] ps) [iSup txt kk p0 p1 p2 p3 p4 p5, iSet f q1 q2 q3 q4] (iS [f]) fd) (Fo : FOk f)
    (noN : findIn K (.ref C) f = some none) (hp : (p2.endLine == p4.line) = true) {x t0 : Addr} {v : Value} {args : Args} (X : K.In s.heap) (G : Names s.heap mg) (hlim : s.heap.NoLimit) (hx : s.heap.get? x = some (excO C t0)) (hnx : K.lookup x = none) (hroom : A.depth < recursionLimit)
    (hb : BindsTo s fd args [("self", .ref x), (f, v)])
    (hq : ∀ h' tk dx t1, InitEnd s.heap h' x C dx t1 (fun y => if y = f then some v else none) → R (.ok (.ret .none)) { s with heap := h', toks := tk }) :
    codeAny (model prog w) A (.call (.ref fI) args) R s := by
  obtain ⟨⟨oc, od, osl, ho⟩, ⟨doc, pm, an, ct, rfl⟩, hcd⟩ := T.fn
  obtain ⟨nm, q, N, bs, bm, sn, sub, ab, col, dd, k0, k1, k2, k3, k5, hC, hbm, hal⟩ := T.cls
  have hcl : clsIn K C = some { name := nm, bases := bs, mro := .ref C :: bm, ns := N, qualname := q, hasDict := true, slotNames := sn, subclasses := sub, abstract := ab, collection := col, hasDel := false } := by unfold clsIn; rw [hC] <;> rfl
  have lself : (iS [f]).names.lookup ("self" : Str) = some .local := rfl
  have lf : (iS [f]).names.lookup f = some .local := by
    show List.lookup f [(("self" : Str), NameKind.local), (f, NameKind.local), (PySem.Str.ofString "__class__", .free), (PySem.Str.ofString "super", .globalImplicit)] = _
    simp only [List.lookup, Fo.a, beq_self_eq_true]
  have lc : (iS [f]).names.lookup ("__class__" : Str) = some .free := by
    show List.lookup ("__class__" : Str) [(("self" : Str), NameKind.local), (f, NameKind.local), (PySem.Str.ofString "__class__", .free), (PySem.Str.ofString "super", .globalImplicit)] = _
    simp only [List.lookup, Fo.c, show (("__class__" : Str) == ("self" : Str)) = false by decide, show (("__class__" : Str) == (PySem.Str.ofString "__class__" : Str)) = true by decide]
  have ls : (iS [f]).names.lookup ("super" : Str) = some .globalImplicit := by
    show List.lookup ("super" : Str) [(("self" : Str), NameKind.local), (f, NameKind.local), (PySem.Str.ofString "__class__", .free), (PySem.Str.ofString "super", .globalImplicit)] = _
    simp only [List.lookup, Fo.d, show (("super" : Str) == ("self" : Str)) = false by decide, show (("super" : Str) == (PySem.Str.ofString "__class__" : Str)) = false by decide, show (("super" : Str) == (PySem.Str.ofString "super" : Str)) = true by decide]
  have vself : (fun y => ([(("self" : Str), Value.ref x), (f, v)] : List (Str × Value)).reverse.lookup y) ("self" : Str) = some (Value.ref x) := by
    show List.lookup ("self" : Str) [(f, v), (("self" : Str), Value.ref x)] = _
    simp only [List.lookup, Fo.b, beq_self_eq_true]
  have vf : (fun y => ([(("self" : Str), Value.ref x), (f, v)] : List (Str × Value)).reverse.lookup y) f = some v := by
    show List.lookup f [(f, v), (("self" : Str), Value.ref x)] = _
    simp only [List.lookup, beq_self_eq_true]
  refine ks_codeAny_call_defAt (body := [iSup txt kk p0 p1 p2 p3 p4 p5, iSet f q1 q2 q3 q4]) hroom (X _ _ ho) rfl hlim (codeRec_of X hcd) rfl hb (fun y hy => ?_) (fun y hy => ?_) (fun h₁ hns hk₁ => ?_) rfl rfl rfl
  · have hy' : y ∈ [(("self" : Str), NameKind.local), (f, NameKind.local), (PySem.Str.ofString "__class__", .free), (PySem.Str.ofString "super", .globalImplicit)] := hy
    simp only [List.mem_cons, List.not_mem_nil, or_false] at hy'
    rcases hy' with rfl | rfl | rfl | rfl <;> (intro z; cases z)
  · simp only [List.mem_cons, List.not_mem_nil, or_false] at hy
    rcases hy with rfl | rfl
    · exact lself
    · exact lf
  have hxL : s.heap.objs.size ≠ x := Nat.ne_of_gt (Heap.lt_size hx)
  obtain ⟨hp0, g, d, t, os⟩ := s
  refine super_init (m := fun y => ([(("self" : Str), Value.ref x), (f, v)] : List (Str × Value)).reverse.lookup y) T (a0 := { arg := "self", annotation := none, pos := ps }) rfl rfl lself lc ls rfl hp (X.keeps hk₁) (G.keeps hk₁) hns vself (hk₁ _ _ hx) hnx (fun h' tk t1 k' hx' => ?_)
  have hns' : h'.Ns hp0.objs.size (fun y => ([(("self" : Str), Value.ref x), (f, v)] : List (Str × Value)).reverse.lookup y) := by
    obtain ⟨o, es, ep, e1, r⟩ := hns
    exact ⟨o, es, ep, k' _ _ hxL e1, r⟩
  have X' : K.In h' := fun a o e => k' a o (fun z => by rw [z, hnx] at e; cases e) ((X.keeps hk₁) a o e)
  refine wpAt_of_wpAny (wpAny_execs_cons (plainObj_wpAny_Assign_Attribute ?_))
  refine ldA rfl hns' vf rfl lf Fo.e (ldA rfl hns' vself rfl lself (by decide) ?_)
  refine set_plain X' (ox := excO C t1) (od := none) ⟨hx', rfl, rfl, trivial⟩ T.sa ?_
  refine exc_osa X' hx' hcl (show refsVE (.ref C :: bm) = true from hbm) rfl noN (fun h₃ tk₃ dx k₃ dn dne hx₃ hn₃ => ?_)
  have zz : hp0.objs.size < h₁.objs.size := hns.lt
  have zz' : hp0.objs.size < h'.objs.size := hns'.lt
  refine wpAny_execs_nil (hq h₃ tk₃ dx t1 ⟨fun b o hb e => k₃ b o hb (k' b o hb (hk₁ b o e)), hx₃, Nat.le_of_lt (Nat.lt_of_lt_of_le zz' dn), dne, hn₃⟩)
end
end Err
end PySem

set_option maxHeartbeats 4000000
/-! An own error with two fields; an error made by a call. -/
namespace PySem
namespace Err
open PySem.W PySem.Calls PyProof.Rows PySem.HandSPX
section
variable {prog : Program} {w : World} {A : Around} {E : Value → Shared → Prop} {R : Result → Shared → Prop} {s : Shared} {K : Frag} {mg : Str → Option Value} {C fI cc cda : Addr} {qual f f2 : Str} {ar : Arguments} {body : List Stmt} {sc : Scope} {fd : FuncData}
theorem err_init2 {txt : Str} {kk : Nat} {ps pf pf2 p0 p1 p2 p3 p4 p5 q1 q2 q3 q4 r1 r2 r3 r4 : Pos} (T : ErrTxt prog K C fI cc cda qual (iA [(f, pf), (f2, pf2)] ps) [iSup txt kk p0 p1 p2 p3 p4 p5, iSet f q1 q2 q3 q4, iSet f2 r1 r2 r3 r4] (iS [f, f2]) fd) (Fo : FOk f) (Fo2 : FOk f2) (hff : (f == f2) = false) (hff2 : (f2 == f) = false)
    (noN : findIn K (.ref C) f = some none) (noN2 : findIn K (.ref C) f2 = some none) (hp : (p2.endLine == p4.line) = true) {x t0 : Addr} {v v2 : Value} {args : Args} (X : K.In s.heap) (G : Names s.heap mg) (hlim : s.heap.NoLimit) (hx : s.heap.get? x = some (excO C t0)) (hnx : K.lookup x = none) (hroom : A.depth < recursionLimit)
    (hb : BindsTo s fd args [("self", .ref x), (f, v), (f2, v2)])
    (hq : ∀ h' tk dx t1, InitEnd s.heap h' x C dx t1 (fun y => if y = f2 then some v2 else if y = f then some v else none) → R (.ok (.ret .none)) { s with heap := h', toks := tk }) :
    codeAny (model prog w) A (.call (.ref fI) args) R s := by
  obtain ⟨⟨oc, od, osl, ho⟩, ⟨doc, pm, an, ct, rfl⟩, hcd⟩ := T.fn
  obtain ⟨nm, q, N, bs, bm, sn, sub, ab, col, dd, k0, k1, k2, k3, k5, hC, hbm, hal⟩ := T.cls
  have hcl : clsIn K C = some { name := nm, bases := bs, mro := .ref C :: bm, ns := N, qualname := q, hasDict := true, slotNames := sn, subclasses := sub, abstract := ab, collection := col, hasDel := false } := by unfold clsIn; rw [hC] <;> rfl
  have hnm : (iS [f, f2]).names = [(("self" : Str), NameKind.local), (f, NameKind.local), (f2, NameKind.local), (PySem.Str.ofString "__class__", .free), (PySem.Str.ofString "super", .globalImplicit)] := rfl
  have lself : (iS [f, f2]).names.lookup ("self" : Str) = some .local := rfl
  have lf : (iS [f, f2]).names.lookup f = some .local := by
    rw [hnm]; simp only [List.lookup, Fo.a, beq_self_eq_true]
  have lf2 : (iS [f, f2]).names.lookup f2 = some .local := by
    rw [hnm]; simp only [List.lookup, Fo2.a, hff2, beq_self_eq_true]
  have lc : (iS [f, f2]).names.lookup ("__class__" : Str) = some .free := by
    rw [hnm]; simp only [List.lookup, Fo.c, Fo2.c, show (("__class__" : Str) == ("self" : Str)) = false by decide, show (("__class__" : Str) == (PySem.Str.ofString "__class__" : Str)) = true by decide]
  have ls : (iS [f, f2]).names.lookup ("super" : Str) = some .globalImplicit := by
    rw [hnm]; simp only [List.lookup, Fo.d, Fo2.d, show (("super" : Str) == ("self" : Str)) = false by decide, show (("super" : Str) == (PySem.Str.ofString "__class__" : Str)) = false by decide, show (("super" : Str) == (PySem.Str.ofString "super" : Str)) = true by decide]
  have vself : (fun y => ([(("self" : Str), Value.ref x), (f, v), (f2, v2)] : List (Str × Value)).reverse.lookup y) ("self" : Str) = some (Value.ref x) := by
    show List.lookup ("self" : Str) [(f2, v2), (f, v), (("self" : Str), Value.ref x)] = _
    simp only [List.lookup, Fo.b, Fo2.b, beq_self_eq_true]
  have vf : (fun y => ([(("self" : Str), Value.ref x), (f, v), (f2, v2)] : List (Str × Value)).reverse.lookup y) f = some v := by
    show List.lookup f [(f2, v2), (f, v), (("self" : Str), Value.ref x)] = _
    simp only [List.lookup, hff, beq_self_eq_true]
  have vf2 : (fun y => ([(("self" : Str), Value.ref x), (f, v), (f2, v2)] : List (Str × Value)).reverse.lookup y) f2 = some v2 := by
    show List.lookup f2 [(f2, v2), (f, v), (("self" : Str), Value.ref x)] = _
    simp only [List.lookup, beq_self_eq_true]
  refine ks_codeAny_call_defAt (body := [iSup txt kk p0 p1 p2 p3 p4 p5, iSet f q1 q2 q3 q4, iSet f2 r1 r2 r3 r4]) hroom (X _ _ ho) rfl hlim (codeRec_of X hcd) rfl hb (fun y hy => ?_) (fun y hy => ?_) (fun h₁ hns hk₁ => ?_) rfl rfl rfl
  · have hy' : y ∈ [(("self" : Str), NameKind.local), (f, NameKind.local), (f2, NameKind.local), (PySem.Str.ofString "__class__", .free), (PySem.Str.ofString "super", .globalImplicit)] := hy
    simp only [List.mem_cons, List.not_mem_nil, or_false] at hy'
    rcases hy' with rfl | rfl | rfl | rfl | rfl <;> (intro z; cases z)
  · simp only [List.mem_cons, List.not_mem_nil, or_false] at hy
    rcases hy with rfl | rfl | rfl
    · exact lself
    · exact lf
    · exact lf2
  have hxL : s.heap.objs.size ≠ x := Nat.ne_of_gt (Heap.lt_size hx)
  obtain ⟨hp0, g, d, t, os⟩ := s
  refine super_init (m := fun y => ([(("self" : Str), Value.ref x), (f, v), (f2, v2)] : List (Str × Value)).reverse.lookup y) T (a0 := { arg := "self", annotation := none, pos := ps }) rfl rfl lself lc ls rfl hp (X.keeps hk₁) (G.keeps hk₁) hns vself (hk₁ _ _ hx) hnx (fun h' tk t1 k' hx' => ?_)
  have hns' : h'.Ns hp0.objs.size (fun y => ([(("self" : Str), Value.ref x), (f, v), (f2, v2)] : List (Str × Value)).reverse.lookup y) := by
    obtain ⟨o, es, ep, e1, r⟩ := hns
    exact ⟨o, es, ep, k' _ _ hxL e1, r⟩
  have X' : K.In h' := fun a o e => k' a o (fun z => by rw [z, hnx] at e; cases e) ((X.keeps hk₁) a o e)
  have zz : hp0.objs.size < h₁.objs.size := hns.lt
  have zz' : hp0.objs.size < h'.objs.size := hns'.lt
  refine wpAt_of_wpAny (wpAny_execs_cons (plainObj_wpAny_Assign_Attribute ?_))
  refine ldA rfl hns' vf rfl lf Fo.e (ldA rfl hns' vself rfl lself (by decide) ?_)
  refine set_plain X' (ox := excO C t1) (od := none) ⟨hx', rfl, rfl, trivial⟩ T.sa ?_
  refine exc_osa X' hx' hcl (show refsVE (.ref C :: bm) = true from hbm) rfl noN (fun h₃ tk₃ dx k₃ dn dne hx₃ hn₃ => ?_)
  have dL : hp0.objs.size ≠ dx := Nat.ne_of_lt (Nat.lt_of_lt_of_le zz' dn)
  have hns3 : h₃.Ns hp0.objs.size (fun y => ([(("self" : Str), Value.ref x), (f, v), (f2, v2)] : List (Str × Value)).reverse.lookup y) := by
    obtain ⟨o, es, ep, e1, r⟩ := hns'
    exact ⟨o, es, ep, k₃ _ _ hxL e1, r⟩
  have X3 : K.In h₃ := fun a o e => k₃ a o (fun z => by rw [z, hnx] at e; cases e) (X' a o e)
  have hw : Within (fun y => if y = f then some v else none) [f] := fun y hy => by
    by_cases e : y = f
    · rw [e]; exact List.mem_cons_self ..
    · exact absurd (if_neg e) hy
  obtain ⟨oD, _, _, hoD, _, _⟩ := hn₃.count hw
  refine wpAny_execs_cons (plainObj_wpAny_Assign_Attribute ?_)
  refine ldA rfl hns3 vf2 rfl lf2 Fo2.e (ldA rfl hns3 vself rfl lself (by decide) ?_)
  refine set_plain X3 (ox := { cls := .ref C, dict := some dx, data := .fields #[.ref t1, .none, .none, .none, .bool false, .none] }) (od := some oD) ⟨hx₃, rfl, rfl, hoD⟩ T.sa ?_
  refine OEX.osa_old X3 hx₃ hn₃ hw (by show 1 ≤ 1000; decide) hcl (show refsVE (.ref C :: bm) = true from hbm) rfl noN2 (fun h₄ tk₄ k₄ hn₄ => ?_)
  have nd : ∀ {b : Addr} {o : Obj}, hp0.get? b = some o → b ≠ dx := fun {b o} e => Nat.ne_of_lt (Nat.lt_of_lt_of_le (Heap.lt_size e) (Nat.le_of_lt (Nat.lt_of_lt_of_le zz' dn)))
  refine wpAny_execs_nil (hq h₄ tk₄ dx t1 ⟨fun b o hb e => k₄ b o (nd e) (k₃ b o hb (k' b o hb (hk₁ b o e))), k₄ _ _ (Ne.symm dne) hx₃, Nat.le_of_lt (Nat.lt_of_lt_of_le zz' dn), dne, ?_⟩)
  exact hn₄

/-- C(..): the class called, where its __init__ is known to leave a dict with m -/
theorem made_of (T : ErrTxt prog K C fI cc cda qual ar body sc fd) {rest : List Value} {kw : List (Str × Value)} {m : Str → Option Value} (X : K.In s.heap) (hrest : rest.length ≤ sizeLine)
    (hI : ∀ (x t0 : Addr) (hp : Heap) (A' : Around) (R' : Result → Shared → Prop), (∀ b o, s.heap.get? b = some o → hp.get? b = some o) → hp.get? x = some (excO C t0) → K.lookup x = none → A'.depth ≤ A.depth + 1 → (∀ h' tk dx t1, InitEnd hp h' x C dx t1 m → R' (.ok (.ret .none)) { s with heap := h', toks := tk }) →
      codeAny (model prog w) A' (.call (.ref fI) ⟨.ref x :: rest, kw⟩) R' { s with heap := hp })
    (hq : ∀ h' tk e d, Made s.heap h' e C d m → R (.ok (.ret (.ref e))) { s with heap := h', toks := tk }) :
    codeAny (model prog w) A (.call (.ref C) ⟨rest, kw⟩) R s := by
  obtain ⟨nm, q, N, bs, bm, sn, sub, ab, col, dd, k0, k1, k2, k3, k5, hC, hbm, hal⟩ := T.cls
  obtain ⟨hp, g, dr, tk, os⟩ := s
  have k : ∀ b o, hp.get? b = some o → ((hp.push (kdv_tup rest)).push (excO C hp.objs.size)).get? b = some o := fun b o e => Heap.get?_push_of_some _ (Heap.get?_push_of_some _ e)
  have hget : ((hp.push (kdv_tup rest)).push (excO C hp.objs.size)).get? (hp.objs.size + 1) = some (excO C hp.objs.size) := by heap_get
  have hnx : K.lookup (hp.objs.size + 1) = none := by
    cases e : K.lookup (hp.objs.size + 1) with
    | none => rfl
    | some o =>
      have z : hp.get? (hp.objs.size + 1) = some o := X _ _ e
      exact absurd (Nat.lt_of_succ_lt (Heap.lt_size z)) (Nat.lt_irrefl _)
  refine call_kw (a := ⟨rest, kw⟩) (s := ⟨hp, g, dr, tk, os⟩) (X _ _ hC) hbm (looks_findIn X T.iC) (fun self => bind_fn X self T.tC) hrest ?_
  refine hI (hp.objs.size + 1) hp.objs.size _ _ _ k hget hnx (Nat.le_refl _) fun h' tk' dx t1 M => ?_
  have old : ∀ b o, hp.get? b = some o → h'.get? b = some o := fun b o e => M.keep b o (Nat.ne_of_lt (Nat.lt_succ_of_lt (Heap.lt_size e))) (k b o e)
  have z : hp.objs.size + 1 + 1 ≤ dx := by
    have q := M.dbig
    rw [Heap.size_push, Heap.size_push] at q
    exact q
  exact ⟨rfl, hq h' tk' (hp.objs.size + 1) dx ⟨old, Nat.le_succ _, ⟨_, M.obj⟩, Nat.le_trans (Nat.le_trans (Nat.le_succ _) (Nat.le_succ _)) z, M.dne, M.ns⟩⟩
end
end Err
end PySem

set_option maxHeartbeats 4000000
/-! The layer's rules for own errors as values: made by place and by name, their fields, isinstance. -/
namespace L2
open PySem PySem.Spec PyProof.Rows
/-- how a call's values come to the fields -/
inductive Bd (fl : List Str) : List Value → List (Str × Value) → List Value → Prop
  | pos (us : List Value) : us.length = fl.length → Bd fl us [] us
  | kw (us : List Value) : us.length = fl.length → Bd fl [] (fl.zip us) us
  | rev (f g : Str) (a b : Value) : fl = [f, g] → Bd fl [] [(g, b), (f, a)] [a, b]
/-- what the rules ask of an error class: x its name in the module, C its address, fl its fields -/
structure ErrK (P : Program) (w : World) (K : PySem.W.Frag) (mg : Str → Option Value) (x : Str) (C : Addr) (fl : List Str) : Prop where
  gC : mg x = some (.ref C)
  kC : PySem.W.keepIn K (.ref C) = true
  made : ∀ {A : Around} {R : Result → Shared → Prop} {s : Shared} {us : List Value} {pos : List Value} {kw : List (Str × Value)}, Bd fl pos kw us → K.In s.heap → PySem.Err.Names s.heap mg → s.heap.NoLimit → A.depth + 1 < recursionLimit →
    (∀ h' tk e d, PySem.Err.Made s.heap h' e C d (fun y => (fl.zip us).reverse.lookup y) → R (.ok (.ret (.ref e))) { s with heap := h', toks := tk }) → codeAny (model P w) A (.call (.ref C) ⟨pos, kw⟩) R s
  ga : PySem.W.findIn K (.ref C) "__getattribute__" = some (some (.builtin "BaseException.__getattribute__"))
  gg : PySem.W.findIn K (.ref C) "__getattr__" = some none
  exC : PySem.W.subIn K (.ref C) (.type "BaseException") = some true
  hdC : PySem.W.hasDictIn K C = true
  noN : ∀ f ∈ fl, PySem.W.findIn K (.ref C) f = some none
  cls : (PySem.W.clsIn K C).isSome = true
  ha : PySem.W.findIn K (.ref C) "__class__" = some (some (.builtin "object.__class__"))
  hn : PySem.W.specialIn K (.builtin "object.__class__") "__get__" = some (some (.builtin "getset_descriptor.__get__"))
  ht : PySem.W.takesIn K (.builtin "object.__class__") = some true
  hm : PySem.W.mroIn K C (.type "object") = some true
  sup : mg "super" = none
/-- an error stands at e, its dict at d -/
def ErrAt (H : Hp) (e C d : Addr) (fs : List (Str × V)) : Prop := H e = some (.ext fun h => ∃ t1 : Addr, h.get? e = some ({ cls := .ref C, dict := some d, data := .fields #[.ref t1, .none, .none, .none, .bool false, .none] } : Obj)) ∧ H d = some (.xd fs)
def eobj (e C d : Addr) : HO := .ext fun h => ∃ t1 : Addr, h.get? e = some ({ cls := .ref C, dict := some d, data := .fields #[.ref t1, .none, .none, .none, .bool false, .none] } : Obj)
theorem eobj_ok {P : Program} {w : World} {H : Hp} {h : Heap} {e C d t1 : Addr} (he : h.get? e = some ({ cls := .ref C, dict := some d, data := .fields #[.ref t1, .none, .none, .none, .bool false, .none] } : Obj)) : ObjOk P w H h e (eobj e C d) :=
  ⟨⟨t1, he⟩, ⟨_, he⟩, fun h1 h2 z k => by
    obtain ⟨t, q⟩ := z
    exact ⟨t, k _ q⟩⟩
theorem eobj_at {P : Program} {w : World} {H : Hp} {h : Heap} {e C d : Addr} (hok : HOk P w H h) (he : H e = some (eobj e C d)) : ∃ t1 : Addr, h.get? e = some ({ cls := .ref C, dict := some d, data := .fields #[.ref t1, .none, .none, .none, .bool false, .none] } : Obj) := by
  have x : ObjOk P w H h e (.ext fun h => ∃ t1 : Addr, h.get? e = some ({ cls := .ref C, dict := some d, data := .fields #[.ref t1, .none, .none, .none, .bool false, .none] } : Obj)) := hok e _ he
  exact x.1
theorem lookup_cons_if {β : Type} (f g : Str) (y : β) (fs : List (Str × β)) : ((f, y) :: fs).lookup g = if g = f then some y else fs.lookup g := by
  by_cases h : g = f
  · subst h
    simp [List.lookup]
  · have e : (g == f) = false := by simpa using h
    rw [if_neg h]
    simp [List.lookup, e]
theorem relO_lookup : ∀ {l : List (Str × V)} {m : List (Str × Value)}, Paired (fun (p : Str × V) (q : Str × Value) => p.1 = q.1 ∧ RelV p.2 q.2) l m → ∀ f, RelO (l.lookup f) (m.lookup f)
  | _, _, .nil, f => trivial
  | _, _, .cons (a := p) (b := q) h t, f => by
    obtain ⟨k, v⟩ := p
    obtain ⟨k', v'⟩ := q
    obtain ⟨e, r⟩ := h
    have e' : k = k' := e
    subst e'
    rw [lookup_cons_if, lookup_cons_if]
    by_cases hf : f = k
    · rw [if_pos hf, if_pos hf]
      exact r
    · rw [if_neg hf, if_neg hf]
      exact relO_lookup t f
theorem paired_zip : ∀ {fl : List Str} {vs : List V} {us : List Value}, Vals vs us → Paired (fun (p : Str × V) (q : Str × Value) => p.1 = q.1 ∧ RelV p.2 q.2) (fl.zip vs) (fl.zip us)
  | [], _, _, _ => .nil
  | _ :: _, _, _, .nil => .nil
  | f :: fl, _, _, .cons r t => .cons ⟨rfl, r⟩ (paired_zip t)
theorem Paired.snoc {α β : Type} {F : α → β → Prop} : ∀ {l : List α} {m : List β} {a : α} {b : β}, Paired F l m → F a b → Paired F (l ++ [a]) (m ++ [b])
  | _, _, _, _, .nil, h => .cons h .nil
  | _, _, _, _, .cons r t, h => .cons r (Paired.snoc t h)
theorem Paired.rev {α β : Type} {F : α → β → Prop} : ∀ {l : List α} {m : List β}, Paired F l m → Paired F l.reverse m.reverse
  | _, _, .nil => .nil
  | _, _, .cons r t => by
    rw [List.reverse_cons, List.reverse_cons]
    exact Paired.snoc (Paired.rev t) r
section
variable {X : Cx} {pins : List (Addr × Obj)} {σ : St} {H : Hp} {s : Shared}
/-- two new objects laid and tracked -/
theorem Inv.laid2 {h' : Heap} {a b : Addr} {o u : HO} {t' : Nat} (I : Inv X pins σ H s) (k : ∀ c x, s.heap.get? c = some x → h'.get? c = some x) (ha : s.heap.objs.size ≤ a) (hb : s.heap.objs.size ≤ b) (hab : a ≠ b)
    (na : ObjOk X.prog X.w (upd (upd H a o) b u) h' a o) (nb : ObjOk X.prog X.w (upd (upd H a o) b u) h' b u) : Inv X pins σ (upd (upd H a o) b u) { s with heap := h', toks := t' } := by
  have fa := I.hok.fresh ha
  have fb := I.hok.fresh hb
  have la : ∀ {c : Addr} {x : Obj}, s.heap.get? c = some x → c ≠ a := fun {c x} q => Nat.ne_of_lt (Nat.lt_of_lt_of_le (Heap.lt_size q) ha)
  have lb : ∀ {c : Addr} {x : Obj}, s.heap.get? c = some x → c ≠ b := fun {c x} q => Nat.ne_of_lt (Nat.lt_of_lt_of_le (Heap.lt_size q) hb)
  have up : ∀ {c : Addr} {x : HO}, H c = some x → upd (upd H a o) b u c = some x := fun {c x} q => by rw [upd_ne (ne_of_none q fb), upd_ne (ne_of_none q fa)]; exact q
  refine I.un ⟨fun c x q _ _ _ => k c x q, fun c x q _ _ _ => ⟨x.slots, k c x q⟩, fun c x q n _ => by rw [upd_ne (lb q), upd_ne (la q)]; exact n, fun c x q _ => ⟨x, k c x q⟩, fun c xs q => up q, fun c x v q => up q, fun c ps q => ⟨#[], by rw [up q]; simp⟩⟩ fun c x q => ?_
  by_cases hcb : c = b
  · subst hcb
    rw [upd_same] at q
    cases q
    exact nb
  · rw [upd_ne hcb] at q
    by_cases hca : c = a
    · subst hca
      rw [upd_same] at q
      cases q
      exact na
    · rw [upd_ne hca] at q
      exact (I.hok c x q).stay (fun d v _ z => k d v z) (fun d z => up z) fun d xs z => up z
theorem Inv.names (I : Inv X pins σ H s) (h : X.mg "super" = none) : PySem.Err.Names s.heap X.mg := by
  obtain ⟨mb, h1, h2⟩ := I.mod.blt
  exact ⟨I.mod.glob.keeps I.bk, h, mb, h1.keeps I.bk, (h2 "super" (by decide)).trans (by first | boot_by_name | rfl | kernel_rfl | decide +kernel)⟩
end
/-- C(..) as a value -/
def tMkE (C : Addr) (fl : List Str) (g : List V → List V) (ta : TA) : TE := fun σ H Q => ta σ H fun vs H1 => (g vs).length = fl.length ∧ vs.length ≤ 1000 ∧ ∀ e d, H1 e = none → H1 d = none → d ≠ e → Q (.ref e) (upd (upd H1 d (.xd ((fl.zip (g vs)).reverse))) e (eobj e C d))
section
variable {X : Cx} {x : Str} {C : Addr} {fl : List Str} {k : Nat} {a : Expr} {as : List Expr} {ta tk : TA} {p pos : Pos} {kws : List Keyword}
theorem mkE_end {pins : List (Addr × Obj)} {σ : St} {H : Hp} {s : Shared} {Q : VK} {vs : List V} {us ps : List Value} {kw : List (Str × Value)} (T : ErrK X.prog X.w X.K X.mg x C fl) (hr : Room k X.A) (I : Inv X pins σ H s) (hb : Bd fl ps kw us) (r : Vals vs us)
    (h : ∀ e d, H e = none → H d = none → d ≠ e → Q (.ref e) (upd (upd H d (.xd ((fl.zip vs).reverse))) e (eobj e C d))) : wpAny (model X.prog X.w) X.A (call (.ref C) ps kw) (EP X pins σ Q) X.xe s := by
  have hlim := I.nolimit
  have hN := I.names T.sup
  refine wpAny_call (T.made hb I.kIn hN hlim (by have := hr.dp; show X.A.depth + 1 < _; omega) fun h' tk e d M => ?_)
  obtain ⟨t1, ho⟩ := M.obj
  have na : ObjOk X.prog X.w (upd (upd H d (.xd ((fl.zip vs).reverse))) e (eobj e C d)) h' d (.xd ((fl.zip vs).reverse)) := ⟨_, M.ns, relO_lookup (Paired.rev (paired_zip r))⟩
  exact ⟨.ref e, _, I.laid2 (t' := tk) M.keep M.dbig M.new M.dne na (eobj_ok ho), rfl, h e d (I.hok.fresh M.new) (I.hok.fresh M.dbig) M.dne⟩
theorem pe_mkE (T : ErrK X.prog X.w X.K X.mg x C fl) (hr : Room k X.A) (ha : PA X (a :: as) ta) (hg : Gl X x := by rfl) (hdb : (x == ("__debug__" : Str)) = false := by decide)
    (he : starEach (a :: as) X.env = (false, eval a X.env) :: starEach as X.env := by rfl) (hpl : (backTo pos (starEach as X.env)).any (·.1) = false := by rfl) :
    PE X (.Call (.Name x p) (a :: as) [] pos) (tMkE C fl id ta) := by
  refine ⟨fun pins s σ H Q I h => ?_⟩
  refine wpAny_Call_Name_kw (ld_glob I hg T.gC ?_ hdb)
  refine PySem.W.callWith_K (h₀ := X.base) I.ok.mod.kin T.kC (thn (ha.run pos pins s σ H _ I h) fun us s1 hh => ?_) he hpl
  obtain ⟨vs, H1, I1, r1, hl, hz, q⟩ := hh
  have e : us.length = fl.length := r1.length.symm.trans hl
  exact ⟨I1.kIn, mkE_end T hr I1 (.pos us e) r1 q⟩
theorem pe_mkK (T : ErrK X.prog X.w X.K X.mg x C fl) (hr : Room k X.A) (hk : PK X kws tk) (hg : Gl X x := by rfl) (hdb : (x == ("__debug__" : Str)) = false := by decide)
    (hall : (backToKw pos (keywordEach kws X.env)).all (·.1.isSome) = true := by rfl) (hks : (backToKw pos (keywordEach kws X.env)).filterMap (·.1) = fl := by rfl)
    (hpl : ((backTo pos (starEach [] X.env)).any (·.1) || (backToKw pos (keywordEach kws X.env)).any (·.1.isNone)) = false := by rfl) :
    PE X (.Call (.Name x p) [] kws pos) (tMkE C fl id tk) := by
  refine ⟨fun pins s σ H Q I h => ?_⟩
  refine wpAny_Call_Name_kw (ld_glob I hg T.gC ?_ hdb)
  refine PySem.W.callWith_KW0 (h₀ := X.base) I.ok.mod.kin T.kC hall (thn (hk.run pos pins s σ H _ I h) fun us s1 hh => ?_) hpl
  obtain ⟨vs, H1, I1, r1, hl, hz, q⟩ := hh
  have e : us.length = fl.length := r1.length.symm.trans hl
  rw [hks]
  exact ⟨I1.kIn, mkE_end T hr I1 (.kw us e) r1 q⟩
/-- two keywords, the second field's first -/
theorem pe_mkR {f g : Str} (T : ErrK X.prog X.w X.K X.mg x C [f, g]) (hr : Room k X.A) (hk : PK X kws tk) (hg : Gl X x := by rfl) (hdb : (x == ("__debug__" : Str)) = false := by decide)
    (hall : (backToKw pos (keywordEach kws X.env)).all (·.1.isSome) = true := by rfl) (hks : (backToKw pos (keywordEach kws X.env)).filterMap (·.1) = [g, f] := by rfl)
    (hpl : ((backTo pos (starEach [] X.env)).any (·.1) || (backToKw pos (keywordEach kws X.env)).any (·.1.isNone)) = false := by rfl) :
    PE X (.Call (.Name x p) [] kws pos) (tMkE C [f, g] List.reverse tk) := by
  refine ⟨fun pins s σ H Q I h => ?_⟩
  refine wpAny_Call_Name_kw (ld_glob I hg T.gC ?_ hdb)
  refine PySem.W.callWith_KW0 (h₀ := X.base) I.ok.mod.kin T.kC hall (thn (hk.run pos pins s σ H _ I h) fun us s1 hh => ?_) hpl
  obtain ⟨vs, H1, I1, r1, hl, hz, q⟩ := hh
  rw [List.length_reverse] at hl
  rw [hks]
  match vs, us, r1, hl, q with
  | [v0, v1], [u0, u1], r1, _, q =>
    cases r1 with
    | cons a0 t0 =>
      cases t0 with
      | cons a1 t1 =>
        exact ⟨I1.kIn, mkE_end T hr I1 (.rev f g u1 u0 rfl) (.cons a1 (.cons a0 .nil)) q⟩
/-- e.f, an error's field -/
def tErrF (P : Program) (w : World) (K : PySem.W.Frag) (mg : Str → Option Value) (f : Str) (te : TE) : TE := fun σ H Q => te σ H fun y H1 => ∃ (x : Str) (fl : List Str) (e C d : Addr) (fs : List (Str × V)) (v : V), y = .ref e ∧ H1 e = some (eobj e C d) ∧ H1 d = some (.xd fs) ∧ ErrK P w K mg x C fl ∧ f ∈ fl ∧ fs.lookup f = some v ∧ Q v H1
theorem pe_errF {e : Expr} {te : TE} {f : Str} (he : PE X e te) (hb : attributeBase e f X.env (eval e X.env) = eval e X.env := by rfl) : PE X (.Attribute e f pos) (tErrF X.prog X.w X.K X.mg f te) := by
  refine ⟨fun pins s σ H Q I h => ?_⟩
  refine attr_of hb (thn (he.run pins s σ H _ I h) fun u s1 hh => ?_)
  obtain ⟨y, H1, I1, ry, x, fl, a, C, d, fs, v, rfl, ea, ed, T, hf, hl, q⟩ := hh
  obtain rfl : u = Value.ref a := ry
  obtain ⟨t1, ho⟩ := eobj_at I1.hok ea
  have hx : ObjOk X.prog X.w H1 s1.heap d (.xd fs) := I1.hok d _ ed
  obtain ⟨mA, hns, hrl⟩ := hx
  obtain ⟨od, hod, hlk⟩ := lookIn_ns hns
  obtain ⟨u, hu, ru⟩ := RelO.some_of (v := v) (o := mA f) (by rw [← hl]; exact hrl f)
  have J : PySem.W.InstAt s1.heap a _ C (some od) := ⟨ho, rfl, rfl, hod⟩
  exact HandSPX.exc_get I1.kIn J T.ga T.gg T.exC (PySem.W.findObj_own T.hdC (T.noN f hf) rfl (by rw [hlk, hu])) (handed_of ru) ⟨v, H1, I1.tok _, ru, q⟩
/-- the same with the context's parts said (within a comprehension) -/
theorem pe_errFk (P : Program) (w : World) (K : PySem.W.Frag) (mg : Str → Option Value) {e : Expr} {te : TE} {f : Str} (he : PE X e te) (h1 : X.prog = P := by rfl) (h2 : X.w = w := by rfl) (h3 : X.K = K := by rfl) (h4 : X.mg = mg := by rfl)
    (hb : attributeBase e f X.env (eval e X.env) = eval e X.env := by rfl) : PE X (.Attribute e f pos) (tErrF P w K mg f te) := by
  subst h1 h2 h3 h4
  exact pe_errF he hb
/-- isinstance(e, c), e an own error -/
def rIsErr (P : Program) (w : World) (K : PySem.W.Frag) (mg : Str → Option Value) : List V → Hp → VK → Prop := fun xs H Q => ∃ (x : Str) (fl : List Str) (e C d : Addr) (fs : List (Str × V)) (c : V) (u : Value) (b : Bool), xs = [.ref e, c] ∧ H e = some (eobj e C d) ∧ H d = some (.xd fs) ∧ ErrK P w K mg x C fl ∧ ClsV c u ∧ PySem.W.kitOne K (.ref C) u = some b ∧ Q (.bl b) H
theorem call_isErr : CallR X (.builtin "isinstance") (rIsErr X.prog X.w X.K X.mg) := by
  intro pins s σ H xs us Q I r h
  obtain ⟨x, fl, e, C, d, fs, c, u, b, rfl, ea, ed, T, k, ee, q⟩ := h
  obtain ⟨u1, u2, rfl, r1, r2⟩ := vals2 r
  have e2 := k.eq r2
  subst e2
  obtain rfl : u1 = Value.ref e := r1
  obtain ⟨t1, ho⟩ := eobj_at I.hok ea
  have hx : ObjOk X.prog X.w H s.heap d (.xd fs) := I.hok d _ ed
  obtain ⟨mA, hns, hrl⟩ := hx
  obtain ⟨od, hod, hlk⟩ := lookIn_ns hns
  have J : PySem.W.InstAt s.heap e _ C (some od) := ⟨ho, rfl, rfl, hod⟩
  exact PySem.W.kia_one (PySem.W.kitx_exc T.cls T.ga T.gg T.exC T.ha T.hn T.ht T.hm) I.kIn J ee (fun z => nomatch z) fun tk => ⟨.bl b, H, I.tok tk, rfl, q⟩
end
end L2

set_option maxHeartbeats 4000000
namespace K05
open PySem PySem.Spec PyProof.Rows L2
def top (i : Nat) : Stmt := PySem.Challenge.pw_relatedrights_k05_errors_as_told.main.body.getD i (.Pass ⟨0, 0, 0, 0⟩)
abbrev sMixed : Stmt := top 18
abbrev sSource : Stmt := top 19
abbrev sTake : Stmt := top 20
theorem scMixed : FnScope ["cell", "draw", "figure"] ["cell", "draw"] (defScope sMixed) := ⟨rfl, rfl, rfl, by decide +kernel, rfl, by decide +kernel, by decide +kernel⟩
theorem scSource : FnScope ["cell"] ["cell"] (defScope sSource) := ⟨rfl, rfl, rfl, by decide +kernel, rfl, by decide +kernel, by decide +kernel⟩
theorem scTake : FnScope ["source", "bound", "drawn"] ["source", "bound"] (defScope sTake) := ⟨rfl, rfl, rfl, by decide +kernel, rfl, by decide +kernel, by decide +kernel⟩
/-- some number comes out -/
def spMixed : Sp := fun vs H Q _ => ∃ c d : Int, vs = [.int c, .int d] ∧ 0 ≤ d ∧ d ≤ 1099511627776 ∧ ∀ r : Int, 0 ≤ r → Q (.int r) H
theorem md {a b : Int} (h : 0 < b) : ∃ r : Int, a % b = r ∧ 0 ≤ r ∧ r < b := ⟨_, rfl, Int.emod_nonneg a (by omega), Int.emod_lt_of_pos a h⟩
section
variable {P : Program} {w : World} {K : PySem.W.Frag} {mg : Str → Option Value} {base : Heap}
theorem ok_mixed {f : Addr} {fd : FuncData} (F : Fun K "_law_mixed" "_law_mixed" sMixed f fd) (mi : mg "int" = none) : FnOk P w K mg base CX0 1 f fd ["cell", "draw"] spMixed := by
  refine F.ok scMixed (fun vs H Q E h => ?_) (fun cdv A outer s H vs Q E hr h => ?_)
  · obtain ⟨c, d, rfl, _⟩ := h
    rfl
  · obtain ⟨c, d, rfl, h0, h1, q⟩ := h
    refine ⟨_, pss_cons (ps_set (i := 2) scMixed.nd rfl (.inl rfl) (pe_op op_mod (pe_callTy call_int1 (by rfl) mi (by decide +kernel) (pa_cons (pe_op op_mul (pe_op op_add (pe_op op_mod (pe_callTy call_int1 (by rfl) mi (by decide +kernel) (pa_cons (pv 0) pa_nil)) pe_int) pe_int) (pe_op op_add (pe_op op_mul (pv 1) pe_int) pe_int)) pa_nil)) pe_int))
      (pss_cons (ps_set (i := 2) scMixed.nd rfl (.inl rfl) (pe_op op_mod (pe_callTy call_int1 (by rfl) mi (by decide +kernel) (pa_cons (pe_op op_mul (pe_op op_add (pv 2) (pe_op op_mul (pe_op op_mod (pe_callTy call_int1 (by rfl) mi (by decide +kernel) (pa_cons (pe_op op_fdivW (pv 0) pe_int) pa_nil)) pe_int) (pe_op op_add (pv 1) pe_int))) pe_int) pa_nil)) pe_int))
      (pss_cons (ps_set (i := 2) scMixed.nd rfl (.inl rfl) (pe_op op_mod (pe_callTy call_int1 (by rfl) mi (by decide +kernel) (pa_cons (pe_op op_mul (pv 2) (pe_op op_add (pe_op op_add (pe_op op_fdiv (pv 2) pe_int) pe_int) (pv 1))) pa_nil)) pe_int))
      (pss_one (ps_ret (pe_op op_mod (pe_callTy call_int1 (by rfl) mi (by decide +kernel) (pa_cons (pe_op op_mul (pv 2) (pe_op op_add (pe_op op_fdiv (pv 2) pe_int) pe_int)) pa_nil)) pe_int))))), ?_⟩
    obtain ⟨a1, ea1, la1, ha1⟩ := md (a := c) (b := 2147483646) (by decide)
    refine ⟨_, rfl, .inl ⟨_, rfl, _, _, rfl, rfl, (by show (0 : Int) < _; decide), _, _, rfl, rfl, _, rfl, _, _, rfl, rfl, .inl ⟨by omega, by omega⟩, _, _, rfl, rfl, _, _, rfl, rfl, .inl ⟨by omega, by omega⟩, .inl ⟨_, rfl, _, _, rfl, rfl, (by show (0 : Int) < _; decide), ?_⟩⟩⟩
    (try dsimp only); rw [ea1]
    obtain ⟨f1, ef1, lf1, hf1⟩ := md (a := (a1 + 1) * (d * 7919 + 104729)) (b := 2147483647) (by decide)
    (try dsimp only); rw [ef1]
    obtain ⟨a2, ea2, la2, ha2⟩ := md (a := c / 2147483646) (b := 1000003) (by decide)
    refine ⟨_, rfl, _, rfl, _, _, rfl, rfl, wide_div (b := 40) (by decide) (by decide) (by decide) (by decide), .inl ⟨_, rfl, _, _, rfl, rfl, (by show (0 : Int) < _; decide), ?_⟩⟩
    (try dsimp only); rw [ea2]
    have hm : a2 * (d + 31) ≤ 1000003 * 1099511627807 := Int.mul_le_mul (by omega) (by omega) (by omega) (by omega)
    have hn : 0 ≤ a2 * (d + 31) := Int.mul_nonneg la2 (by omega)
    refine ⟨_, rfl, _, _, rfl, rfl, _, _, rfl, rfl, .inl ⟨by omega, by omega⟩, _, _, rfl, rfl, _, _, rfl, rfl, .inl ⟨by omega, by omega⟩, .inl ⟨_, rfl, _, _, rfl, rfl, (by show (0 : Int) < _; decide), ?_⟩⟩
    obtain ⟨f2, ef2, lf2, hf2⟩ := md (a := (f1 + a2 * (d + 31)) * 48271) (b := 2147483629) (by decide)
    (try dsimp only); rw [ef2]
    refine ⟨_, rfl, _, rfl, _, _, rfl, rfl, ⟨by decide, by decide⟩, _, _, rfl, rfl, _, rfl, _, _, rfl, rfl, _, _, rfl, rfl, .inl ⟨by omega, by omega⟩, .inl ⟨_, rfl, _, _, rfl, rfl, (by show (0 : Int) < _; decide), ?_⟩⟩
    obtain ⟨f3, ef3, lf3, hf3⟩ := md (a := f2 * (f2 / 1013 + 69621 + d)) (b := 2147483587) (by decide)
    (try dsimp only); rw [ef3]
    refine ⟨_, rfl, _, rfl, _, _, rfl, rfl, ⟨by decide, by decide⟩, _, _, rfl, rfl, _, _, rfl, rfl, .inl ⟨by omega, by omega⟩, .inl ⟨_, rfl, _, _, rfl, rfl, (by show (0 : Int) < _; decide), ?_⟩⟩
    exact q _ (Int.emod_nonneg _ (by decide))
/-- three numbers, from a number -/
def spSource : Sp := fun vs H Q _ => ∃ c : Int, vs = [.int c] ∧ ∀ (p : Addr) (x y : Int), H p = none → 0 ≤ x → 0 ≤ y → Q (.ref p) (upd H p (.lst [.int x, .int y, .int 0]))
theorem ok_source {f : Addr} {fd : FuncData} (F : Fun K "_law_source" "_law_source" sSource f fd) (ma : mg "abs" = none) : FnOk P w K mg base CX0 1 f fd ["cell"] spSource := by
  refine F.ok scSource (fun vs H Q E h => ?_) (fun cdv A outer s H vs Q E hr h => ?_)
  · obtain ⟨c, rfl, _⟩ := h
    rfl
  · obtain ⟨c, rfl, q⟩ := h
    refine ⟨_, pss_cons (ps_if (pt_cmpR op_ge (pe_callB call_abs (by rfl) ma (by decide +kernel) (pa_cons (pv 0) pa_nil)) (pe_op op_pow pe_int pe_int) (nomark _))
        (pss_one (ps_ret (pe_lst (pa_cons (pe_callB call_abs (by rfl) ma (by decide +kernel) (pa_cons (pv 0) pa_nil)) (pa_cons (pe_callB call_abs (by rfl) ma (by decide +kernel) (pa_cons (pv 0) pa_nil)) (pa_cons pe_int pa_nil)))))) pss_nil)
      (pss_one (ps_ret (pe_lst (pa_cons pe_int (pa_cons (pe_callB call_abs (by rfl) ma (by decide +kernel) (pa_cons (pv 0) pa_nil)) (pa_cons pe_int pa_nil)))))), ?_⟩
    have ha : 0 ≤ (if c < 0 then -c else c) := by split <;> omega
    refine ⟨_, rfl, _, rfl, _, _, rfl, rfl, ⟨by decide, by decide, by decide⟩, _, _, rfl, rfl, _, rfl, ?_⟩
    refine ite2 (fun _ => ?_) (fun _ => ?_)
    · exact ⟨_, rfl, _, rfl, _, rfl, _, rfl, (by show 3 ≤ sizeLine; decide), fun p hp => q p _ _ hp ha ha⟩
    · exact ⟨_, rfl, _, rfl, (by show 3 ≤ sizeLine; decide), fun p hp => q p _ _ hp (by decide) ha⟩
/-- a number below the bound; the source is another one -/
def spTake : Sp := fun vs H Q _ => ∃ (p : Addr) (x y z b : Int), vs = [.ref p, .int b] ∧ H p = some (.lst [.int x, .int y, .int z]) ∧ 0 ≤ z ∧ z < 1000000000 ∧ 0 < b ∧ b < 1000000 ∧
  ∀ r x' z' : Int, 0 ≤ r → r < b → 0 ≤ z' → z' ≤ z + 1 → Q (.int r) (upd H p (.lst [.int x', .int y, .int z']))
theorem ok_take {f fM : Addr} {fd fdM : FuncData} (F : Fun K "_law_take" "_law_take" sTake f fd) (FM : Fun K "_law_mixed" "_law_mixed" sMixed fM fdM) (bM : Binds K fdM ["cell", "draw"] []) (gM : mg "_law_mixed" = some (.ref fM)) (mi : mg "int" = none) :
    FnOk P w K mg base CX0 2 f fd ["source", "bound"] spTake := by
  have GM : FnOk P w K mg base CX0 1 fM fdM ["cell", "draw"] spMixed := ok_mixed FM mi
  refine F.ok scTake (fun vs H Q E h => ?_) (fun cdv A outer s H vs Q E hr h => ?_)
  · obtain ⟨p, x, y, z, b, rfl, _⟩ := h
    rfl
  · obtain ⟨p, x, y, z, b, rfl, hp, z0, z1, b0, b1, q⟩ := h
    have hr1 : Room 1 _ := hr.mono (by decide)
    have g0 : ∀ x y z : Int, atI [V.int x, .int y, .int z] 0 = some (.int x) := fun _ _ _ => atI_nat (j := 0) rfl
    have g1 : ∀ x y z : Int, atI [V.int x, .int y, .int z] 1 = some (.int y) := fun _ _ _ => atI_nat (j := 1) rfl
    have g2 : ∀ x y z : Int, atI [V.int x, .int y, .int z] 2 = some (.int z) := fun _ _ _ => atI_nat (j := 2) rfl
    refine ⟨_, pss_cons (ps_if (pt_cmpR op_gt (pe_ix ix_list (pv 0) pe_int (fun _ _ => rfl)) pe_int (nomark _))
        (pss_cons (ps_set (i := 2) scTake.nd rfl (.inl rfl) (pe_op op_mod (pe_callTy call_int1 (by rfl) mi (by decide +kernel) (pa_cons (pe_ix ix_list (pv 0) pe_int (fun _ _ => rfl)) pa_nil)) (pv 1)))
        (pss_cons (ps_asg (pe_op op_fdivW (pe_ix ix_list (pv 0) pe_int (fun _ _ => rfl)) (pv 1)) (pg_sub (pv 0) pe_int set_list))
        (pss_one (ps_ret (pv 2))))) pss_nil)
      (pss_cons (ps_asg (pe_op op_add (pe_ix ix_list (pv 0) pe_int (fun _ _ => rfl)) pe_int) (pg_sub (pv 0) pe_int set_list))
      (pss_one (ps_ret (pe_op op_mod (pe_callTy call_int1 (by rfl) mi (by decide +kernel) (pa_cons (pe_call GM hr1 (by rfl) gM FM.kp bM .nil pass0 (pa_cons (pe_ix ix_list (pv 0) pe_int (fun _ _ => rfl)) (pa_cons (pe_ix ix_list (pv 0) pe_int (fun _ _ => rfl)) pa_nil))) pa_nil)) (pv 1))))), ?_⟩
    refine ⟨_, rfl, p, _, _, _, rfl, rfl, SqL.of hp, g0 x y z, _, _, rfl, rfl, _, rfl, ?_⟩
    refine ite2 (fun _ => ?_) (fun _ => ?_)
    · refine ⟨_, rfl, p, _, _, _, rfl, rfl, SqL.of hp, g0 x y z, .inl ⟨_, rfl, _, rfl, _, _, rfl, rfl, b0, ?_⟩⟩
      refine ⟨_, rfl, p, _, _, _, rfl, rfl, SqL.of hp, g0 x y z, _, rfl, _, _, rfl, rfl, wide_div (b := 40) b0 (by omega) (by decide) (by decide), ?_⟩
      refine ⟨_, rfl, p, _, _, 0, rfl, rfl, hp, rfl, ?_⟩
      exact ⟨_, rfl, q _ _ _ (Int.emod_nonneg _ (by omega)) (Int.emod_lt_of_pos _ b0) z0 (by omega)⟩
    · refine ⟨_, rfl, p, _, _, _, rfl, rfl, SqL.of hp, g2 x y z, _, _, rfl, rfl, ?_⟩
      refine ⟨_, rfl, p, _, _, 2, rfl, rfl, hp, rfl, ?_⟩
      refine ⟨_, rfl, p, _, _, _, rfl, rfl, SqL.of upd_same, g1 x y (z + 1), _, rfl, p, _, _, _, rfl, rfl, SqL.of upd_same, g2 x y (z + 1), ?_⟩
      refine ⟨_, _, rfl, by omega, by omega, fun r hr0 => .inl ⟨_, rfl, _, rfl, _, _, rfl, rfl, b0, ?_⟩⟩
      exact q _ _ _ (Int.emod_nonneg _ (by omega)) (Int.emod_lt_of_pos _ b0) (by omega) (by omega)
end
end K05

set_option maxHeartbeats 4000000
namespace K05
open PySem PySem.Spec PyProof.Rows L2
abbrev sIsErr : Stmt := top 22
/-- the values that the errors hold -/
inductive Thing (H : Hp) : V → Prop
  | int (i : Int) : Thing H (.int i)
  | str (x : Str) : Thing H (.str x)
  | non : Thing H .non
  | bl (b : Bool) : Thing H (.bl b)
  | lst {a : Addr} {i : Int} : H a = some (.lst [.int i]) → Thing H (.ref a)
  | tup {a : Addr} {i j : Int} : H a = some (.tup [.int i, .int j]) → Thing H (.ref a)
  | deep {a b : Addr} {i j k : Int} : H a = some (.tup [.ref b, .int k]) → H b = some (.tup [.int i, .int j]) → Thing H (.ref a)
  | one {a : Addr} {k : Str} {i : Int} : H a = some (.dK [(Sum.inr k, .int i)]) → Thing H (.ref a)
  | nil {a : Addr} : H a = some (.dK []) → Thing H (.ref a)
theorem Thing.same {H H' : Hp} {v : V} (s : Same H H') : Thing H v → Thing H' v
  | .int i => .int i
  | .str x => .str x
  | .non => .non
  | .bl b => .bl b
  | .lst h => .lst (s _ _ h)
  | .tup h => .tup (s _ _ h)
  | .deep h g => .deep (s _ _ h) (s _ _ g)
  | .one h => .one (s _ _ h)
  | .nil h => .nil (s _ _ h)
def isB : V → Bool
  | .bl _ => true
  | _ => false
def rEqT : R2 := fun x y H Q => x = y ∧ Thing H x ∧ Q (.bl true) H
section
variable {X : Cx}
theorem op_eqT (hu : X.A.units + 64 < cLine) : OpR X (compareOp .Eq) rEqT := by
  intro pins s σ H x y v u Q I rx ry h
  obtain ⟨rfl, t, q⟩ := h
  have sc : flatB x = true → wpAny (model X.prog X.w) X.A (compareOp .Eq v u) (EP X pins σ Q) X.xe s := fun hf => by
    refine op_eq pins s σ H x x v u Q I rx ry ⟨?_, by rw [decide_eq_true rfl]; exact q⟩
    cases x <;> first | trivial | rfl | (cases hf)
  cases t with
  | int i => exact sc rfl
  | str z => exact sc rfl
  | non => exact sc rfl
  | bl b => exact sc rfl
  | @lst a i h => exact op_eqD hu pins s σ H _ _ v u Q I rx ry ⟨_, _, .lst (SqL.of h) (.cons (.int i) .nil), .lst (SqL.of h) (.cons (.int i) .nil), rfl, rfl, by simpa [PyData.eqv, PyData.eqvAll] using q⟩
  | @tup a i j h => exact op_eqD hu pins s σ H _ _ v u Q I rx ry ⟨_, _, .tup (SqT.of h) (.cons (.int i) (.cons (.int j) .nil)), .tup (SqT.of h) (.cons (.int i) (.cons (.int j) .nil)), rfl, rfl, by simpa [PyData.eqv, PyData.eqvAll] using q⟩
  | @deep a b i j k h g => exact op_eqD hu pins s σ H _ _ v u Q I rx ry ⟨_, _, .tup (SqT.of h) (.cons (.tup (SqT.of g) (.cons (.int i) (.cons (.int j) .nil))) (.cons (.int k) .nil)), .tup (SqT.of h) (.cons (.tup (SqT.of g) (.cons (.int i) (.cons (.int j) .nil))) (.cons (.int k) .nil)), rfl, rfl, by simpa [PyData.eqv, PyData.eqvAll] using q⟩
  | @one a k i h =>
    refine op_eqV hu pins s σ H _ _ v u Q I rx ry ⟨1, by decide, .inr ⟨a, a, _, _, rfl, rfl, h, h, rfl, fun p hp => ?_⟩, q⟩
    simp only [List.mem_cons, List.not_mem_nil, or_false] at hp
    subst hp
    exact ⟨.int i, by simp [valV], .inl ⟨rfl, rfl⟩⟩
  | @nil a h =>
    exact op_eqV hu pins s σ H _ _ v u Q I rx ry ⟨1, by decide, .inr ⟨a, a, _, _, rfl, rfl, h, h, rfl, fun p hp => by cases hp⟩, q⟩
/-- isinstance(thing, bool) -/
def rIsB : List V → Hp → VK → Prop := fun xs H Q => ∃ x, xs = [x, .ty "bool"] ∧ Thing H x ∧ Q (.bl (isB x)) H
theorem call_isB : CallR X (.builtin "isinstance") rIsB := by
  intro pins s σ H xs us Q I r h
  obtain ⟨x, rfl, t, q⟩ := h
  have go : ∀ (tv : String), TyX X.K H x (.type tv) → kitB tv "bool" = some (isB x) → wpAny (model X.prog X.w) X.A (call (.builtin "isinstance") us) (EP X pins σ Q) X.xe s := fun tv ty hk =>
    call_isi pins s σ H _ us Q I r ⟨x, .ty "bool", .type tv, .type "bool", isB x, rfl, .ty _, ty, kit_ty hk, q⟩
  cases t with
  | int i => exact go "int" (.base (.int i)) (by show kitB _ _ = some false; decide +kernel)
  | str z => exact go "str" (.base (.str z)) (by show kitB _ _ = some false; decide +kernel)
  | non => exact go "NoneType" (.base .non) (by show kitB _ _ = some false; decide +kernel)
  | bl b => exact go "bool" (.base (.bl b)) (by show kitB _ _ = some true; decide +kernel)
  | lst h => exact go "list" (.base (.lst h)) (by show kitB _ _ = some false; decide +kernel)
  | tup h => exact go "tuple" (.base (.tup h)) (by show kitB _ _ = some false; decide +kernel)
  | deep h g => exact go "tuple" (.base (.tup h)) (by show kitB _ _ = some false; decide +kernel)
  | one h => exact go "dict" (.base (.dK h)) (by show kitB _ _ = some false; decide +kernel)
  | nil h => exact go "dict" (.base (.dK h)) (by show kitB _ _ = some false; decide +kernel)
end
/-- an error of the package stands at e -/
def Stands (P : Program) (w : World) (K : PySem.W.Frag) (mg : Str → Option Value) (R : Addr) (H : Hp) (e : Addr) : Prop :=
  ∃ (x : Str) (fl : List Str) (C d : Addr) (fs : List (Str × V)), H e = some (eobj e C d) ∧ H d = some (.xd fs) ∧ ErrK P w K mg x C fl ∧ PySem.W.kitOne K (.ref C) (.ref R) = some true ∧ PySem.W.kitOne K (.ref C) (.type "ValueError") = some true
theorem scIsErr : FnScope ["error", "held", "thing"] ["error", "held", "thing"] (defScope sIsErr) := ⟨rfl, rfl, rfl, by decide +kernel, rfl, by decide +kernel, by decide +kernel⟩
def spIsErr (P : Program) (w : World) (K : PySem.W.Frag) (mg : Str → Option Value) (R : Addr) : Sp := fun vs H Q _ => ∃ (e : Addr) (v : V), vs = [.ref e, v, v] ∧ Stands P w K mg R H e ∧ Thing H v ∧ Q (.bl true) H
section
variable {P : Program} {w : World} {K : PySem.W.Frag} {mg : Str → Option Value} {base : Heap} {R : Addr}
theorem ok_isErr {f : Addr} {fd : FuncData} (F : Fun K "_law_is_error" "_law_is_error" sIsErr f fd) (mI : mg "isinstance" = none) (mB : mg "bool" = none) (mV : mg "ValueError" = none) (gR : mg "RightsError" = some (.ref R)) :
    FnOk P w K mg base CX0 1 f fd ["error", "held", "thing"] (spIsErr P w K mg R) := by
  refine F.ok scIsErr (fun vs H Q E h => ?_) (fun cdv A outer s H vs Q E hr h => ?_)
  · obtain ⟨e, v, rfl, _⟩ := h
    rfl
  · obtain ⟨e, v, rfl, ⟨x, fl, C, d, fs, he, hd, T, k1, k2⟩, t, q⟩ := h
    refine ⟨_, pss_cons (ps_if (PW.pt (pw_or (pt_not (pt_val (pe_callB call_isErr (by rfl) mI (by decide +kernel) (pa_cons (pv 0) (pa_cons (pe_glob (v := .ref R) rfl gR rfl) pa_nil)))))
          (pw_or1 (pt_not (pt_val (pe_callB call_isErr (by rfl) mI (by decide +kernel) (pa_cons (pv 0) (pa_cons (pe_bltn (v := .ty "ValueError") (by rfl) mV (by decide +kernel) rfl) pa_nil))))))))
        (pss_one (ps_ret pe_bl)) pss_nil)
      (pss_one (ps_ret (pe_and (pe_cmpR (op_eqT hr.units) (pv 1) (pv 2) (nomark _)) (pe_one (pe_cmpR op_eq (pe_callB call_isB (by rfl) mI (by decide +kernel) (pa_cons (pv 1) (pa_cons (pe_bltn (v := .ty "bool") (by rfl) mB (by decide +kernel) rfl) pa_nil)))
          (pe_callB call_isB (by rfl) mI (by decide +kernel) (pa_cons (pv 2) (pa_cons (pe_bltn (v := .ty "bool") (by rfl) mB (by decide +kernel) rfl) pa_nil))) (nomark _)))))), ?_⟩
    refine ⟨_, rfl, x, fl, e, C, d, fs, _, _, true, rfl, he, hd, T, .own R, k1, _, rfl, iteF ?_⟩
    refine ⟨_, rfl, x, fl, e, C, d, fs, _, _, true, rfl, he, hd, T, .ty _, k2, _, rfl, iteF ?_⟩
    refine ⟨_, rfl, _, rfl, rfl, t, _, rfl, iteT ?_⟩
    refine ⟨_, rfl, _, rfl, t, _, rfl, _, rfl, t, rfl, ?_⟩
    rw [decide_eq_true rfl]
    exact q
end
end K05

set_option maxHeartbeats 4000000
namespace K05
open PySem PySem.Spec PyProof.Rows L2
abbrev sFirst : Stmt := top 23
theorem scFirst : FnScope ["thing", "some", "one"] ["thing"] (defScope sFirst) := ⟨rfl, rfl, rfl, by decide +kernel, rfl, by decide +kernel, by decide +kernel⟩
/-- a class of the package with one field f, known by its name x -/
structure One (P : Program) (w : World) (K : PySem.W.Frag) (mg : Str → Option Value) (R : Addr) (x f : Str) (C : Addr) : Prop where
  k : ErrK P w K mg x C [f]
  r : PySem.W.kitOne K (.ref C) (.ref R) = some true
  v : PySem.W.kitOne K (.ref C) (.type "ValueError") = some true
def spFirst : Sp := fun vs H Q _ => ∃ v : V, vs = [v] ∧ Thing H v ∧ ∀ H', Same H H' → Q (.bl true) H'
theorem upd2_same {H : Hp} {d e : Addr} {o u : HO} (hd : H d = none) (he : H e = none) : Same H (upd (upd H d o) e u) := fun b x q => by
  rw [upd_ne (ne_of_none q he), upd_ne (ne_of_none q hd)]
  exact q
theorem same1 {H : Hp} {p : Addr} {o : HO} (h : H p = none) : Same H (upd H p o) := fun b x q => by
  rw [upd_ne (ne_of_none q h)]
  exact q
/-- a list of errors, each with the field f that holds v -/
def Errs (P : Program) (w : World) (K : PySem.W.Frag) (mg : Str → Option Value) (R : Addr) (H : Hp) (f : Str) (v : V) (es : List V) : Prop :=
  ∀ y ∈ es, ∃ (x : Str) (C e d : Addr), y = .ref e ∧ H e = some (eobj e C d) ∧ H d = some (.xd [(f, v)]) ∧ One P w K mg R x f C
theorem Errs.same {P : Program} {w : World} {K : PySem.W.Frag} {mg : Str → Option Value} {R : Addr} {H H' : Hp} {f : Str} {v : V} {es : List V} (s : Same H H') (h : Errs P w K mg R H f v es) : Errs P w K mg R H' f v es := fun y hy => by
  obtain ⟨x, C, e, d, rfl, h1, h2, T⟩ := h y hy
  exact ⟨x, C, e, d, rfl, s _ _ h1, s _ _ h2, T⟩
theorem Errs.add {P : Program} {w : World} {K : PySem.W.Frag} {mg : Str → Option Value} {R : Addr} {H : Hp} {f x : Str} {v : V} {es : List V} {C e d : Addr} (h : Errs P w K mg R H f v es) (he : H e = none) (hd : H d = none) (hne : d ≠ e) (T : One P w K mg R x f C) :
    Errs P w K mg R (upd (upd H d (.xd [(f, v)])) e (eobj e C d)) f v (es ++ [.ref e]) := fun y hy => by
  rcases List.mem_append.mp hy with hy | hy
  · exact (h.same (upd2_same hd he)) y hy
  · obtain rfl := List.mem_singleton.mp hy
    exact ⟨x, C, e, d, rfl, upd_same, by rw [upd_ne hne, upd_same], T⟩
theorem Errs.nil {P : Program} {w : World} {K : PySem.W.Frag} {mg : Str → Option Value} {R : Addr} {H : Hp} {f : Str} {v : V} : Errs P w K mg R H f v [] := fun y hy => by cases hy
theorem Errs.app {P : Program} {w : World} {K : PySem.W.Frag} {mg : Str → Option Value} {R : Addr} {H : Hp} {f : Str} {v : V} {es fs : List V} (h : Errs P w K mg R H f v es) (g : Errs P w K mg R H f v fs) : Errs P w K mg R H f v (es ++ fs) := fun y hy =>
  (List.mem_append.mp hy).elim (h y) (g y)
/-- all([_law_is_error(one, one.f, thing) for one in some]): the comprehension's reading -/
theorem lc_errs {P : Program} {w : World} {K : PySem.W.Frag} {mg : Str → Option Value} {R a D : Addr} {H1 : Hp} {f : Str} {v : V} {es : List V} {σ : L2.St} {Qd : Hp → Prop} (i j : Nat) (hij : i ≠ j) (hσ : σ[i]? = some (some v)) (hj : j < σ.length) (hD : H1 D = none) (hS : SqL K H1 a es) (hE : Errs P w K mg R H1 f v es) (hT : Thing H1 v) (hz : es.length ≤ 1000)
    (hd : ∀ H, Same H1 H → (∃ bs : List Bool, H D = some (.lst (bs.map V.bl)) ∧ bs.all id = true) → Qd H) :
    ∃ W : Nat → Nat → Hp → Prop, (∃ m, W 0 m (upd H1 D (.lst []))) ∧ ∀ i' m H, W i' m H →
      ((Itl K a).stop i' H ∧ Qd H) ∨ ((Itl K a).go i' H ∧ ∃ Nx : Hp → Prop, (∀ H', Nx H' → ∃ m', m' < m ∧ W (i' + 1) m' H') ∧ ∀ x H', (Itl K a).yld i' H x H' → gName j x (wipe σ [j]) H' fun σ2 H2 => wipe σ2 [j] = wipe σ [j] ∧ tYes σ2 H2 fun b H3 =>
        if b = true then tCall (spIsErr P w K mg R) [] (fun _ _ _ => False) (tCons (tVar j) (tCons (tErrF P w K mg f (tVar j)) (tCons (tVar i) tNil))) σ2 H3 fun y H4 => ∃ acc, H4 D = some (.lst acc) ∧ acc.length < sizeLine ∧ Nx (upd H4 D (.lst (acc ++ [y]))) else Nx H3) := by
  refine lc_list (K := K) (a := a) (xs := es) (fun n H => Same H1 H ∧ ∃ bs : List Bool, H D = some (.lst (bs.map V.bl)) ∧ bs.all id = true ∧ bs.length = n) ?_ (fun n H _ h => h.1.seq hS) ?_ (fun H h => ?_)
  · exact ⟨same1 hD, [], upd_same, rfl, rfl⟩
  · rintro n x H hx ⟨sm, bs, hb, hall, hlen⟩
    have hn : n < es.length := (List.getElem?_eq_some_iff.mp hx).1
    obtain ⟨xn, C, e, d, rfl, he, hd', T⟩ := (hE.same sm) x (List.mem_of_getElem? hx)
    have hwj : j < (wipe σ [j]).length := by rw [wipe_length]; exact hj
    have e1 : ((wipe σ [j]).set j (some (.ref e)))[j]? = some (some (.ref e)) := List.getElem?_set_self hwj
    have e2 : ((wipe σ [j]).set j (some (.ref e)))[i]? = some (some v) := by
      rw [List.getElem?_set_ne (Ne.symm hij)]
      show (σ.set j none)[i]? = _
      rw [List.getElem?_set_ne (Ne.symm hij)]
      exact hσ
    refine ⟨?_, ?_⟩
    · show ((σ.set j none).set j (some (.ref e))).set j none = σ.set j none
      rw [List.set_set, List.set_set]
    · refine iteT (B := False) (iteT ?_)
      refine ⟨_, e1, _, e1, xn, [f], e, C, d, _, v, rfl, he, hd', T.k, List.mem_singleton.mpr rfl, by simp [List.lookup], v, e2, ?_⟩
      refine ⟨e, v, rfl, ⟨xn, [f], C, d, _, he, hd', T.k, T.r, T.v⟩, hT.same sm, bs.map V.bl, hb, ?_, ?_⟩
      · rw [List.length_map, hlen]
        exact Nat.lt_of_lt_of_le hn (Nat.le_trans hz (Nat.le_of_lt (small1000 (Nat.le_refl 1000))))
      · refine ⟨fun b o q => ?_, bs ++ [true], by rw [upd_same, List.map_append]; rfl, by rw [List.all_append, hall]; rfl, by rw [List.length_append, hlen]; rfl⟩
        rw [upd_ne (ne_of_none q hD)]
        exact sm _ _ q
  · exact hd H h.1 ⟨h.2.choose, h.2.choose_spec.1, h.2.choose_spec.2.1⟩
end K05

set_option maxHeartbeats 8000000
namespace K05
open PySem PySem.Spec PyProof.Rows L2
section
variable {P : Program} {w : World} {K : PySem.W.Frag} {mg : Str → Option Value} {base : Heap} {R : Addr}
theorem ok_first {f fI c1 c2 c3 c4 c5 c6 c7 : Addr} {fd fdI : FuncData} (F : Fun K "_law_first_errors" "_law_first_errors" sFirst f fd) (GI : FnOk P w K mg base CX0 1 fI fdI ["error", "held", "thing"] (spIsErr P w K mg R))
    (gI : mg "_law_is_error" = some (.ref fI)) (kI : PySem.W.keepIn K (.ref fI) = true) (bI : Binds K fdI ["error", "held", "thing"] []) (mA : mg "all" = none)
    (T1 : One P w K mg R "InvalidSchema" "path" c1) (T2 : One P w K mg R "InvalidTree" "path" c2) (T3 : One P w K mg R "InvalidState" "index" c3) (T4 : One P w K mg R "InvalidChange" "index" c4)
    (T5 : One P w K mg R "InvalidRules" "index" c5) (T6 : One P w K mg R "InvalidObject" "value" c6) (T7 : One P w K mg R "InvalidUser" "value" c7) :
    FnOk P w K mg base CX0 3 f fd ["thing"] spFirst := by
  refine F.ok scFirst (fun vs H Q E h => ?_) (fun cdv A outer s H vs Q E hr h => ?_)
  · obtain ⟨v, rfl, _⟩ := h
    rfl
  · obtain ⟨v, rfl, Th, q⟩ := h
    have hr1 : Room 1 _ := hr.mono (by decide)
    refine ⟨_, pss_cons (ps_set (i := 1) scFirst.nd rfl (.inl rfl) (pe_lst (pa_cons (pe_mkE T1.k hr (pa_cons (pv 0) pa_nil)) (pa_cons (pe_mkK T1.k hr (pk_cons (pv 0) pk_nil)) (pa_cons (pe_mkE T2.k hr (pa_cons (pv 0) pa_nil)) (pa_cons (pe_mkK T2.k hr (pk_cons (pv 0) pk_nil)) pa_nil))))))
      (pss_cons (ps_if (pt_not (pt_val (pe_callB (cr_all rfl) (by rfl) mA (by decide +kernel) (pa_cons (pe_lc (own := [("one", 2)]) (g := gName 2) (tt := tYes) rfl scFirst.nd (pi_list (pv 1)) (blkOk_by (own := [("one", 2)]) (N := ["thing", "some", "one"]) (sc := defScope sFirst) (by decide +kernel)) (fun _ _ _ _ _ => pg_name (i := 2) scFirst.nd rfl (Or.inl rfl)) (fun _ _ _ _ _ => pts_nil)
          (fun _ _ _ _ _ => pe_call GI hr1 (by rfl) gI kI bI .nil pass0 (pa_cons (pv 2) (pa_cons (pe_errFk P w K mg (f := "path") (pv 2)) (pa_cons (pv 0) pa_nil))))) pa_nil)))) (pss_one (ps_ret pe_bl)) pss_nil)
      (pss_cons (ps_set (i := 1) scFirst.nd rfl (.inl rfl) (pe_lst (pa_cons (pe_mkE T3.k hr (pa_cons (pv 0) pa_nil)) (pa_cons (pe_mkK T3.k hr (pk_cons (pv 0) pk_nil)) (pa_cons (pe_mkE T4.k hr (pa_cons (pv 0) pa_nil)) (pa_cons (pe_mkK T4.k hr (pk_cons (pv 0) pk_nil)) pa_nil))))))
      (pss_cons (ps_set (i := 1) scFirst.nd rfl (.inl rfl) (pe_op op_cat (pv 1) (pe_lst (pa_cons (pe_mkE T5.k hr (pa_cons (pv 0) pa_nil)) (pa_cons (pe_mkK T5.k hr (pk_cons (pv 0) pk_nil)) pa_nil)))))
      (pss_cons (ps_if (pt_not (pt_val (pe_callB (cr_all rfl) (by rfl) mA (by decide +kernel) (pa_cons (pe_lc (own := [("one", 2)]) (g := gName 2) (tt := tYes) rfl scFirst.nd (pi_list (pv 1)) (blkOk_by (own := [("one", 2)]) (N := ["thing", "some", "one"]) (sc := defScope sFirst) (by decide +kernel)) (fun _ _ _ _ _ => pg_name (i := 2) scFirst.nd rfl (Or.inl rfl)) (fun _ _ _ _ _ => pts_nil)
          (fun _ _ _ _ _ => pe_call GI hr1 (by rfl) gI kI bI .nil pass0 (pa_cons (pv 2) (pa_cons (pe_errFk P w K mg (f := "index") (pv 2)) (pa_cons (pv 0) pa_nil))))) pa_nil)))) (pss_one (ps_ret pe_bl)) pss_nil)
      (pss_cons (ps_set (i := 1) scFirst.nd rfl (.inl rfl) (pe_lst (pa_cons (pe_mkE T6.k hr (pa_cons (pv 0) pa_nil)) (pa_cons (pe_mkK T6.k hr (pk_cons (pv 0) pk_nil)) (pa_cons (pe_mkE T7.k hr (pa_cons (pv 0) pa_nil)) (pa_cons (pe_mkK T7.k hr (pk_cons (pv 0) pk_nil)) pa_nil))))))
      (pss_one (ps_ret (pe_callB (cr_all rfl) (by rfl) mA (by decide +kernel) (pa_cons (pe_lc (own := [("one", 2)]) (g := gName 2) (tt := tYes) rfl scFirst.nd (pi_list (pv 1)) (blkOk_by (own := [("one", 2)]) (N := ["thing", "some", "one"]) (sc := defScope sFirst) (by decide +kernel)) (fun _ _ _ _ _ => pg_name (i := 2) scFirst.nd rfl (Or.inl rfl)) (fun _ _ _ _ _ => pts_nil)
          (fun _ _ _ _ _ => pe_call GI hr1 (by rfl) gI kI bI .nil pass0 (pa_cons (pv 2) (pa_cons (pe_errFk P w K mg (f := "value") (pv 2)) (pa_cons (pv 0) pa_nil))))) pa_nil))))))))), ?_⟩
    -- the errors with a path
    refine ⟨_, rfl, rfl, (by show 1 ≤ 1000; decide), fun e1 d1 he1 hd1 n1 => ⟨_, rfl, rfl, (by show 1 ≤ 1000; decide), fun e2 d2 he2 hd2 n2 => ⟨_, rfl, rfl, (by show 1 ≤ 1000; decide), fun e3 d3 he3 hd3 n3 => ⟨_, rfl, rfl, (by show 1 ≤ 1000; decide), fun e4 d4 he4 hd4 n4 => ⟨(by show 4 ≤ sizeLine; decide), fun p hp => ?_⟩⟩⟩⟩⟩
    have A1 := Errs.add (P := P) (w := w) (K := K) (mg := mg) (R := R) (f := "path") (v := v) Errs.nil he1 hd1 n1 T1
    have A2 := A1.add he2 hd2 n2 T1
    have A3 := A2.add he3 hd3 n3 T2
    have A4 := A3.add he4 hd4 n4 T2
    have S1 := ((upd2_same (o := .xd [("path", v)]) (u := eobj e1 c1 d1) hd1 he1).trans (upd2_same (o := .xd [("path", v)]) (u := eobj e2 c1 d2) hd2 he2)).trans ((upd2_same (o := .xd [("path", v)]) (u := eobj e3 c2 d3) hd3 he3).trans (upd2_same (o := .xd [("path", v)]) (u := eobj e4 c2 d4) hd4 he4))
    have S2 := S1.trans (same1 (o := .lst [.ref e1, .ref e2, .ref e3, .ref e4]) hp)
    have A5 := A4.same (same1 (o := .lst [.ref e1, .ref e2, .ref e3, .ref e4]) hp)
    refine ⟨_, rfl, p, rfl, ⟨_, SqL.of upd_same⟩, fun D hD => lc_errs (P := P) (w := w) (mg := mg) (R := R) (v := v) 0 2 (by decide) rfl (by show 2 < 3; decide) hD (SqL.of upd_same) A5 (Th.same S2) (by show 4 ≤ 1000; decide) fun H2 s2 hbs => ?_⟩
    obtain ⟨bs, hb, hall⟩ := hbs
    refine ⟨D, bs, rfl, SqL.of hb, _, rfl, ?_⟩
    rw [hall]
    refine iteF ?_
    have S3 := S2.trans s2
    clear A1 A2 A3 A4 A5 S1 S2 s2 hb hall hD hp he1 hd1 he2 hd2 he3 hd3 he4 hd4 n1 n2 n3 n4
    -- the errors with an index
    refine ⟨_, rfl, rfl, (by show 1 ≤ 1000; decide), fun e1 d1 he1 hd1 n1 => ⟨_, rfl, rfl, (by show 1 ≤ 1000; decide), fun e2 d2 he2 hd2 n2 => ⟨_, rfl, rfl, (by show 1 ≤ 1000; decide), fun e3 d3 he3 hd3 n3 => ⟨_, rfl, rfl, (by show 1 ≤ 1000; decide), fun e4 d4 he4 hd4 n4 => ⟨(by show 4 ≤ sizeLine; decide), fun p1 hp1 => ?_⟩⟩⟩⟩⟩
    refine ⟨_, rfl, _, rfl, rfl, (by show 1 ≤ 1000; decide), fun e5 d5 he5 hd5 n5 => ⟨_, rfl, rfl, (by show 1 ≤ 1000; decide), fun e6 d6 he6 hd6 n6 => ⟨(by show 2 ≤ sizeLine; decide), fun p2 hp2 => ?_⟩⟩⟩
    have A1 := Errs.add (P := P) (w := w) (K := K) (mg := mg) (R := R) (f := "index") (v := v) Errs.nil he1 hd1 n1 T3
    have A2 := A1.add he2 hd2 n2 T3
    have A3 := A2.add he3 hd3 n3 T4
    have A4 := A3.add he4 hd4 n4 T4
    have A5 := A4.same (same1 (o := .lst [.ref e1, .ref e2, .ref e3, .ref e4]) hp1)
    have A6 := A5.add he5 hd5 n5 T5
    have A7 := A6.add he6 hd6 n6 T5
    have A8 := A7.same (same1 (o := .lst [.ref e5, .ref e6]) hp2)
    have S1 := ((upd2_same (o := .xd [("index", v)]) (u := eobj e1 c3 d1) hd1 he1).trans (upd2_same (o := .xd [("index", v)]) (u := eobj e2 c3 d2) hd2 he2)).trans ((upd2_same (o := .xd [("index", v)]) (u := eobj e3 c4 d3) hd3 he3).trans (upd2_same (o := .xd [("index", v)]) (u := eobj e4 c4 d4) hd4 he4))
    have S4 := ((upd2_same (o := .xd [("index", v)]) (u := eobj e5 c5 d5) hd5 he5).trans (upd2_same (o := .xd [("index", v)]) (u := eobj e6 c5 d6) hd6 he6)).trans (same1 (o := .lst [.ref e5, .ref e6]) hp2)
    have S5 := S3.trans ((S1.trans (same1 (o := .lst [.ref e1, .ref e2, .ref e3, .ref e4]) hp1)).trans S4)
    refine ⟨p1, p2, _, _, rfl, rfl, S4 _ _ upd_same, upd_same, (by show 6 ≤ sizeLine; decide), fun p hp => ?_⟩
    have A9 := A8.same (same1 (o := .lst ([.ref e1, .ref e2, .ref e3, .ref e4] ++ [.ref e5, .ref e6])) hp)
    have S6 := S5.trans (same1 (o := .lst ([.ref e1, .ref e2, .ref e3, .ref e4] ++ [.ref e5, .ref e6])) hp)
    refine ⟨_, rfl, p, rfl, ⟨_, SqL.of upd_same⟩, fun D hD => lc_errs (P := P) (w := w) (mg := mg) (R := R) (v := v) 0 2 (by decide) rfl (by show 2 < 3; decide) hD (SqL.of upd_same) A9 (Th.same S6) (by show 6 ≤ 1000; decide) fun H3 s3 hbs => ?_⟩
    obtain ⟨bs, hb, hall⟩ := hbs
    refine ⟨D, bs, rfl, SqL.of hb, _, rfl, ?_⟩
    rw [hall]
    refine iteF ?_
    have S7 := S6.trans s3
    clear A1 A2 A3 A4 A5 A6 A7 A8 A9 S1 S4 S5 S6 s3 hb hall hD hp hp1 hp2 he1 hd1 he2 hd2 he3 hd3 he4 hd4 n1 n2 n3 n4
    -- the errors with a value
    refine ⟨_, rfl, rfl, (by show 1 ≤ 1000; decide), fun e1 d1 he1 hd1 n1 => ⟨_, rfl, rfl, (by show 1 ≤ 1000; decide), fun e2 d2 he2 hd2 n2 => ⟨_, rfl, rfl, (by show 1 ≤ 1000; decide), fun e3 d3 he3 hd3 n3 => ⟨_, rfl, rfl, (by show 1 ≤ 1000; decide), fun e4 d4 he4 hd4 n4 => ⟨(by show 4 ≤ sizeLine; decide), fun p hp => ?_⟩⟩⟩⟩⟩
    have A1 := Errs.add (P := P) (w := w) (K := K) (mg := mg) (R := R) (f := "value") (v := v) Errs.nil he1 hd1 n1 T6
    have A2 := A1.add he2 hd2 n2 T6
    have A3 := A2.add he3 hd3 n3 T7
    have A4 := A3.add he4 hd4 n4 T7
    have S1 := ((upd2_same (o := .xd [("value", v)]) (u := eobj e1 c6 d1) hd1 he1).trans (upd2_same (o := .xd [("value", v)]) (u := eobj e2 c6 d2) hd2 he2)).trans ((upd2_same (o := .xd [("value", v)]) (u := eobj e3 c7 d3) hd3 he3).trans (upd2_same (o := .xd [("value", v)]) (u := eobj e4 c7 d4) hd4 he4))
    have S2 := S7.trans (S1.trans (same1 (o := .lst [.ref e1, .ref e2, .ref e3, .ref e4]) hp))
    have A5 := A4.same (same1 (o := .lst [.ref e1, .ref e2, .ref e3, .ref e4]) hp)
    refine ⟨_, rfl, p, rfl, ⟨_, SqL.of upd_same⟩, fun D hD => lc_errs (P := P) (w := w) (mg := mg) (R := R) (v := v) 0 2 (by decide) rfl (by show 2 < 3; decide) hD (SqL.of upd_same) A5 (Th.same S2) (by show 4 ≤ 1000; decide) fun H4 s4 hbs => ?_⟩
    obtain ⟨bs, hb, hall⟩ := hbs
    refine ⟨D, bs, rfl, SqL.of hb, ?_⟩
    rw [hall]
    exact q _ (S2.trans s4)
end
end K05

set_option maxHeartbeats 8000000
namespace K05
open PySem PySem.Spec PyProof.Rows L2
abbrev sLast : Stmt := top 24
theorem scLast : FnScope ["thing", "some", "one", "other"] ["thing"] (defScope sLast) := ⟨rfl, rfl, rfl, by decide +kernel, rfl, by decide +kernel, by decide +kernel⟩
section
variable {P : Program} {w : World} {K : PySem.W.Frag} {mg : Str → Option Value} {base : Heap} {R : Addr}
/-- the class with two fields -/
structure Two (P : Program) (w : World) (K : PySem.W.Frag) (mg : Str → Option Value) (R : Addr) (x f g : Str) (C : Addr) : Prop where
  k : ErrK P w K mg x C [f, g]
  r : PySem.W.kitOne K (.ref C) (.ref R) = some true
  v : PySem.W.kitOne K (.ref C) (.type "ValueError") = some true
theorem One.stands {x f : Str} {C e d : Addr} {H : Hp} {v : V} (T : One P w K mg R x f C) (he : H e = some (eobj e C d)) (hd : H d = some (.xd [(f, v)])) : Stands P w K mg R H e := ⟨x, [f], C, d, _, he, hd, T.k, T.r, T.v⟩
theorem at_d {H : Hp} {d e : Addr} {o u : HO} (h : d ≠ e) : upd (upd H d o) e u d = some o := (upd_ne h).trans upd_same
theorem ok_last {f fI c1 c2 c3 c4 c5 c6 c7 c8 : Addr} {fd fdI : FuncData} (F : Fun K "_law_last_errors" "_law_last_errors" sLast f fd) (GI : FnOk P w K mg base CX0 1 fI fdI ["error", "held", "thing"] (spIsErr P w K mg R))
    (gI : mg "_law_is_error" = some (.ref fI)) (kI : PySem.W.keepIn K (.ref fI) = true) (bI : Binds K fdI ["error", "held", "thing"] []) (mA : mg "all" = none)
    (T1 : One P w K mg R "InvalidNumber" "name" c1) (T2 : One P w K mg R "Mismatch" "name" c2) (T3 : One P w K mg R "InvalidRelation" "relation" c3) (T4 : One P w K mg R "InvalidKind" "kind" c4)
    (T5 : One P w K mg R "InvalidToken" "token" c5) (T6 : One P w K mg R "InvalidText" "place" c6) (T7 : One P w K mg R "TooLarge" "limit" c7) (T8 : Two P w K mg R "CircularBut" "kind" "relation" c8) :
    FnOk P w K mg base CX0 3 f fd ["thing"] spFirst := by
  refine F.ok scLast (fun vs H Q E h => ?_) (fun cdv A outer s H vs Q E hr h => ?_)
  · obtain ⟨v, rfl, _⟩ := h
    rfl
  · obtain ⟨v, rfl, Th, q⟩ := h
    have hr1 : Room 1 _ := hr.mono (by decide)
    refine ⟨_, pss_cons (ps_set (i := 1) scLast.nd rfl (.inl rfl) (pe_lst (pa_cons (pe_mkE T1.k hr (pa_cons (pv 0) pa_nil)) (pa_cons (pe_mkK T1.k hr (pk_cons (pv 0) pk_nil)) (pa_cons (pe_mkE T2.k hr (pa_cons (pv 0) pa_nil)) (pa_cons (pe_mkK T2.k hr (pk_cons (pv 0) pk_nil)) pa_nil))))))
      (pss_cons (ps_if (pt_not (pt_val (pe_callB (cr_all rfl) (by rfl) mA (by decide +kernel) (pa_cons (pe_lc (own := [("one", 2)]) (g := gName 2) (tt := tYes) rfl scLast.nd (pi_list (pv 1)) (blkOk_by (own := [("one", 2)]) (N := ["thing", "some", "one", "other"]) (sc := defScope sLast) (by decide +kernel)) (fun _ _ _ _ _ => pg_name (i := 2) scLast.nd rfl (Or.inl rfl)) (fun _ _ _ _ _ => pts_nil) (fun _ _ _ _ _ => pe_call GI hr1 (by rfl) gI kI bI .nil pass0 (pa_cons (pv 2) (pa_cons (pe_errFk P w K mg (f := "name") (pv 2)) (pa_cons (pv 0) pa_nil))))) pa_nil)))) (pss_one (ps_ret pe_bl)) pss_nil)
      (pss_cons (ps_par (i := 2) (j := 3) (by rfl) scLast.nd rfl rfl (by decide) rfl rfl (pa_cons (pe_mkE T3.k hr (pa_cons (pv 0) pa_nil)) (pa_cons (pe_mkK T3.k hr (pk_cons (pv 0) pk_nil)) pa_nil)) (by rfl))
      (pss_cons (ps_if (PW.pt (pw_or (pt_not (pt_val (pe_call GI hr1 (by rfl) gI kI bI .nil pass0 (pa_cons (pv 2) (pa_cons (pe_errFk P w K mg (f := "relation") (pv 2)) (pa_cons (pv 0) pa_nil)))))) (pw_or1 (pt_not (pt_val (pe_call GI hr1 (by rfl) gI kI bI .nil pass0 (pa_cons (pv 3) (pa_cons (pe_errFk P w K mg (f := "relation") (pv 3)) (pa_cons (pv 0) pa_nil))))))))) (pss_one (ps_ret pe_bl)) pss_nil)
      (pss_cons (ps_par (i := 2) (j := 3) (by rfl) scLast.nd rfl rfl (by decide) rfl rfl (pa_cons (pe_mkE T4.k hr (pa_cons (pv 0) pa_nil)) (pa_cons (pe_mkK T4.k hr (pk_cons (pv 0) pk_nil)) pa_nil)) (by rfl))
      (pss_cons (ps_if (PW.pt (pw_or (pt_not (pt_val (pe_call GI hr1 (by rfl) gI kI bI .nil pass0 (pa_cons (pv 2) (pa_cons (pe_errFk P w K mg (f := "kind") (pv 2)) (pa_cons (pv 0) pa_nil)))))) (pw_or1 (pt_not (pt_val (pe_call GI hr1 (by rfl) gI kI bI .nil pass0 (pa_cons (pv 3) (pa_cons (pe_errFk P w K mg (f := "kind") (pv 3)) (pa_cons (pv 0) pa_nil))))))))) (pss_one (ps_ret pe_bl)) pss_nil)
      (pss_cons (ps_par (i := 2) (j := 3) (by rfl) scLast.nd rfl rfl (by decide) rfl rfl (pa_cons (pe_mkE T5.k hr (pa_cons (pv 0) pa_nil)) (pa_cons (pe_mkK T5.k hr (pk_cons (pv 0) pk_nil)) pa_nil)) (by rfl))
      (pss_cons (ps_if (PW.pt (pw_or (pt_not (pt_val (pe_call GI hr1 (by rfl) gI kI bI .nil pass0 (pa_cons (pv 2) (pa_cons (pe_errFk P w K mg (f := "token") (pv 2)) (pa_cons (pv 0) pa_nil)))))) (pw_or1 (pt_not (pt_val (pe_call GI hr1 (by rfl) gI kI bI .nil pass0 (pa_cons (pv 3) (pa_cons (pe_errFk P w K mg (f := "token") (pv 3)) (pa_cons (pv 0) pa_nil))))))))) (pss_one (ps_ret pe_bl)) pss_nil)
      (pss_cons (ps_par (i := 2) (j := 3) (by rfl) scLast.nd rfl rfl (by decide) rfl rfl (pa_cons (pe_mkE T6.k hr (pa_cons (pv 0) pa_nil)) (pa_cons (pe_mkK T6.k hr (pk_cons (pv 0) pk_nil)) pa_nil)) (by rfl))
      (pss_cons (ps_if (PW.pt (pw_or (pt_not (pt_val (pe_call GI hr1 (by rfl) gI kI bI .nil pass0 (pa_cons (pv 2) (pa_cons (pe_errFk P w K mg (f := "place") (pv 2)) (pa_cons (pv 0) pa_nil)))))) (pw_or1 (pt_not (pt_val (pe_call GI hr1 (by rfl) gI kI bI .nil pass0 (pa_cons (pv 3) (pa_cons (pe_errFk P w K mg (f := "place") (pv 3)) (pa_cons (pv 0) pa_nil))))))))) (pss_one (ps_ret pe_bl)) pss_nil)
      (pss_cons (ps_par (i := 2) (j := 3) (by rfl) scLast.nd rfl rfl (by decide) rfl rfl (pa_cons (pe_mkE T7.k hr (pa_cons (pv 0) pa_nil)) (pa_cons (pe_mkK T7.k hr (pk_cons (pv 0) pk_nil)) pa_nil)) (by rfl))
      (pss_cons (ps_if (PW.pt (pw_or (pt_not (pt_val (pe_call GI hr1 (by rfl) gI kI bI .nil pass0 (pa_cons (pv 2) (pa_cons (pe_errFk P w K mg (f := "limit") (pv 2)) (pa_cons (pv 0) pa_nil)))))) (pw_or1 (pt_not (pt_val (pe_call GI hr1 (by rfl) gI kI bI .nil pass0 (pa_cons (pv 3) (pa_cons (pe_errFk P w K mg (f := "limit") (pv 3)) (pa_cons (pv 0) pa_nil))))))))) (pss_one (ps_ret pe_bl)) pss_nil)
      (pss_cons (ps_par (i := 2) (j := 3) (by rfl) scLast.nd rfl rfl (by decide) rfl rfl (pa_cons (pe_mkE T8.k hr (pa_cons (pv 0) (pa_cons pe_str pa_nil))) (pa_cons (pe_mkR T8.k hr (pk_cons pe_str (pk_cons (pv 0) pk_nil))) pa_nil)) (by rfl))
      (pss_one (ps_ret (pe_and (pe_call GI hr1 (by rfl) gI kI bI .nil pass0 (pa_cons (pv 2) (pa_cons (pe_errFk P w K mg (f := "kind") (pv 2)) (pa_cons (pv 0) pa_nil)))) (pe_and (pe_cmpR (op_eqT hr.units) (pe_errFk P w K mg (f := "kind") (pv 3)) (pv 0) (nomark _)) (pe_one (pe_cmpR (op_eqD hr.units) (pe_lst (pa_cons (pe_errFk P w K mg (f := "relation") (pv 2)) (pa_cons (pe_errFk P w K mg (f := "relation") (pv 3)) pa_nil))) (pe_op op_rep (pe_lst (pa_cons pe_str pa_nil)) pe_int) (nomark _))))))))))))))))))), ?_⟩
    refine ⟨_, rfl, rfl, (by show 1 ≤ 1000; decide), fun e1 d1 he1 hd1 n1 => ⟨_, rfl, rfl, (by show 1 ≤ 1000; decide), fun e2 d2 he2 hd2 n2 => ⟨_, rfl, rfl, (by show 1 ≤ 1000; decide), fun e3 d3 he3 hd3 n3 => ⟨_, rfl, rfl, (by show 1 ≤ 1000; decide), fun e4 d4 he4 hd4 n4 => ⟨(by show 4 ≤ sizeLine; decide), fun p hp => ?_⟩⟩⟩⟩⟩
    have A1 := Errs.add (P := P) (w := w) (K := K) (mg := mg) (R := R) (f := "name") (v := v) Errs.nil he1 hd1 n1 T1
    have A2 := A1.add he2 hd2 n2 T1
    have A3 := A2.add he3 hd3 n3 T2
    have A4 := A3.add he4 hd4 n4 T2
    have S1 := ((upd2_same (o := .xd [("name", v)]) (u := eobj e1 c1 d1) hd1 he1).trans (upd2_same (o := .xd [("name", v)]) (u := eobj e2 c1 d2) hd2 he2)).trans ((upd2_same (o := .xd [("name", v)]) (u := eobj e3 c2 d3) hd3 he3).trans (upd2_same (o := .xd [("name", v)]) (u := eobj e4 c2 d4) hd4 he4))
    have S2 := S1.trans (same1 (o := .lst [.ref e1, .ref e2, .ref e3, .ref e4]) hp)
    have A5 := A4.same (same1 (o := .lst [.ref e1, .ref e2, .ref e3, .ref e4]) hp)
    refine ⟨_, rfl, p, rfl, ⟨_, SqL.of upd_same⟩, fun D hD => lc_errs (P := P) (w := w) (mg := mg) (R := R) (v := v) 0 2 (by decide) rfl (by show 2 < 4; decide) hD (SqL.of upd_same) A5 (Th.same S2) (by show 4 ≤ 1000; decide) fun H2 s2 hbs => ?_⟩
    obtain ⟨bs, hb, hall⟩ := hbs
    refine ⟨D, bs, rfl, SqL.of hb, _, rfl, ?_⟩
    rw [hall]
    refine iteF ?_
    have S := S2.trans s2
    clear A1 A2 A3 A4 A5 S1 S2 s2 hb hall hD hp he1 hd1 he2 hd2 he3 hd3 he4 hd4 n1 n2 n3 n4
    refine ⟨_, rfl, rfl, (by show 1 ≤ 1000; decide), fun e1 d1 he1 hd1 n1 => ⟨_, rfl, rfl, (by show 1 ≤ 1000; decide), fun e2 d2 he2 hd2 n2 => ⟨_, _, rfl, ?_⟩⟩⟩
    have Sa := upd2_same (o := .xd [("relation", v)]) (u := eobj e1 c3 d1) hd1 he1
    have Sb := upd2_same (o := .xd [("relation", v)]) (u := eobj e2 c3 d2) hd2 he2
    have S0 := S.trans (Sa.trans Sb)
    have ge1 := Sb _ _ (upd_same (H := upd _ d1 (.xd [("relation", v)])) (a := e1) (o := eobj e1 c3 d1))
    have gd1 := Sb d1 (.xd [("relation", v)]) (at_d n1)
    refine ⟨_, rfl, _, rfl, _, _, e1, c3, d1, _, v, rfl, ge1, gd1, T3.k, List.mem_singleton.mpr rfl, by simp [List.lookup], v, rfl, e1, v, rfl, T3.stands ge1 gd1, Th.same S0, _, rfl, iteF ?_⟩
    refine ⟨_, rfl, _, rfl, _, _, e2, c3, d2, _, v, rfl, upd_same, (at_d n2), T3.k, List.mem_singleton.mpr rfl, by simp [List.lookup], v, rfl, e2, v, rfl, T3.stands upd_same (at_d n2), Th.same S0, _, rfl, iteF ?_⟩
    clear S Sa Sb ge1 gd1 he1 hd1 he2 hd2 n1 n2
    refine ⟨_, rfl, rfl, (by show 1 ≤ 1000; decide), fun e1 d1 he1 hd1 n1 => ⟨_, rfl, rfl, (by show 1 ≤ 1000; decide), fun e2 d2 he2 hd2 n2 => ⟨_, _, rfl, ?_⟩⟩⟩
    have Sa := upd2_same (o := .xd [("kind", v)]) (u := eobj e1 c4 d1) hd1 he1
    have Sb := upd2_same (o := .xd [("kind", v)]) (u := eobj e2 c4 d2) hd2 he2
    have S1 := S0.trans (Sa.trans Sb)
    have ge1 := Sb _ _ (upd_same (H := upd _ d1 (.xd [("kind", v)])) (a := e1) (o := eobj e1 c4 d1))
    have gd1 := Sb d1 (.xd [("kind", v)]) (at_d n1)
    refine ⟨_, rfl, _, rfl, _, _, e1, c4, d1, _, v, rfl, ge1, gd1, T4.k, List.mem_singleton.mpr rfl, by simp [List.lookup], v, rfl, e1, v, rfl, T4.stands ge1 gd1, Th.same S1, _, rfl, iteF ?_⟩
    refine ⟨_, rfl, _, rfl, _, _, e2, c4, d2, _, v, rfl, upd_same, (at_d n2), T4.k, List.mem_singleton.mpr rfl, by simp [List.lookup], v, rfl, e2, v, rfl, T4.stands upd_same (at_d n2), Th.same S1, _, rfl, iteF ?_⟩
    clear S0 Sa Sb ge1 gd1 he1 hd1 he2 hd2 n1 n2
    refine ⟨_, rfl, rfl, (by show 1 ≤ 1000; decide), fun e1 d1 he1 hd1 n1 => ⟨_, rfl, rfl, (by show 1 ≤ 1000; decide), fun e2 d2 he2 hd2 n2 => ⟨_, _, rfl, ?_⟩⟩⟩
    have Sa := upd2_same (o := .xd [("token", v)]) (u := eobj e1 c5 d1) hd1 he1
    have Sb := upd2_same (o := .xd [("token", v)]) (u := eobj e2 c5 d2) hd2 he2
    have S2 := S1.trans (Sa.trans Sb)
    have ge1 := Sb _ _ (upd_same (H := upd _ d1 (.xd [("token", v)])) (a := e1) (o := eobj e1 c5 d1))
    have gd1 := Sb d1 (.xd [("token", v)]) (at_d n1)
    refine ⟨_, rfl, _, rfl, _, _, e1, c5, d1, _, v, rfl, ge1, gd1, T5.k, List.mem_singleton.mpr rfl, by simp [List.lookup], v, rfl, e1, v, rfl, T5.stands ge1 gd1, Th.same S2, _, rfl, iteF ?_⟩
    refine ⟨_, rfl, _, rfl, _, _, e2, c5, d2, _, v, rfl, upd_same, (at_d n2), T5.k, List.mem_singleton.mpr rfl, by simp [List.lookup], v, rfl, e2, v, rfl, T5.stands upd_same (at_d n2), Th.same S2, _, rfl, iteF ?_⟩
    clear S1 Sa Sb ge1 gd1 he1 hd1 he2 hd2 n1 n2
    refine ⟨_, rfl, rfl, (by show 1 ≤ 1000; decide), fun e1 d1 he1 hd1 n1 => ⟨_, rfl, rfl, (by show 1 ≤ 1000; decide), fun e2 d2 he2 hd2 n2 => ⟨_, _, rfl, ?_⟩⟩⟩
    have Sa := upd2_same (o := .xd [("place", v)]) (u := eobj e1 c6 d1) hd1 he1
    have Sb := upd2_same (o := .xd [("place", v)]) (u := eobj e2 c6 d2) hd2 he2
    have S3 := S2.trans (Sa.trans Sb)
    have ge1 := Sb _ _ (upd_same (H := upd _ d1 (.xd [("place", v)])) (a := e1) (o := eobj e1 c6 d1))
    have gd1 := Sb d1 (.xd [("place", v)]) (at_d n1)
    refine ⟨_, rfl, _, rfl, _, _, e1, c6, d1, _, v, rfl, ge1, gd1, T6.k, List.mem_singleton.mpr rfl, by simp [List.lookup], v, rfl, e1, v, rfl, T6.stands ge1 gd1, Th.same S3, _, rfl, iteF ?_⟩
    refine ⟨_, rfl, _, rfl, _, _, e2, c6, d2, _, v, rfl, upd_same, (at_d n2), T6.k, List.mem_singleton.mpr rfl, by simp [List.lookup], v, rfl, e2, v, rfl, T6.stands upd_same (at_d n2), Th.same S3, _, rfl, iteF ?_⟩
    clear S2 Sa Sb ge1 gd1 he1 hd1 he2 hd2 n1 n2
    refine ⟨_, rfl, rfl, (by show 1 ≤ 1000; decide), fun e1 d1 he1 hd1 n1 => ⟨_, rfl, rfl, (by show 1 ≤ 1000; decide), fun e2 d2 he2 hd2 n2 => ⟨_, _, rfl, ?_⟩⟩⟩
    have Sa := upd2_same (o := .xd [("limit", v)]) (u := eobj e1 c7 d1) hd1 he1
    have Sb := upd2_same (o := .xd [("limit", v)]) (u := eobj e2 c7 d2) hd2 he2
    have S4 := S3.trans (Sa.trans Sb)
    have ge1 := Sb _ _ (upd_same (H := upd _ d1 (.xd [("limit", v)])) (a := e1) (o := eobj e1 c7 d1))
    have gd1 := Sb d1 (.xd [("limit", v)]) (at_d n1)
    refine ⟨_, rfl, _, rfl, _, _, e1, c7, d1, _, v, rfl, ge1, gd1, T7.k, List.mem_singleton.mpr rfl, by simp [List.lookup], v, rfl, e1, v, rfl, T7.stands ge1 gd1, Th.same S4, _, rfl, iteF ?_⟩
    refine ⟨_, rfl, _, rfl, _, _, e2, c7, d2, _, v, rfl, upd_same, (at_d n2), T7.k, List.mem_singleton.mpr rfl, by simp [List.lookup], v, rfl, e2, v, rfl, T7.stands upd_same (at_d n2), Th.same S4, _, rfl, iteF ?_⟩
    clear S3 Sa Sb ge1 gd1 he1 hd1 he2 hd2 n1 n2
    -- the error with two fields
    refine ⟨_, rfl, rfl, (by show 2 ≤ 1000; decide), fun e1 d1 he1 hd1 n1 => ⟨_, rfl, rfl, (by show 2 ≤ 1000; decide), fun e2 d2 he2 hd2 n2 => ⟨_, _, rfl, ?_⟩⟩⟩
    have Sa := upd2_same (o := .xd [("relation", .str "see"), ("kind", v)]) (u := eobj e1 c8 d1) hd1 he1
    have Sb := upd2_same (o := .xd [("relation", .str "see"), ("kind", v)]) (u := eobj e2 c8 d2) hd2 he2
    have Sc := S4.trans (Sa.trans Sb)
    have ge1 := Sb _ _ (upd_same (H := upd _ d1 (.xd [("relation", .str "see"), ("kind", v)])) (a := e1) (o := eobj e1 c8 d1))
    have gd1 := Sb d1 (.xd [("relation", .str "see"), ("kind", v)]) (at_d n1)
    have lk : List.lookup ("kind" : Str) [(("relation" : Str), V.str "see"), ("kind", v)] = some v := by rw [lookup_cons_if, if_neg (by decide), lookup_cons_if, if_pos rfl]
    have lr : List.lookup ("relation" : Str) [(("relation" : Str), V.str "see"), ("kind", v)] = some (V.str "see") := by rw [lookup_cons_if, if_pos rfl]
    have mk : ("kind" : Str) ∈ [("kind" : Str), "relation"] := List.mem_cons_self ..
    have mr : ("relation" : Str) ∈ [("kind" : Str), "relation"] := List.mem_cons_of_mem _ (List.mem_cons_self ..)
    refine ⟨_, rfl, _, rfl, _, _, e1, c8, d1, _, v, rfl, ge1, gd1, T8.k, mk, lk, v, rfl, e1, v, rfl, ⟨_, _, c8, d1, _, ge1, gd1, T8.k, T8.r, T8.v⟩, Th.same Sc, _, rfl, iteT ?_⟩
    refine ⟨_, rfl, _, _, e2, c8, d2, _, v, rfl, upd_same, (at_d n2), T8.k, mk, lk, _, rfl, rfl, Th.same Sc, _, rfl, iteT ?_⟩
    refine ⟨_, rfl, _, _, e1, c8, d1, _, _, rfl, ge1, gd1, T8.k, mr, lr, _, rfl, _, _, e2, c8, d2, _, _, rfl, upd_same, (at_d n2), T8.k, mr, lr, (by show 2 ≤ sizeLine; decide), fun p hp => ⟨(by show 1 ≤ sizeLine; decide), fun p2 hp2 => ?_⟩⟩
    refine ⟨p2, _, _, rfl, rfl, upd_same, (by decide), (by decide), (by show 1 * 2 ≤ sizeLine; decide), fun p3 hp3 => ?_⟩
    have S8 := (Sc.trans (same1 (o := .lst [.str "see", .str "see"]) hp)).trans (same1 (o := .lst [.str "see"]) hp2)
    have S9 := S8.trans (same1 (o := .lst [.str "see", .str "see"]) hp3)
    have g1 := (same1 (o := .lst [.str "see", .str "see"]) hp3) _ _ ((same1 (o := .lst [.str "see"]) hp2) _ _ (upd_same (a := p) (o := .lst [.str "see", .str "see"])))
    refine ⟨_, _, .lst (SqL.of g1) (.cons (.str "see") (.cons (.str "see") .nil)), .lst (SqL.of upd_same) (.cons (.str "see") (.cons (.str "see") .nil)), (by decide +kernel), (by decide +kernel), ?_⟩
    have e : PyData.eqv (.list [.str "see", .str "see"]) (.list [.str "see", .str "see"]) = true := by simp [PyData.eqv, PyData.eqvAll]
    rw [e]
    exact q _ S9
end
end K05

set_option maxHeartbeats 8000000
namespace K05
open PySem PySem.Spec PyProof.Rows L2
abbrev sApart : Stmt := top 25
theorem scApart : FnScope ["thing", "some", "one", "marks"] ["thing"] (defScope sApart) := ⟨rfl, rfl, rfl, by decide +kernel, rfl, by decide +kernel, by decide +kernel⟩
/-! ### list.count of truth values -/
def eqb (v : Value) : Bool := match v with
  | .bool b => b == true
  | _ => false
theorem eqb_count : ∀ bs : List Bool, (bs.map Value.bool).countP eqb = bs.count true
  | [] => rfl
  | b :: bs => by
    rw [List.map_cons, List.countP_cons, List.count_cons, eqb_count bs]
    rfl
def rCntB (K : PySem.W.Frag) : V → List V → Hp → VK → Prop := fun x xs H Q => ∃ (p : Addr) (bs : List Bool), x = .ref p ∧ xs = [.bl true] ∧ SqL K H p (bs.map V.bl) ∧ Q (.int (bs.count true : Nat)) H
theorem mt_lcountB {X : Cx} : MtR X "list.count" (rCntB X.K) := by
  intro pins s σ H x xs v us Q I rx rxs h
  obtain ⟨p, bs, rfl, rfl, hs, q⟩ := h
  cases rx
  obtain ⟨u, rfl, ru⟩ := rxs.one
  obtain rfl : u = Value.bool true := ru
  obtain ⟨its, rv, ⟨⟨cl, dd, data, sl⟩, n, ho, hc, hdn, hd⟩, hlen⟩ := I.list hs
  simp only at hc hd
  subst hc hd
  have hb := rv.bls
  subst hb
  refine call_meets PySem.F.slot_list_count ⟨_, ho, rfl⟩ PySem.F.entry_list_count (PySem.F.args_list_count_2 _ _) (SeqAt.list_countAt p _ n dd sl (.bool true) eqb) ⟨ho, fun y hy => ?_, ?_⟩
  · have hy' : y ∈ bs.map Value.bool := by simpa using hy
    obtain ⟨b, _, rfl⟩ := List.mem_map.mp hy'
    exact SeqAt.EqAt.bool_bool b true
  · refine ⟨.int (bs.count true : Nat), H, I.tok _, ⟨s.toks, ?_⟩, q⟩
    have e : (bs.map Value.bool).toArray.toList.countP eqb = bs.count true := eqb_count bs
    show Value.int ((((bs.map Value.bool).toArray.toList.countP eqb : Nat)) : Int) s.toks = Value.int ((bs.count true : Nat) : Int) s.toks
    rw [e]
/-! ### just one mark -/
theorem cnt0 {C : Addr} : ∀ {cs : List Addr}, C ∉ cs → (cs.map fun D => decide (C = D)).count true = 0
  | [], _ => rfl
  | D :: cs, h => by
    rw [List.map_cons, List.count_cons, cnt0 (fun z => h (List.mem_cons_of_mem _ z)), decide_eq_false (fun z => h (by rw [z]; exact List.mem_cons_self ..))]
    rfl
theorem cnt1 {C : Addr} : ∀ {cs : List Addr}, cs.Nodup → C ∈ cs → (cs.map fun D => decide (C = D)).count true = 1
  | [], _, h => by cases h
  | D :: cs, nd, h => by
    rw [List.nodup_cons] at nd
    rw [List.map_cons, List.count_cons]
    by_cases e : C = D
    · rw [e, cnt0 nd.1, decide_eq_true rfl]
      rfl
    · have h2 : C ∈ cs := (List.mem_cons.mp h).resolve_left e
      rw [cnt1 nd.2 h2, decide_eq_false e]
      rfl
section
variable {P : Program} {w : World} {K : PySem.W.Frag} {mg : Str → Option Value} {base : Heap}
/-- each item is an error of one of the classes -/
def Items (P : Program) (w : World) (K : PySem.W.Frag) (mg : Str → Option Value) (cs : List Addr) (H : Hp) (es : List V) : Prop :=
  ∀ y ∈ es, ∃ (x : Str) (fl : List Str) (C e d : Addr) (fs : List (Str × V)), y = .ref e ∧ H e = some (eobj e C d) ∧ H d = some (.xd fs) ∧ ErrK P w K mg x C fl ∧ C ∈ cs
theorem Items.same {cs : List Addr} {H H' : Hp} {es : List V} (s : Same H H') (h : Items P w K mg cs H es) : Items P w K mg cs H' es := fun y hy => by
  obtain ⟨x, fl, C, e, d, fs, rfl, h1, h2, T, m⟩ := h y hy
  exact ⟨x, fl, C, e, d, fs, rfl, s _ _ h1, s _ _ h2, T, m⟩
theorem Items.nil {cs : List Addr} {H : Hp} : Items P w K mg cs H [] := fun y hy => by cases hy
theorem Items.add {cs : List Addr} {H : Hp} {x : Str} {fl : List Str} {es : List V} {C e d : Addr} {fs : List (Str × V)} (h : Items P w K mg cs H es) (he : H e = none) (hd : H d = none) (hne : d ≠ e) (T : ErrK P w K mg x C fl) (m : C ∈ cs) :
    Items P w K mg cs (upd (upd H d (.xd fs)) e (eobj e C d)) (es ++ [.ref e]) := fun y hy => by
  rcases List.mem_append.mp hy with hy | hy
  · exact (h.same (upd2_same hd he)) y hy
  · obtain rfl := List.mem_singleton.mp hy
    exact ⟨x, fl, C, e, d, fs, rfl, upd_same, at_d hne, T, m⟩
set_option maxHeartbeats 16000000
theorem ok_apart {f c1 c2 c3 c4 c5 c6 c7 c8 c9 c10 c11 c12 c13 c14 c15 : Addr} {fd : FuncData} (F : Fun K "_law_apart" "_law_apart" sApart f fd) (mI : mg "isinstance" = none)
    (T1 : ErrK P w K mg "InvalidSchema" c1 ["path"])
    (T2 : ErrK P w K mg "CircularBut" c2 ["kind", "relation"])
    (T3 : ErrK P w K mg "InvalidState" c3 ["index"])
    (T4 : ErrK P w K mg "InvalidObject" c4 ["value"])
    (T5 : ErrK P w K mg "InvalidUser" c5 ["value"])
    (T6 : ErrK P w K mg "InvalidRelation" c6 ["relation"])
    (T7 : ErrK P w K mg "InvalidKind" c7 ["kind"])
    (T8 : ErrK P w K mg "InvalidNumber" c8 ["name"])
    (T9 : ErrK P w K mg "InvalidChange" c9 ["index"])
    (T10 : ErrK P w K mg "InvalidToken" c10 ["token"])
    (T11 : ErrK P w K mg "InvalidTree" c11 ["path"])
    (T12 : ErrK P w K mg "InvalidRules" c12 ["index"])
    (T13 : ErrK P w K mg "InvalidText" c13 ["place"])
    (T14 : ErrK P w K mg "TooLarge" c14 ["limit"])
    (T15 : ErrK P w K mg "Mismatch" c15 ["name"])
    (nd : [c1, c2, c3, c4, c5, c6, c7, c8, c9, c10, c11, c12, c13, c14, c15].Nodup) (hM : ∀ C ∈ [c1, c2, c3, c4, c5, c6, c7, c8, c9, c10, c11, c12, c13, c14, c15], ∀ D ∈ [c1, c2, c3, c4, c5, c6, c7, c8, c9, c10, c11, c12, c13, c14, c15], PySem.W.kitOne K (.ref C) (.ref D) = some (decide (C = D))) :
    FnOk P w K mg base CX0 3 f fd ["thing"] spFirst := by
  refine F.ok scApart (fun vs H Q E h => ?_) (fun cdv A outer s H vs Q E hr h => ?_)
  · obtain ⟨v, rfl, _⟩ := h
    rfl
  · obtain ⟨v, rfl, Th, q⟩ := h
    have hr1 : Room 1 _ := hr.mono (by decide)
    generalize hcs : [c1, c2, c3, c4, c5, c6, c7, c8, c9, c10, c11, c12, c13, c14, c15] = cs at nd hM
    have m1 : c1 ∈ cs := by rw [← hcs]; simp
    have m2 : c2 ∈ cs := by rw [← hcs]; simp
    have m3 : c3 ∈ cs := by rw [← hcs]; simp
    have m4 : c4 ∈ cs := by rw [← hcs]; simp
    have m5 : c5 ∈ cs := by rw [← hcs]; simp
    have m6 : c6 ∈ cs := by rw [← hcs]; simp
    have m7 : c7 ∈ cs := by rw [← hcs]; simp
    have m8 : c8 ∈ cs := by rw [← hcs]; simp
    have m9 : c9 ∈ cs := by rw [← hcs]; simp
    have m10 : c10 ∈ cs := by rw [← hcs]; simp
    have m11 : c11 ∈ cs := by rw [← hcs]; simp
    have m12 : c12 ∈ cs := by rw [← hcs]; simp
    have m13 : c13 ∈ cs := by rw [← hcs]; simp
    have m14 : c14 ∈ cs := by rw [← hcs]; simp
    have m15 : c15 ∈ cs := by rw [← hcs]; simp
    refine ⟨_, pss_cons (ps_set (i := 1) scApart.nd rfl (.inl rfl) (pe_lst (pa_cons (pe_mkE T1 hr (pa_cons (pv 0) pa_nil)) (pa_cons (pe_mkE T2 hr (pa_cons (pv 0) (pa_cons (pv 0) pa_nil))) (pa_cons (pe_mkE T3 hr (pa_cons (pv 0) pa_nil)) (pa_cons (pe_mkE T4 hr (pa_cons (pv 0) pa_nil)) pa_nil))))))
      (pss_cons (ps_set (i := 1) scApart.nd rfl (.inl rfl) (pe_op op_cat (pv 1) (pe_lst (pa_cons (pe_mkE T5 hr (pa_cons (pv 0) pa_nil)) (pa_cons (pe_mkE T6 hr (pa_cons (pv 0) pa_nil)) (pa_cons (pe_mkE T7 hr (pa_cons (pv 0) pa_nil)) (pa_cons (pe_mkE T8 hr (pa_cons (pv 0) pa_nil)) pa_nil)))))))
      (pss_cons (ps_set (i := 1) scApart.nd rfl (.inl rfl) (pe_op op_cat (pv 1) (pe_lst (pa_cons (pe_mkE T9 hr (pa_cons (pv 0) pa_nil)) (pa_cons (pe_mkE T10 hr (pa_cons (pv 0) pa_nil)) (pa_cons (pe_mkE T11 hr (pa_cons (pv 0) pa_nil)) (pa_cons (pe_mkE T12 hr (pa_cons (pv 0) pa_nil)) pa_nil)))))))
      (pss_cons (ps_for PassesOwn.never rfl (pi_list (pe_op op_cat (pv 1) (pe_lst (pa_cons (pe_mkE T13 hr (pa_cons (pv 0) pa_nil)) (pa_cons (pe_mkE T14 hr (pa_cons (pv 0) pa_nil)) (pa_cons (pe_mkE T15 hr (pa_cons (pv 0) pa_nil)) pa_nil)))))) (pg_name (i := 2) scApart.nd rfl (Or.inl rfl))
        (pss_cons (ps_set (i := 3) scApart.nd rfl (.inl rfl) (pe_lst (pa_cons (pe_callB call_isErr (by rfl) mI (by decide +kernel) (pa_cons (pv 2) (pa_cons (pe_glob (v := .ref c1) rfl T1.gC rfl) pa_nil))) (pa_cons (pe_callB call_isErr (by rfl) mI (by decide +kernel) (pa_cons (pv 2) (pa_cons (pe_glob (v := .ref c2) rfl T2.gC rfl) pa_nil))) (pa_cons (pe_callB call_isErr (by rfl) mI (by decide +kernel) (pa_cons (pv 2) (pa_cons (pe_glob (v := .ref c3) rfl T3.gC rfl) pa_nil))) pa_nil)))))
        (pss_cons (ps_set (i := 3) scApart.nd rfl (.inl rfl) (pe_op op_cat (pv 3) (pe_lst (pa_cons (pe_callB call_isErr (by rfl) mI (by decide +kernel) (pa_cons (pv 2) (pa_cons (pe_glob (v := .ref c4) rfl T4.gC rfl) pa_nil))) (pa_cons (pe_callB call_isErr (by rfl) mI (by decide +kernel) (pa_cons (pv 2) (pa_cons (pe_glob (v := .ref c5) rfl T5.gC rfl) pa_nil))) pa_nil)))))
        (pss_cons (ps_set (i := 3) scApart.nd rfl (.inl rfl) (pe_op op_cat (pv 3) (pe_lst (pa_cons (pe_callB call_isErr (by rfl) mI (by decide +kernel) (pa_cons (pv 2) (pa_cons (pe_glob (v := .ref c6) rfl T6.gC rfl) pa_nil))) (pa_cons (pe_callB call_isErr (by rfl) mI (by decide +kernel) (pa_cons (pv 2) (pa_cons (pe_glob (v := .ref c7) rfl T7.gC rfl) pa_nil))) pa_nil)))))
        (pss_cons (ps_set (i := 3) scApart.nd rfl (.inl rfl) (pe_op op_cat (pv 3) (pe_lst (pa_cons (pe_callB call_isErr (by rfl) mI (by decide +kernel) (pa_cons (pv 2) (pa_cons (pe_glob (v := .ref c8) rfl T8.gC rfl) pa_nil))) (pa_cons (pe_callB call_isErr (by rfl) mI (by decide +kernel) (pa_cons (pv 2) (pa_cons (pe_glob (v := .ref c9) rfl T9.gC rfl) pa_nil))) pa_nil)))))
        (pss_cons (ps_set (i := 3) scApart.nd rfl (.inl rfl) (pe_op op_cat (pv 3) (pe_lst (pa_cons (pe_callB call_isErr (by rfl) mI (by decide +kernel) (pa_cons (pv 2) (pa_cons (pe_glob (v := .ref c10) rfl T10.gC rfl) pa_nil))) (pa_cons (pe_callB call_isErr (by rfl) mI (by decide +kernel) (pa_cons (pv 2) (pa_cons (pe_glob (v := .ref c11) rfl T11.gC rfl) pa_nil))) (pa_cons (pe_callB call_isErr (by rfl) mI (by decide +kernel) (pa_cons (pv 2) (pa_cons (pe_glob (v := .ref c12) rfl T12.gC rfl) pa_nil))) pa_nil))))))
        (pss_cons (ps_set (i := 3) scApart.nd rfl (.inl rfl) (pe_op op_cat (pv 3) (pe_lst (pa_cons (pe_callB call_isErr (by rfl) mI (by decide +kernel) (pa_cons (pv 2) (pa_cons (pe_glob (v := .ref c13) rfl T13.gC rfl) pa_nil))) (pa_cons (pe_callB call_isErr (by rfl) mI (by decide +kernel) (pa_cons (pv 2) (pa_cons (pe_glob (v := .ref c14) rfl T14.gC rfl) pa_nil))) (pa_cons (pe_callB call_isErr (by rfl) mI (by decide +kernel) (pa_cons (pv 2) (pa_cons (pe_glob (v := .ref c15) rfl T15.gC rfl) pa_nil))) pa_nil))))))
        (pss_one (ps_if (pt_cmpR op_ne (pe_bm PySem.F.plainAttrs_list PySem.F.slot_list_count PySem.F.type_list_count mt_lcountB (pv 3) (pa_cons pe_bl pa_nil)) pe_int (nomark _)) (pss_one (ps_ret pe_bl)) pss_nil)))))))))
      (pss_one (ps_ret pe_bl))))), ?_⟩
    refine ⟨_, rfl, rfl, (by show 1 ≤ 1000; decide), fun e1 d1 he1 hd1 n1 => ⟨_, rfl, _, rfl, rfl, (by show 2 ≤ 1000; decide), fun e2 d2 he2 hd2 n2 => ⟨_, rfl, rfl, (by show 1 ≤ 1000; decide), fun e3 d3 he3 hd3 n3 => ⟨_, rfl, rfl, (by show 1 ≤ 1000; decide), fun e4 d4 he4 hd4 n4 => ⟨(by show 4 ≤ sizeLine; decide), fun p1 hp1 => ?_⟩⟩⟩⟩⟩
    have I1 := Items.add (P := P) (w := w) (K := K) (mg := mg) (cs := cs) (fs := [("path", v)]) (Items.nil (P := P) (w := w) (K := K) (mg := mg) (cs := cs)) he1 hd1 n1 T1 m1
    have I2 := Items.add (P := P) (w := w) (K := K) (mg := mg) (cs := cs) (fs := [("relation", v), ("kind", v)]) (I1) he2 hd2 n2 T2 m2
    have I3 := Items.add (P := P) (w := w) (K := K) (mg := mg) (cs := cs) (fs := [("index", v)]) (I2) he3 hd3 n3 T3 m3
    have I4 := Items.add (P := P) (w := w) (K := K) (mg := mg) (cs := cs) (fs := [("value", v)]) (I3) he4 hd4 n4 T4 m4
    have Ja := I4.same (same1 (o := .lst [.ref e1, .ref e2, .ref e3, .ref e4]) hp1)
    have Sa := ((((upd2_same (o := .xd [("path", v)]) (u := eobj e1 c1 d1) hd1 he1).trans (upd2_same (o := .xd [("relation", v), ("kind", v)]) (u := eobj e2 c2 d2) hd2 he2)).trans (upd2_same (o := .xd [("index", v)]) (u := eobj e3 c3 d3) hd3 he3)).trans (upd2_same (o := .xd [("value", v)]) (u := eobj e4 c4 d4) hd4 he4)).trans (same1 (o := .lst [.ref e1, .ref e2, .ref e3, .ref e4]) hp1)
    refine ⟨_, rfl, _, rfl, rfl, (by show 1 ≤ 1000; decide), fun e5 d5 he5 hd5 n5 => ⟨_, rfl, rfl, (by show 1 ≤ 1000; decide), fun e6 d6 he6 hd6 n6 => ⟨_, rfl, rfl, (by show 1 ≤ 1000; decide), fun e7 d7 he7 hd7 n7 => ⟨_, rfl, rfl, (by show 1 ≤ 1000; decide), fun e8 d8 he8 hd8 n8 => ⟨(by show 4 ≤ sizeLine; decide), fun p2 hp2 => ?_⟩⟩⟩⟩⟩
    have I5 := Items.add (P := P) (w := w) (K := K) (mg := mg) (cs := cs) (fs := [("value", v)]) (Items.nil (P := P) (w := w) (K := K) (mg := mg) (cs := cs)) he5 hd5 n5 T5 m5
    have I6 := Items.add (P := P) (w := w) (K := K) (mg := mg) (cs := cs) (fs := [("relation", v)]) (I5) he6 hd6 n6 T6 m6
    have I7 := Items.add (P := P) (w := w) (K := K) (mg := mg) (cs := cs) (fs := [("kind", v)]) (I6) he7 hd7 n7 T7 m7
    have I8 := Items.add (P := P) (w := w) (K := K) (mg := mg) (cs := cs) (fs := [("name", v)]) (I7) he8 hd8 n8 T8 m8
    have Jb := I8.same (same1 (o := .lst [.ref e5, .ref e6, .ref e7, .ref e8]) hp2)
    have Sb := ((((upd2_same (o := .xd [("value", v)]) (u := eobj e5 c5 d5) hd5 he5).trans (upd2_same (o := .xd [("relation", v)]) (u := eobj e6 c6 d6) hd6 he6)).trans (upd2_same (o := .xd [("kind", v)]) (u := eobj e7 c7 d7) hd7 he7)).trans (upd2_same (o := .xd [("name", v)]) (u := eobj e8 c8 d8) hd8 he8)).trans (same1 (o := .lst [.ref e5, .ref e6, .ref e7, .ref e8]) hp2)
    have Kb : Items P w K mg cs _ ([.ref e1, .ref e2, .ref e3, .ref e4] ++ [.ref e5, .ref e6, .ref e7, .ref e8]) := fun y hy => (List.mem_append.mp hy).elim (Ja.same Sb y) (Jb y)
    refine ⟨p1, p2, _, _, rfl, rfl, Sb _ _ upd_same, upd_same, (by show 8 ≤ sizeLine; decide), fun r1 hr1 => ?_⟩
    have Jab := Kb.same (same1 (o := .lst ([.ref e1, .ref e2, .ref e3, .ref e4] ++ [.ref e5, .ref e6, .ref e7, .ref e8])) hr1)
    have Sab := (Sa.trans Sb).trans (same1 (o := .lst ([.ref e1, .ref e2, .ref e3, .ref e4] ++ [.ref e5, .ref e6, .ref e7, .ref e8])) hr1)
    refine ⟨_, rfl, _, rfl, rfl, (by show 1 ≤ 1000; decide), fun e9 d9 he9 hd9 n9 => ⟨_, rfl, rfl, (by show 1 ≤ 1000; decide), fun e10 d10 he10 hd10 n10 => ⟨_, rfl, rfl, (by show 1 ≤ 1000; decide), fun e11 d11 he11 hd11 n11 => ⟨_, rfl, rfl, (by show 1 ≤ 1000; decide), fun e12 d12 he12 hd12 n12 => ⟨(by show 4 ≤ sizeLine; decide), fun p3 hp3 => ?_⟩⟩⟩⟩⟩
    have I9 := Items.add (P := P) (w := w) (K := K) (mg := mg) (cs := cs) (fs := [("index", v)]) (Items.nil (P := P) (w := w) (K := K) (mg := mg) (cs := cs)) he9 hd9 n9 T9 m9
    have I10 := Items.add (P := P) (w := w) (K := K) (mg := mg) (cs := cs) (fs := [("token", v)]) (I9) he10 hd10 n10 T10 m10
    have I11 := Items.add (P := P) (w := w) (K := K) (mg := mg) (cs := cs) (fs := [("path", v)]) (I10) he11 hd11 n11 T11 m11
    have I12 := Items.add (P := P) (w := w) (K := K) (mg := mg) (cs := cs) (fs := [("index", v)]) (I11) he12 hd12 n12 T12 m12
    have Jc := I12.same (same1 (o := .lst [.ref e9, .ref e10, .ref e11, .ref e12]) hp3)
    have Sc := ((((upd2_same (o := .xd [("index", v)]) (u := eobj e9 c9 d9) hd9 he9).trans (upd2_same (o := .xd [("token", v)]) (u := eobj e10 c10 d10) hd10 he10)).trans (upd2_same (o := .xd [("path", v)]) (u := eobj e11 c11 d11) hd11 he11)).trans (upd2_same (o := .xd [("index", v)]) (u := eobj e12 c12 d12) hd12 he12)).trans (same1 (o := .lst [.ref e9, .ref e10, .ref e11, .ref e12]) hp3)
    have Kc : Items P w K mg cs _ ([.ref e1, .ref e2, .ref e3, .ref e4, .ref e5, .ref e6, .ref e7, .ref e8] ++ [.ref e9, .ref e10, .ref e11, .ref e12]) := fun y hy => (List.mem_append.mp hy).elim (Jab.same Sc y) (Jc y)
    refine ⟨r1, p3, _, _, rfl, rfl, Sc _ _ upd_same, upd_same, (by show 12 ≤ sizeLine; decide), fun r2 hr2 => ?_⟩
    have Jabc := Kc.same (same1 (o := .lst ([.ref e1, .ref e2, .ref e3, .ref e4, .ref e5, .ref e6, .ref e7, .ref e8] ++ [.ref e9, .ref e10, .ref e11, .ref e12])) hr2)
    have Sabc := (Sab.trans Sc).trans (same1 (o := .lst ([.ref e1, .ref e2, .ref e3, .ref e4, .ref e5, .ref e6, .ref e7, .ref e8] ++ [.ref e9, .ref e10, .ref e11, .ref e12])) hr2)
    refine ⟨_, rfl, _, rfl, rfl, (by show 1 ≤ 1000; decide), fun e13 d13 he13 hd13 n13 => ⟨_, rfl, rfl, (by show 1 ≤ 1000; decide), fun e14 d14 he14 hd14 n14 => ⟨_, rfl, rfl, (by show 1 ≤ 1000; decide), fun e15 d15 he15 hd15 n15 => ⟨(by show 3 ≤ sizeLine; decide), fun p4 hp4 => ?_⟩⟩⟩⟩
    have I13 := Items.add (P := P) (w := w) (K := K) (mg := mg) (cs := cs) (fs := [("place", v)]) (Items.nil (P := P) (w := w) (K := K) (mg := mg) (cs := cs)) he13 hd13 n13 T13 m13
    have I14 := Items.add (P := P) (w := w) (K := K) (mg := mg) (cs := cs) (fs := [("limit", v)]) (I13) he14 hd14 n14 T14 m14
    have I15 := Items.add (P := P) (w := w) (K := K) (mg := mg) (cs := cs) (fs := [("name", v)]) (I14) he15 hd15 n15 T15 m15
    have Jd := I15.same (same1 (o := .lst [.ref e13, .ref e14, .ref e15]) hp4)
    have Sd := (((upd2_same (o := .xd [("place", v)]) (u := eobj e13 c13 d13) hd13 he13).trans (upd2_same (o := .xd [("limit", v)]) (u := eobj e14 c14 d14) hd14 he14)).trans (upd2_same (o := .xd [("name", v)]) (u := eobj e15 c15 d15) hd15 he15)).trans (same1 (o := .lst [.ref e13, .ref e14, .ref e15]) hp4)
    have Kd : Items P w K mg cs _ ([.ref e1, .ref e2, .ref e3, .ref e4, .ref e5, .ref e6, .ref e7, .ref e8, .ref e9, .ref e10, .ref e11, .ref e12] ++ [.ref e13, .ref e14, .ref e15]) := fun y hy => (List.mem_append.mp hy).elim (Jabc.same Sd y) (Jd y)
    refine ⟨r2, p4, _, _, rfl, rfl, Sd _ _ upd_same, upd_same, (by show 15 ≤ sizeLine; decide), fun r3 hr3 => ?_⟩
    have Jabcd := Kd.same (same1 (o := .lst ([.ref e1, .ref e2, .ref e3, .ref e4, .ref e5, .ref e6, .ref e7, .ref e8, .ref e9, .ref e10, .ref e11, .ref e12] ++ [.ref e13, .ref e14, .ref e15])) hr3)
    have Sabcd := (Sabc.trans Sd).trans (same1 (o := .lst ([.ref e1, .ref e2, .ref e3, .ref e4, .ref e5, .ref e6, .ref e7, .ref e8, .ref e9, .ref e10, .ref e11, .ref e12] ++ [.ref e13, .ref e14, .ref e15])) hr3)
    refine ⟨r3, rfl, ⟨_, SqL.of upd_same⟩, for_list (K := K) (a := r3) (xs := ([.ref e1, .ref e2, .ref e3, .ref e4, .ref e5, .ref e6, .ref e7, .ref e8, .ref e9, .ref e10, .ref e11, .ref e12] ++ [.ref e13, .ref e14, .ref e15])) (fun i σ H2 => ∃ o2 o3, σ = [some v, some (.ref r2), o2, o3] ∧ Same (upd _ r3 (.lst ([.ref e1, .ref e2, .ref e3, .ref e4, .ref e5, .ref e6, .ref e7, .ref e8, .ref e9, .ref e10, .ref e11, .ref e12] ++ [.ref e13, .ref e14, .ref e15]))) H2) ⟨none, none, rfl, Same.refl _⟩ (fun i σ H2 _ h2 => h2.choose_spec.choose_spec.2.seq (SqL.of upd_same)) ?_ ?_⟩
    · rintro i y σ H2 hi ⟨o2, o3, rfl, s2⟩
      obtain ⟨xn, fl, C, e, d, fs, rfl, he, hd, T, mC⟩ := (Jabcd.same s2) y (List.mem_of_getElem? hi)
      refine ⟨_, rfl, xn, fl, e, C, d, fs, _, _, _, rfl, he, hd, T, .own c1, hM C mC c1 m1, _, rfl, xn, fl, e, C, d, fs, _, _, _, rfl, he, hd, T, .own c2, hM C mC c2 m2, _, rfl, xn, fl, e, C, d, fs, _, _, _, rfl, he, hd, T, .own c3, hM C mC c3 m3, (by show 3 ≤ sizeLine; decide), fun q0 hq0 => ?_⟩
      have Z0 := same1 (o := .lst [.bl (decide (C = c1)), .bl (decide (C = c2)), .bl (decide (C = c3))]) hq0
      refine ⟨_, rfl, _, rfl, xn, fl, e, C, d, fs, _, _, _, rfl, Z0 _ _ he, Z0 _ _ hd, T, .own c4, hM C mC c4 m4, _, rfl, xn, fl, e, C, d, fs, _, _, _, rfl, Z0 _ _ he, Z0 _ _ hd, T, .own c5, hM C mC c5 m5, (by show 2 ≤ sizeLine; decide), fun q1 hq1 => ?_⟩
      have Y1 := same1 (o := .lst [.bl (decide (C = c4)), .bl (decide (C = c5))]) hq1
      refine ⟨q0, q1, _, _, rfl, rfl, Y1 _ _ upd_same, upd_same, (by show 5 ≤ sizeLine; decide), fun t1 ht1 => ?_⟩
      have X1 := same1 (o := .lst ([.bl (decide (C = c1)), .bl (decide (C = c2)), .bl (decide (C = c3))] ++ [.bl (decide (C = c4)), .bl (decide (C = c5))])) ht1
      have Z1 := (Z0.trans Y1).trans X1
      refine ⟨_, rfl, _, rfl, xn, fl, e, C, d, fs, _, _, _, rfl, Z1 _ _ he, Z1 _ _ hd, T, .own c6, hM C mC c6 m6, _, rfl, xn, fl, e, C, d, fs, _, _, _, rfl, Z1 _ _ he, Z1 _ _ hd, T, .own c7, hM C mC c7 m7, (by show 2 ≤ sizeLine; decide), fun q2 hq2 => ?_⟩
      have Y2 := same1 (o := .lst [.bl (decide (C = c6)), .bl (decide (C = c7))]) hq2
      refine ⟨t1, q2, _, _, rfl, rfl, Y2 _ _ upd_same, upd_same, (by show 7 ≤ sizeLine; decide), fun t2 ht2 => ?_⟩
      have X2 := same1 (o := .lst ([.bl (decide (C = c1)), .bl (decide (C = c2)), .bl (decide (C = c3)), .bl (decide (C = c4)), .bl (decide (C = c5))] ++ [.bl (decide (C = c6)), .bl (decide (C = c7))])) ht2
      have Z2 := (Z1.trans Y2).trans X2
      refine ⟨_, rfl, _, rfl, xn, fl, e, C, d, fs, _, _, _, rfl, Z2 _ _ he, Z2 _ _ hd, T, .own c8, hM C mC c8 m8, _, rfl, xn, fl, e, C, d, fs, _, _, _, rfl, Z2 _ _ he, Z2 _ _ hd, T, .own c9, hM C mC c9 m9, (by show 2 ≤ sizeLine; decide), fun q3 hq3 => ?_⟩
      have Y3 := same1 (o := .lst [.bl (decide (C = c8)), .bl (decide (C = c9))]) hq3
      refine ⟨t2, q3, _, _, rfl, rfl, Y3 _ _ upd_same, upd_same, (by show 9 ≤ sizeLine; decide), fun t3 ht3 => ?_⟩
      have X3 := same1 (o := .lst ([.bl (decide (C = c1)), .bl (decide (C = c2)), .bl (decide (C = c3)), .bl (decide (C = c4)), .bl (decide (C = c5)), .bl (decide (C = c6)), .bl (decide (C = c7))] ++ [.bl (decide (C = c8)), .bl (decide (C = c9))])) ht3
      have Z3 := (Z2.trans Y3).trans X3
      refine ⟨_, rfl, _, rfl, xn, fl, e, C, d, fs, _, _, _, rfl, Z3 _ _ he, Z3 _ _ hd, T, .own c10, hM C mC c10 m10, _, rfl, xn, fl, e, C, d, fs, _, _, _, rfl, Z3 _ _ he, Z3 _ _ hd, T, .own c11, hM C mC c11 m11, _, rfl, xn, fl, e, C, d, fs, _, _, _, rfl, Z3 _ _ he, Z3 _ _ hd, T, .own c12, hM C mC c12 m12, (by show 3 ≤ sizeLine; decide), fun q4 hq4 => ?_⟩
      have Y4 := same1 (o := .lst [.bl (decide (C = c10)), .bl (decide (C = c11)), .bl (decide (C = c12))]) hq4
      refine ⟨t3, q4, _, _, rfl, rfl, Y4 _ _ upd_same, upd_same, (by show 12 ≤ sizeLine; decide), fun t4 ht4 => ?_⟩
      have X4 := same1 (o := .lst ([.bl (decide (C = c1)), .bl (decide (C = c2)), .bl (decide (C = c3)), .bl (decide (C = c4)), .bl (decide (C = c5)), .bl (decide (C = c6)), .bl (decide (C = c7)), .bl (decide (C = c8)), .bl (decide (C = c9))] ++ [.bl (decide (C = c10)), .bl (decide (C = c11)), .bl (decide (C = c12))])) ht4
      have Z4 := (Z3.trans Y4).trans X4
      refine ⟨_, rfl, _, rfl, xn, fl, e, C, d, fs, _, _, _, rfl, Z4 _ _ he, Z4 _ _ hd, T, .own c13, hM C mC c13 m13, _, rfl, xn, fl, e, C, d, fs, _, _, _, rfl, Z4 _ _ he, Z4 _ _ hd, T, .own c14, hM C mC c14 m14, _, rfl, xn, fl, e, C, d, fs, _, _, _, rfl, Z4 _ _ he, Z4 _ _ hd, T, .own c15, hM C mC c15 m15, (by show 3 ≤ sizeLine; decide), fun q5 hq5 => ?_⟩
      have Y5 := same1 (o := .lst [.bl (decide (C = c13)), .bl (decide (C = c14)), .bl (decide (C = c15))]) hq5
      refine ⟨t4, q5, _, _, rfl, rfl, Y5 _ _ upd_same, upd_same, (by show 15 ≤ sizeLine; decide), fun t5 ht5 => ?_⟩
      have X5 := same1 (o := .lst ([.bl (decide (C = c1)), .bl (decide (C = c2)), .bl (decide (C = c3)), .bl (decide (C = c4)), .bl (decide (C = c5)), .bl (decide (C = c6)), .bl (decide (C = c7)), .bl (decide (C = c8)), .bl (decide (C = c9)), .bl (decide (C = c10)), .bl (decide (C = c11)), .bl (decide (C = c12))] ++ [.bl (decide (C = c13)), .bl (decide (C = c14)), .bl (decide (C = c15))])) ht5
      have Z5 := (Z4.trans Y5).trans X5
      refine ⟨.ref t5, rfl, .inl ⟨rfl, _, SqL.of upd_same⟩, t5, [decide (C = c1), decide (C = c2), decide (C = c3), decide (C = c4), decide (C = c5), decide (C = c6), decide (C = c7), decide (C = c8), decide (C = c9), decide (C = c10), decide (C = c11), decide (C = c12), decide (C = c13), decide (C = c14), decide (C = c15)], rfl, rfl, SqL.of upd_same, rfl, _, rfl, ?_⟩
      have e1 : [decide (C = c1), decide (C = c2), decide (C = c3), decide (C = c4), decide (C = c5), decide (C = c6), decide (C = c7), decide (C = c8), decide (C = c9), decide (C = c10), decide (C = c11), decide (C = c12), decide (C = c13), decide (C = c14), decide (C = c15)].count true = 1 := by
        have z := cnt1 nd mC
        rw [← hcs] at z
        exact z
      rw [e1]
      refine iteF ?_
      exact ⟨_, _, rfl, s2.trans Z5⟩
    · rintro σ H2 ⟨o2, o3, rfl, s2⟩
      exact q _ (Sabcd.trans s2)
end
end K05

set_option maxHeartbeats 16000000
namespace K05
open PySem PySem.Spec PyProof.Rows L2
abbrev sLaw : Stmt := top 26
theorem scLaw : FnScope ["script", "huge", "cell", "source", "far", "some", "k", "thing"] ["script"] (defScope sLaw) := ⟨rfl, rfl, rfl, by decide +kernel, rfl, by decide +kernel, by decide +kernel⟩
/-! ### two more operators -/
def CPowW (i j : Int) : Prop := 0 ≤ j ∧ (Builtin.Int.intBits i : Int) * j ≤ 2 ^ 27
theorem op_powW {X : Cx} : OpR X (binaryOp .Pow) (rI CPowW fun i j => .int (i ^ j.toNat)) := opI fun _ _ _ _ _ _ _ hc q => pow_int hc.1 hc.2 q
/-- xs + ys, lists that may be read -/
def rCatQ (K : PySem.W.Frag) : R2 := fun x y H Q => ∃ l b xs zs, x = .ref l ∧ y = .ref b ∧ SqL K H l xs ∧ SqL K H b zs ∧ xs.length + zs.length ≤ sizeLine ∧ ∀ p, H p = none → Q (.ref p) (upd H p (.lst (xs ++ zs)))
theorem op_catQ {X : Cx} : OpR X (binaryOp .Add) (rCatQ X.K) := by
  intro pins s σ H x y v u Q I rx ry h
  obtain ⟨l, b, xs, zs, rfl, rfl, hH, hB, hz, q⟩ := h
  cases rx
  cases ry
  obtain ⟨its, r, ⟨⟨cl, dd, data, sl⟩, n, ho, hc, hdn, hd⟩, _⟩ := I.list hH
  obtain ⟨its2, r2, ⟨⟨cl2, dd2, data2, sl2⟩, n2, ho2, hc2, hdn2, hd2⟩, _⟩ := I.list hB
  simp only at hc hd hc2 hd2
  subst hc hd hc2 hd2
  have l1 := r.length
  have l2 := r2.length
  refine concat_meets ⟨_, ho, rfl⟩ ⟨_, ho2, rfl⟩ noFill_list_add seq_list_add PySem.F.slot_list_add PySem.F.entry_list_add (PySem.F.args_list_add_2 _ _) (list_addW l b its.toArray its2.toArray n n2 dd dd2 sl sl2 (by rw [List.size_toArray, List.size_toArray]; omega)) ⟨ho, ho2, ?_⟩
  have ea : its.toArray ++ its2.toArray = (its ++ its2).toArray := by simp
  rw [ea]
  exact ⟨.ref _, _, I.lnew (t' := s.toks) (r.append r2) (by rw [List.length_append]; omega), rfl, q _ I.fresh⟩
/-! ### heaps -/
theorem same_upd2 {H H' : Hp} {a : Addr} {o : HO} (s : Same H H') : Same (upd H a o) (upd H' a o) := fun b x e => by
  by_cases h : b = a
  · subst h
    rw [upd_same] at e ⊢
    exact e
  · rw [upd_ne h] at e ⊢
    exact s _ _ e
theorem cut_ints (ns : List Int) (lo hi : Option Int) : ∃ ms : List Int, cutV (ns.map V.int) lo hi = ms.map V.int ∧ ms.length ≤ ns.length := by
  refine ⟨(ns.drop (HT.sIx ns.length 0 lo)).take (HT.sIx ns.length ns.length hi - HT.sIx ns.length 0 lo), ?_, ?_⟩
  · unfold cutV
    rw [List.length_map, List.map_take, List.map_drop]
  · rw [List.length_take, List.length_drop]
    omega
/-- an item of a list of things, at any place within it -/
theorem thing_at {H : Hp} {xs : List V} (h : ∀ y ∈ xs, Thing H y) {r : Int} (h0 : 0 ≤ r) (h1 : r < xs.length) : ∃ v, atI xs r = some v ∧ Thing H v := by
  have hn : r.toNat < xs.length := by omega
  refine ⟨xs[r.toNat], ?_, h _ (List.getElem_mem hn)⟩
  have e : atI xs ((r.toNat : Nat) : Int) = some xs[r.toNat] := atI_nat (List.getElem?_eq_getElem hn)
  rw [Int.toNat_of_nonneg h0] at e
  exact e
def spLaw (K : PySem.W.Frag) : Sp := fun vs H Q _ => ∃ (a : Addr) (ns : List Int), vs = [.ref a] ∧ SqL K H a (ns.map V.int) ∧ ns.length ≤ 63 ∧ ∀ H', Q (.bl true) H'
section
variable {P : Program} {w : World} {K : PySem.W.Frag} {mg : Str → Option Value} {base : Heap}
theorem ok_law {f f1 f2 f3 fS fT : Addr} {fd d1 d2 d3 dS dT : FuncData} (F : Fun K "law" "law" sLaw f fd)
    (G1 : FnOk P w K mg base CX0 3 f1 d1 ["thing"] spFirst) (g1 : mg "_law_first_errors" = some (.ref f1)) (k1 : PySem.W.keepIn K (.ref f1) = true) (b1 : Binds K d1 ["thing"] [])
    (G2 : FnOk P w K mg base CX0 3 f2 d2 ["thing"] spFirst) (g2 : mg "_law_last_errors" = some (.ref f2)) (k2 : PySem.W.keepIn K (.ref f2) = true) (b2 : Binds K d2 ["thing"] [])
    (G3 : FnOk P w K mg base CX0 3 f3 d3 ["thing"] spFirst) (g3 : mg "_law_apart" = some (.ref f3)) (k3 : PySem.W.keepIn K (.ref f3) = true) (b3 : Binds K d3 ["thing"] [])
    (GS : FnOk P w K mg base CX0 1 fS dS ["cell"] spSource) (gS : mg "_law_source" = some (.ref fS)) (kS : PySem.W.keepIn K (.ref fS) = true) (bS : Binds K dS ["cell"] [])
    (GT : FnOk P w K mg base CX0 2 fT dT ["source", "bound"] spTake) (gT : mg "_law_take" = some (.ref fT)) (kT : PySem.W.keepIn K (.ref fT) = true) (bT : Binds K dT ["source", "bound"] [])
    (mi : mg "int" = none) (mr : mg "range" = none) : FnOk P w K mg base CX0 4 f fd ["script"] (spLaw K) := by
  refine F.ok scLaw (fun vs H Q E h => ?_) (fun cdv A outer s H vs Q E hr h => ?_)
  · obtain ⟨a, ns, rfl, _⟩ := h
    rfl
  · obtain ⟨a, ns, rfl, hS, hlen, q⟩ := h
    have hr3 : Room 3 _ := hr
    have hr2 : Room 2 _ := hr.mono (by decide)
    have hr1 : Room 1 _ := hr.mono (by decide)
    have hu := hu_of hr
    refine ⟨_, pss_cons (ps_set (i := 1) scLaw.nd rfl (.inl rfl) (pe_op op_mulW (pe_op op_powW (pe_op op_pow pe_int pe_int) pe_int) (pe_op op_powW (pe_op op_pow pe_int pe_int) pe_int)))
      (pss_cons (ps_if (PW.pt (pw_or (pt_not (pt_val (pe_call G1 hr3 (by rfl) g1 k1 b1 .nil pass0 (pa_cons (pv 1) pa_nil)))) (pw_or (pt_not (pt_val (pe_call G2 hr3 (by rfl) g2 k2 b2 .nil pass0 (pa_cons (pe_lst (pa_cons (pv 1) pa_nil)) pa_nil)))) (pw_or1 (pt_not (pt_val (pe_call G3 hr3 (by rfl) g3 k3 b3 .nil pass0 (pa_cons (pe_un un_neg (pv 1)) pa_nil)))))))) (pss_one (ps_ret pe_bl)) pss_nil)
      (pss_cons (ps_for PassesOwn.never rfl (pi_list (pe_slice sl_list (pe_op op_catQ (pv 0) (pe_lst (pa_cons pe_int pa_nil))) po_none (po_some pe_int))) (pg_name (i := 2) scLaw.nd rfl (Or.inl rfl)) (pss_cons (ps_set (i := 3) scLaw.nd rfl (.inl rfl) (pe_call GS hr1 (by rfl) gS kS bS .nil pass0 (pa_cons (pv 2) pa_nil)))
      (pss_cons (ps_set (i := 4) scLaw.nd rfl (.inl rfl) (pe_op op_sub (pe_op op_mod (pe_callTy call_int1 (by rfl) mi (by decide +kernel) (pa_cons (pv 2) pa_nil)) (pe_op op_add (pe_op op_mul pe_int (pe_op op_pow pe_int pe_int)) pe_int)) (pe_op op_pow pe_int pe_int)))
      (pss_cons (ps_set (i := 5) scLaw.nd rfl (.inl rfl) (pe_lst (pa_cons (pv 4) (pa_cons pe_str (pa_cons pe_str (pa_cons pe_non (pa_cons pe_bl (pa_cons (pe_tup (pa_cons pe_int (pa_cons pe_int pa_nil))) (pa_cons (pe_lst (pa_cons (pv 4) pa_nil)) (pa_cons (pe_disp (pps_cons pe_str pe_int pps_nil) (by rfl) (by rfl) (fun z => by cases z) (by decide)) (pa_cons (pe_tup (pa_cons (pe_tup (pa_cons pe_int (pa_cons pe_int pa_nil))) (pa_cons pe_int pa_nil))) (pa_cons (pe_un un_neg pe_int) (pa_cons (pe_op op_pow pe_int pe_int) (pa_cons pe_dnewK pa_nil))))))))))))))
      (pss_one (ps_for PassesOwn.never rfl (pi_range1 (by rfl) mr (pa_cons pe_int pa_nil)) (pg_name (i := 6) scLaw.nd rfl (Or.inl rfl)) (pss_cons (ps_set (i := 7) scLaw.nd rfl (.inl rfl) (pe_ix ix_list (pv 5) (pe_call GT hr2 (by rfl) gT kT bT .nil pass0 (pa_cons (pv 3) (pa_cons pe_int pa_nil))) (fun _ _ => rfl)))
      (pss_one (ps_if (PW.pt (pw_or (pt_not (pt_val (pe_call G1 hr3 (by rfl) g1 k1 b1 .nil pass0 (pa_cons (pv 7) pa_nil)))) (pw_or (pt_not (pt_val (pe_call G2 hr3 (by rfl) g2 k2 b2 .nil pass0 (pa_cons (pv 7) pa_nil)))) (pw_or1 (pt_not (pt_val (pe_call G3 hr3 (by rfl) g3 k3 b3 .nil pass0 (pa_cons (pv 7) pa_nil)))))))) (pss_one (ps_ret pe_bl)) pss_nil)))))))))
      (pss_one (ps_ret pe_bl)))), ?_⟩
    -- huge
    refine ⟨_, _, rfl, rfl, ⟨by decide, by decide, by decide⟩, _, _, rfl, rfl, ⟨by decide, by decide +kernel⟩, _, _, rfl, rfl, ⟨by decide, by decide, by decide⟩, _, _, rfl, rfl, ⟨by decide, by decide +kernel⟩, _, _, rfl, rfl, (by show _ < _; decide +kernel), ?_⟩
    (try dsimp only)
    generalize ((10 ^ Int.toNat 64 : Int) ^ Int.toNat 64 * (10 ^ Int.toNat 64) ^ Int.toNat 15) = hg
    refine ⟨_, rfl, _, rfl, .int hg, fun H1 s1 => ⟨_, rfl, iteF ?_⟩⟩
    refine ⟨_, rfl, (by show 1 ≤ sizeLine; decide), fun p hp => ⟨_, rfl, .lst upd_same, fun H2 s2 => ⟨_, rfl, iteF ?_⟩⟩⟩
    refine ⟨_, rfl, _, rfl, _, rfl, .int _, fun H3 s3 => ⟨_, rfl, iteF ?_⟩⟩
    have S0 : Same H H3 := ((s1.trans (same1 hp)).trans s2).trans s3
    clear s1 s2 s3 hp
    -- (script + [0])[:3]
    refine ⟨_, rfl, (by show 1 ≤ sizeLine; decide), fun p0 hp0 => ?_⟩
    refine ⟨a, p0, _, _, rfl, rfl, (S0.trans (same1 hp0)).seq hS, SqL.of upd_same, (by rw [List.length_map]; show _ + 1 ≤ sizeLine; have : 1000 < sizeLine := small1000 (Nat.le_refl _); omega), fun p1 hp1 => ?_⟩
    refine ⟨3, rfl, p1, _, rfl, SqL.of upd_same, fun p2 hp2 => ?_⟩
    obtain ⟨ms, ems, hms⟩ := cut_ints (ns ++ [0]) none (some 3)
    have ecat : (ns.map V.int ++ [V.int 0]) = (ns ++ [0]).map V.int := by rw [List.map_append]; rfl
    rw [ecat, ems]
    rw [ecat] at hp2
    have S1 : Same H _ := ((S0.trans (same1 hp0)).trans (same1 hp1)).trans (same1 (o := .lst (ms.map V.int)) hp2)
    refine ⟨p2, rfl, ⟨_, SqL.of upd_same⟩, for_list (K := K) (a := p2) (xs := ms.map V.int) (fun i σ H4 => ∃ o2 o3 o4 o5 o6 o7, σ = [some (.ref a), some (.int hg), o2, o3, o4, o5, o6, o7] ∧ H4 p2 = some (.lst (ms.map V.int))) ⟨none, none, none, none, none, none, rfl, upd_same⟩
      (fun i σ H4 _ h4 => by obtain ⟨_, _, _, _, _, _, _, z⟩ := h4; exact SqL.of z) ?_ (fun σ H4 _ => q H4)⟩
    rintro i y σ H4 hi ⟨o2, o3, o4, o5, o6, o7, rfl, hl4⟩
    obtain ⟨c, rfl⟩ : ∃ c, y = V.int c := by
      obtain ⟨c, _, rfl⟩ := List.mem_map.mp (List.mem_of_getElem? hi)
      exact ⟨c, rfl⟩
    clear hi S1 S0 hp0 hp1 hp2 hS
    -- source, far
    refine ⟨_, rfl, c, rfl, fun ps x y hps hx hy => ?_⟩
    refine ⟨_, rfl, .inl ⟨_, rfl, _, _, rfl, rfl, ⟨by decide, by decide, by decide⟩, _, _, rfl, rfl, .inl ⟨by decide, by decide⟩, _, _, rfl, rfl, _, _, rfl, rfl, (by show (0 : Int) < _; decide +kernel), _, _, rfl, rfl, ⟨by decide, by decide, by decide⟩, _, _, rfl, rfl, ?_⟩⟩
    (try dsimp only)
    generalize (c % (2 * 10 ^ Int.toNat 40 + 1) - 10 ^ Int.toNat 40 : Int) = far
    -- the twelve things; Hm: the heap without the source
    have T0 : Same H4 (upd H4 ps (.lst [.int x, .int y, .int 0])) := same1 hps
    refine ⟨_, rfl, (by show 2 ≤ sizeLine; decide), fun a1 ha1 => ⟨_, rfl, (by show 1 ≤ sizeLine; decide), fun a2 ha2 => fun a3 ha3 => ⟨upd_same, [(Sum.inr "b", .int 1)], rfl, (by decide), (by show 2 ≤ sizeLine; decide), fun a4 ha4 => ⟨(by show 2 ≤ sizeLine; decide), fun a5 ha5 => ?_⟩⟩⟩⟩
    refine ⟨_, rfl, _, _, rfl, rfl, ⟨by decide, by decide, by decide⟩, fun a6 ha6 => ⟨(by show 12 ≤ sizeLine; decide), fun pl hpl => ?_⟩⟩
    have em : mergeK [] [((Sum.inr "b" : Key), V.int 1)] = [((Sum.inr "b" : Key), V.int 1)] := by rfl
    have f1 := T0.free ha1
    have T1 := same_upd2 (a := a1) (o := .tup [.int 0, .int 1]) T0
    have f2 := T1.free ha2
    have T2 := same_upd2 (a := a2) (o := .lst [.int far]) T1
    have f3 := T2.free ha3
    have T3 := same_upd2 (a := a3) (o := .dK (mergeK [] [((Sum.inr "b" : Key), V.int 1)])) (same_upd2 (a := a3) (o := .dK []) T2)
    have f4 := T3.free ha4
    have T4 := same_upd2 (a := a4) (o := .tup [.int 2, .int 1]) T3
    have f5 := T4.free ha5
    have T5 := same_upd2 (a := a5) (o := .tup [.ref a4, .int 7]) T4
    have f6 := T5.free ha6
    have T6 := same_upd2 (a := a6) (o := .dK []) T5
    have f7 := T6.free hpl
    have T7 := same_upd2 (a := pl) (o := .lst [.int far, .str "A", .str "", .non, .bl true, .ref a1, .ref a2, .ref a3, .ref a5, .int (-1), .int (10 ^ Int.toNat 20), .ref a6]) T6
    have U0 := same1 (o := .tup [.int 0, .int 1]) f1
    have U1 := same1 (o := .lst [.int far]) f2
    have U2 : Same _ (upd (upd (upd (upd H4 a1 (.tup [.int 0, .int 1])) a2 (.lst [.int far])) a3 (.dK [])) a3 (.dK (mergeK [] [((Sum.inr "b" : Key), V.int 1)]))) := fun b x e => by
      rw [upd_ne (ne_of_none e f3), upd_ne (ne_of_none e f3)]
      exact e
    have U3 := same1 (o := .tup [.int 2, .int 1]) f4
    have U4 := same1 (o := .tup [.ref a4, .int 7]) f5
    have U5 := same1 (o := .dK []) f6
    have U6 := same1 (o := .lst [.int far, .str "A", .str "", .non, .bl true, .ref a1, .ref a2, .ref a3, .ref a5, .int (-1), .int (10 ^ Int.toNat 20), .ref a6]) f7
    have hgs : (upd H4 ps (.lst [.int x, .int y, .int 0])) ps = some (.lst [.int x, .int y, .int 0]) := upd_same
    have n1 := ne_of_none hgs ha1
    have q1 := same1 (o := .tup [.int 0, .int 1]) ha1 _ _ hgs
    have n2 := ne_of_none q1 ha2
    have q2 := same1 (o := .lst [.int far]) ha2 _ _ q1
    have n3 := ne_of_none q2 ha3
    have q3 := (fun b x e => by
      rw [upd_ne (ne_of_none e ha3), upd_ne (ne_of_none e ha3)]
      exact e : Same _ (upd (upd _ a3 (.dK [])) a3 (.dK (mergeK [] [((Sum.inr "b" : Key), V.int 1)])))) _ _ q2
    have n4 := ne_of_none q3 ha4
    have q4 := same1 (o := .tup [.int 2, .int 1]) ha4 _ _ q3
    have n5 := ne_of_none q4 ha5
    have q5 := same1 (o := .tup [.ref a4, .int 7]) ha5 _ _ q4
    have n6 := ne_of_none q5 ha6
    have q6 := same1 (o := .dK []) ha6 _ _ q5
    have n7 := ne_of_none q6 hpl
    have q7 := same1 (o := .lst [.int far, .str "A", .str "", .non, .bl true, .ref a1, .ref a2, .ref a3, .ref a5, .int (-1), .int (10 ^ Int.toNat 20), .ref a6]) hpl _ _ q6
    have V5 := U5.trans U6
    have V4 := U4.trans V5
    have V3 := U3.trans V4
    have V2 := U2.trans V3
    have V1 := U1.trans V2
    generalize hM : upd (upd (upd (upd (upd (upd (upd (upd H4 a1 (.tup [.int 0, .int 1])) a2 (.lst [.int far])) a3 (.dK [])) a3 (.dK (mergeK [] [((Sum.inr "b" : Key), V.int 1)]))) a4 (.tup [.int 2, .int 1])) a5 (.tup [.ref a4, .int 7])) a6 (.dK [])) pl (.lst [.int far, .str "A", .str "", .non, .bl true, .ref a1, .ref a2, .ref a3, .ref a5, .int (-1), .int (10 ^ Int.toNat 20), .ref a6]) = M at *
    have hT : ∀ y ∈ [V.int far, .str "A", .str "", .non, .bl true, .ref a1, .ref a2, .ref a3, .ref a5, .int (-1), .int (10 ^ Int.toNat 20), .ref a6], Thing M y := by
      intro y hy
      simp only [List.mem_cons, List.not_mem_nil, or_false] at hy
      rcases hy with rfl | rfl | rfl | rfl | rfl | rfl | rfl | rfl | rfl | rfl | rfl | rfl
      · exact .int _
      · exact .str _
      · exact .str _
      · exact .non
      · exact .bl _
      · exact .tup (V1 _ _ upd_same)
      · exact .lst (V2 _ _ upd_same)
      · exact .one (V3 _ _ (by rw [upd_same, em]))
      · exact .deep (V5 _ _ upd_same) (V4 _ _ upd_same)
      · exact .int _
      · exact .int _
      · exact .nil (U6 _ _ upd_same)
    have hplM : M pl = some (.lst [.int far, .str "A", .str "", .non, .bl true, .ref a1, .ref a2, .ref a3, .ref a5, .int (-1), .int (10 ^ Int.toNat 20), .ref a6]) := by rw [← hM]; exact upd_same
    have hp2M : M p2 = some (.lst (ms.map V.int)) := (U0.trans V1) _ _ hl4
    have nps : M ps = none := by
      rw [← hM, upd_ne n7, upd_ne n6, upd_ne n5, upd_ne n4, upd_ne n3, upd_ne n3, upd_ne n2, upd_ne n1]
      exact hps
    refine ⟨4, rfl, by decide, by decide, for_range (lo := 0) (n := 4) (fun i σ H5 => ∃ o6 o7 x z, σ = [some (.ref a), some (.int hg), some (.int c), some (.ref ps), some (.int far), some (.ref pl), o6, o7] ∧ Same M H5 ∧ H5 ps = some (.lst [.int x, .int y, .int z]) ∧ 0 ≤ z ∧ z ≤ (i : Int))
      ⟨_, _, x, 0, rfl, T7, q7, by decide, by decide⟩ ?_ ?_⟩
    · rintro i σ H5 hi ⟨o6, o7, x', z, rfl, sm, hps5, hz0, hz1⟩
      refine ⟨_, rfl, _, rfl, ps, x', y, z, 12, rfl, hps5, hz0, by omega, by decide, by decide, fun r x2 z2 hr0 hr1 hz2 hz3 => ?_⟩
      have SH : Same M (upd H5 ps (.lst [.int x2, .int y, .int z2])) := fun b o e => by
        rw [upd_ne (ne_of_none e nps)]
        exact sm _ _ e
      obtain ⟨v, hv, tv⟩ := thing_at hT hr0 (by show r < 12; exact hr1)
      refine ⟨pl, _, _, v, rfl, rfl, SqL.of (SH _ _ hplM), hv, ?_⟩
      refine ⟨_, rfl, v, rfl, tv.same SH, fun H7 s7 => ⟨_, rfl, iteF ⟨_, rfl, v, rfl, tv.same (SH.trans s7), fun H8 s8 => ⟨_, rfl, iteF ⟨_, rfl, v, rfl, tv.same ((SH.trans s7).trans s8), fun H9 s9 => ⟨_, rfl, iteF ?_⟩⟩⟩⟩⟩⟩
      exact ⟨_, _, x2, z2, rfl, ((SH.trans s7).trans s8).trans s9, s9 _ _ (s8 _ _ (s7 _ _ upd_same)), hz2, by omega⟩
    · rintro σ H5 ⟨o6, o7, x', z, rfl, sm, _, _, _⟩
      exact ⟨_, _, _, _, _, _, rfl, sm _ _ hp2M⟩
end
end K05

set_option maxHeartbeats 8000000
namespace K05
open PySem PySem.Spec PyProof.Rows L2 PySem.Err
abbrev tailVE (R : Addr) : List Value := [.ref R, .type "ValueError", .type "Exception", .type "BaseException", .type "object"]
/-- the class x of the package stands at C, with the fields fl -/
structure EF (P : Program) (w : World) (K : PySem.W.Frag) (mg : Str → Option Value) (R : Addr) (x : Str) (fl : List Str) (C : Addr) : Prop where
  o : ∃ q N bs sn sub ab col dd k0 k1 k2 k3 k5, K.lookup C = some (excClassObj x q C N bs (tailVE R) true sn sub ab col dd k0 k1 k2 k3 k5 "ValueError.__new__")
  t : PySem.W.typeIn K (.ref C) = some (.type "type")
  k : ErrK P w K mg x C fl
section
variable {P : Program} {w : World} {K : PySem.W.Frag} {mg : Str → Option Value} {R C : Addr} {x : Str} {fl : List Str}
variable {q : Str} {N : Addr} {bs : List Value} {sn : List Str} {sub : List Value} {ab : Bool} {col : Option Bool} {dd : Option Addr} {k0 k1 k2 k3 k5 : Option Value}
theorem cls_of (h : K.lookup C = some (excClassObj x q C N bs (tailVE R) true sn sub ab col dd k0 k1 k2 k3 k5 "ValueError.__new__")) :
    PySem.W.clsIn K C = some { name := x, bases := bs, mro := .ref C :: tailVE R, ns := N, qualname := q, hasDict := true, slotNames := sn, subclasses := sub, abstract := ab, collection := col, hasDel := false } := by unfold PySem.W.clsIn; rw [h] <;> rfl
theorem mro_of (h : K.lookup C = some (excClassObj x q C N bs (tailVE R) true sn sub ab col dd k0 k1 k2 k3 k5 "ValueError.__new__")) (b : Value) : PySem.W.mroIn K C b = some ((Value.ref C :: tailVE R).contains b) := by
  unfold PySem.W.mroIn
  rw [cls_of h, Option.bind_some]
  rfl
theorem EF.kit (E : EF P w K mg R x fl C) {D : Addr} (hD : (PySem.W.clsIn K D).isSome = true) (tD : PySem.W.typeIn K (.ref D) = some (.type "type")) : PySem.W.kitOne K (.ref C) (.ref D) = some (decide (C = D) || decide (R = D)) := by
  obtain ⟨q, N, bs, sn, sub, ab, col, dd, k0, k1, k2, k3, k5, h⟩ := E.o
  unfold PySem.W.kitOne
  by_cases e : C = D
  · subst e
    simp
  · have e1 : (Value.ref C == Value.ref D) = false := by simp [e]
    rw [e1, if_neg Bool.false_ne_true]
    have e2 : ((PySem.W.clsIn K D).isSome && PySem.W.typeIn K (.ref D) == some (.type "type")) = true := by rw [hD, tD] <;> rfl
    show (if ((PySem.W.clsIn K D).isSome && PySem.W.typeIn K (.ref D) == some (.type "type")) = true then PySem.W.subIn K (.ref C) (.ref D) else none) = _
    rw [if_pos e2]
    show PySem.W.mroIn K C (.ref D) = _
    rw [mro_of h]
    by_cases r : R = D
    · subst r
      simp
    · simp [e, r, Ne.symm e, Ne.symm r, eq_comm]
theorem EF.kitV (E : EF P w K mg R x fl C) : PySem.W.kitOne K (.ref C) (.type "ValueError") = some true := by
  obtain ⟨q, N, bs, sn, sub, ab, col, dd, k0, k1, k2, k3, k5, h⟩ := E.o
  unfold PySem.W.kitOne
  rw [if_neg (by simp)]
  show (if PySem.W.kitMeta "ValueError" = true then PySem.W.subIn K (.ref C) (.type "ValueError") else none) = _
  rw [if_pos (by decide +kernel)]
  show PySem.W.mroIn K C (.type "ValueError") = _
  rw [mro_of h]
  simp
theorem EF.isC (E : EF P w K mg R x fl C) : (PySem.W.clsIn K C).isSome = true := by
  obtain ⟨q, N, bs, sn, sub, ab, col, dd, k0, k1, k2, k3, k5, h⟩ := E.o
  rw [cls_of h] <;> rfl
theorem EF.one {f : Str} (E : EF P w K mg R x [f] C) (hR : (PySem.W.clsIn K R).isSome = true) (tR : PySem.W.typeIn K (.ref R) = some (.type "type")) : One P w K mg R x f C := ⟨E.k, by rw [E.kit hR tR]; simp, E.kitV⟩
theorem EF.two {f g : Str} (E : EF P w K mg R x [f, g] C) (hR : (PySem.W.clsIn K R).isSome = true) (tR : PySem.W.typeIn K (.ref R) = some (.type "type")) : Two P w K mg R x f g C := ⟨E.k, by rw [E.kit hR tR]; simp, E.kitV⟩
/-- two classes of unlike names stand apart -/
theorem EF.ne {y : Str} {gl : List Str} {D : Addr} (E : EF P w K mg R x fl C) (F : EF P w K mg R y gl D) (h : (x == y) = false) : C ≠ D := fun z => by
  subst z
  obtain ⟨q, N, bs, sn, sub, ab, col, dd, k0, k1, k2, k3, k5, e1⟩ := E.o
  obtain ⟨q', N', bs', sn', sub', ab', col', dd', k0', k1', k2', k3', k5', e2⟩ := F.o
  have z := (cls_of e1).symm.trans (cls_of e2)
  have z2 := congrArg ClassData.name (Option.some.inj z)
  have z3 : x = y := z2
  rw [z3] at h
  simp at h
/-- the base is none of them -/
theorem EF.notR {cd : ClassData} (E : EF P w K mg R x fl C) (h : PySem.W.clsIn K R = some cd) (hx : (x == cd.name) = false) : ¬ R = C := fun z => by
  subst z
  obtain ⟨q, N, bs, sn, sub, ab, col, dd, k0, k1, k2, k3, k5, e⟩ := E.o
  have z2 := congrArg ClassData.name (Option.some.inj ((cls_of e).symm.trans h))
  have z3 : x = cd.name := z2
  rw [z3] at hx
  simp at hx
/-- what the written part says of one error class, whatever its fields -/
structure Raw (P : Program) (K : PySem.W.Frag) (mg : Str → Option Value) (R : Addr) (x qual : Str) (C fI cc cda : Addr) (ar : Arguments) (body : List Stmt) (sc : Scope) (fd : FuncData) : Prop where
  g : mg x = some (.ref C)
  o : ∃ q N bs sn sub ab col dd k0 k1 k2 k3 k5, K.lookup C = some (excClassObj x q C N bs (tailVE R) true sn sub ab col dd k0 k1 k2 k3 k5 "ValueError.__new__")
  al : PySem.W.ks_superIn K C C "__init__" = some (some (.builtin "ValueError.__init__"))
  sa : PySem.W.findIn K (.ref C) "__setattr__" = some (some (.builtin "object.__setattr__"))
  ga : PySem.W.findIn K (.ref C) "__getattribute__" = some (some (.builtin "BaseException.__getattribute__"))
  gg : PySem.W.findIn K (.ref C) "__getattr__" = some none
  iC : PySem.W.findIn K (.ref C) "__init__" = some (some (.ref fI))
  tI : PySem.W.typeIn K (.ref fI) = some (.type "function")
  kC : PySem.W.keepIn K (.ref C) = true
  tC : PySem.W.typeIn K (.ref C) = some (.type "type")
  ha : PySem.W.findIn K (.ref C) "__class__" = some (some (.builtin "object.__class__"))
  hn : PySem.W.specialIn K (.builtin "object.__class__") "__get__" = some (some (.builtin "getset_descriptor.__get__"))
  ht : PySem.W.takesIn K (.builtin "object.__class__") = some true
  op : PySem.W.nsIn K cStatics "thirdparty.any" = some none
  top : (P.main.scope.names.lookup ("super" : Str)).isSome = false
  cel : ∃ cl cld csl, K.lookup cc = some ⟨cl, cld, .cell (some (.ref C)), csl⟩
  cod : ∃ ccl cdd vs ccs file tf, K.lookup cda = some ⟨ccl, cdd, .fields vs, ccs⟩ ∧ vs[2]? = some (.str file tf) ∧ ((P.main.file : Str) == file) = true
  fn : (∃ oc od osl, K.lookup fI = some ⟨oc, od, .func fd, osl⟩) ∧ (∃ doc pm an ct, fd = PySem.W.ksFn "__init__" qual ar body sc .none .none doc pm an (.ref cda) ct cc) ∧ PySem.W.codeIn K (.ref cda) qual = true
  sup : mg "super" = none
variable {qual : Str} {fI cc cda : Addr} {ar : Arguments} {body : List Stmt} {sc : Scope} {fd : FuncData}
theorem Raw.txt (W : Raw P K mg R x qual C fI cc cda ar body sc fd) : ErrTxt P K C fI cc cda qual ar body sc fd := by
  obtain ⟨q, N, bs, sn, sub, ab, col, dd, k0, k1, k2, k3, k5, h⟩ := id W.o
  have al := W.al
  unfold PySem.W.ks_superIn at al
  rw [cls_of h, Option.bind_some] at al
  have e : ((Value.ref C :: tailVE R).dropWhile (· != .ref C)).drop 1 = tailVE R := by simp [List.dropWhile_cons]
  rw [e] at al
  exact { cls := ⟨x, q, N, bs, tailVE R, sn, sub, ab, col, dd, k0, k1, k2, k3, k5, h, rfl, al⟩, sa := W.sa, iC := W.iC, tC := W.tI, kC := W.kC, sVE := (mro_of h _).trans (by simp), exC := (mro_of h _).trans (by simp), tyC := W.tC, mC := (mro_of h _).trans (by simp), op := W.op, top := W.top, cel := W.cel, cod := W.cod, fn := W.fn }
theorem m_one {f : Str} {v : Value} : (fun y => (([f].zip [v]).reverse).lookup y) = fun y => if y = f then some v else none := by
  funext y
  show List.lookup y [(f, v)] = _
  rw [lookup_cons_if]
  rfl
theorem m_two {f g : Str} {u v : Value} : (fun y => (([f, g].zip [u, v]).reverse).lookup y) = fun y => if y = g then some v else if y = f then some u else none := by
  funext y
  show List.lookup y [(g, v), (f, u)] = _
  rw [lookup_cons_if, lookup_cons_if]
  rfl
theorem len_small {us : List Value} {n : Nat} (h : us.length = n) (hn : n ≤ 1000) : us.length ≤ sizeLine := by
  rw [h]
  exact Nat.le_of_lt (small1000 hn)
theorem Raw.ef (W : Raw P K mg R x qual C fI cc cda ar body sc fd) (no : ∀ f ∈ fl, PySem.W.findIn K (.ref C) f = some none)
    (mk : ∀ {A : Around} {R : Result → Shared → Prop} {s : Shared} {us : List Value} {pos : List Value} {kw : List (Str × Value)}, Bd fl pos kw us → K.In s.heap → PySem.Err.Names s.heap mg → s.heap.NoLimit → A.depth + 1 < recursionLimit →
      (∀ h' tk e d, PySem.Err.Made s.heap h' e C d (fun y => (fl.zip us).reverse.lookup y) → R (.ok (.ret (.ref e))) { s with heap := h', toks := tk }) → codeAny (model P w) A (.call (.ref C) ⟨pos, kw⟩) R s) : EF P w K mg R x fl C := by
  obtain ⟨q, N, bs, sn, sub, ab, col, dd, k0, k1, k2, k3, k5, h⟩ := id W.o
  exact ⟨W.o, W.tC, { gC := W.g, kC := W.kC, made := mk, ga := W.ga, gg := W.gg, exC := W.txt.exC, hdC := (by unfold PySem.W.hasDictIn; rw [cls_of h]; rfl), noN := no, cls := (by rw [cls_of h]; rfl), ha := W.ha, hn := W.hn, ht := W.ht, hm := (mro_of h _).trans (by simp), sup := W.sup }⟩
theorem ef1 {f txt : Str} {kk : Nat} {ps pf p0 p1 p2 p3 p4 p5 q1 q2 q3 q4 : Pos} (W : Raw P K mg R x qual C fI cc cda (iA [(f, pf)] ps) [iSup txt kk p0 p1 p2 p3 p4 p5, iSet f q1 q2 q3 q4] (iS [f]) fd) (Fo : FOk f) (no : PySem.W.findIn K (.ref C) f = some none)
    (hp : (p2.endLine == p4.line) = true) (bp : ∀ (s : Shared) (u v : Value), BindsTo s fd ⟨[u, v], []⟩ [("self", u), (f, v)]) (bk : ∀ (s : Shared) (u v : Value), BindsTo s fd ⟨[u], [(f, v)]⟩ [("self", u), (f, v)]) : EF P w K mg R x [f] C := by
  refine W.ef (fun g hg => by rw [List.mem_singleton.mp hg]; exact no) @fun A R' s us pos kw hb X G hlim hroom hq => ?_
  cases hb with
  | pos _ hl =>
    match us, hl with
    | [v], _ =>
      refine made_of W.txt (m := fun y => if y = f then some v else none) X (len_small (n := 1) rfl (by decide)) (fun y t0 h A' R' k hy hny hd hq' => ?_) (fun h' tk e d M => hq h' tk e d (by rw [m_one]; exact M))
      exact err_init1 (s := { s with heap := h }) W.txt Fo no hp (X.keeps k) (G.keeps k) (hlim.keeps k) hy hny (by omega) (bp _ _ _) hq'
  | kw _ hl =>
    match us, hl with
    | [v], _ =>
      refine made_of W.txt (m := fun y => if y = f then some v else none) X (len_small (n := 0) rfl (by decide)) (fun y t0 h A' R' k hy hny hd hq' => ?_) (fun h' tk e d M => hq h' tk e d (by rw [m_one]; exact M))
      exact err_init1 (s := { s with heap := h }) W.txt Fo no hp (X.keeps k) (G.keeps k) (hlim.keeps k) hy hny (by omega) (bk _ _ _) hq'
  | rev f' g' a b e => cases e
theorem ef2 {f g txt : Str} {kk : Nat} {ps pf pg p0 p1 p2 p3 p4 p5 q1 q2 q3 q4 r1 r2 r3 r4 : Pos} (W : Raw P K mg R x qual C fI cc cda (iA [(f, pf), (g, pg)] ps) [iSup txt kk p0 p1 p2 p3 p4 p5, iSet f q1 q2 q3 q4, iSet g r1 r2 r3 r4] (iS [f, g]) fd) (Fo : FOk f) (Go : FOk g) (h1 : (f == g) = false) (h2 : (g == f) = false)
    (no : PySem.W.findIn K (.ref C) f = some none) (no2 : PySem.W.findIn K (.ref C) g = some none) (hp : (p2.endLine == p4.line) = true) (bp : ∀ (s : Shared) (u v v' : Value), BindsTo s fd ⟨[u, v, v'], []⟩ [("self", u), (f, v), (g, v')])
    (bk : ∀ (s : Shared) (u v v' : Value), BindsTo s fd ⟨[u], [(f, v), (g, v')]⟩ [("self", u), (f, v), (g, v')]) (br : ∀ (s : Shared) (u v v' : Value), BindsTo s fd ⟨[u], [(g, v'), (f, v)]⟩ [("self", u), (f, v), (g, v')]) : EF P w K mg R x [f, g] C := by
  refine W.ef (fun y hy => by
    rcases List.mem_cons.mp hy with e | hy
    · rw [e]; exact no
    · rw [List.mem_singleton.mp hy]; exact no2) @fun A R' s us pos kw hb X G hlim hroom hq => ?_
  cases hb with
  | pos _ hl =>
    match us, hl with
    | [v, v'], _ =>
      refine made_of W.txt (m := fun y => if y = g then some v' else if y = f then some v else none) X (len_small (n := 2) rfl (by decide)) (fun y t0 h A' R' k hy hny hd hq' => ?_) (fun h' tk e d M => hq h' tk e d (by rw [m_two]; exact M))
      exact err_init2 (s := { s with heap := h }) W.txt Fo Go h1 h2 no no2 hp (X.keeps k) (G.keeps k) (hlim.keeps k) hy hny (by omega) (bp _ _ _ _) hq'
  | kw _ hl =>
    match us, hl with
    | [v, v'], _ =>
      refine made_of W.txt (m := fun y => if y = g then some v' else if y = f then some v else none) X (len_small (n := 0) rfl (by decide)) (fun y t0 h A' R' k hy hny hd hq' => ?_) (fun h' tk e d M => hq h' tk e d (by rw [m_two]; exact M))
      exact err_init2 (s := { s with heap := h }) W.txt Fo Go h1 h2 no no2 hp (X.keeps k) (G.keeps k) (hlim.keeps k) hy hny (by omega) (bk _ _ _ _) hq'
  | rev f' g' a b e =>
    obtain ⟨rfl, rfl⟩ : f = f' ∧ g = g' := by simpa using e
    refine made_of W.txt (m := fun y => if y = g then some b else if y = f then some a else none) X (len_small (n := 0) rfl (by decide)) (fun y t0 h A' R' k hy hny hd hq' => ?_) (fun h' tk e d M => hq h' tk e d (by rw [m_two]; exact M))
    exact err_init2 (s := { s with heap := h }) W.txt Fo Go h1 h2 no no2 hp (X.keeps k) (G.keeps k) (hlim.keeps k) hy hny (by omega) (br _ _ _ _) hq'
end
end K05

set_option maxHeartbeats 8000000
namespace K05
open PySem PySem.Spec PyProof.Rows L2 PySem.Err
theorem all_mk {l : PySem.W.OpenLaw} {w : World} {K : PySem.W.Frag} {h : Heap} {mg : Str → Option Value} {fa R : Addr} (X : K.In h) (G : h.Ns mainGlobals mg) (hfa : mg "law" = some (.ref fa))
    {ocR : Value} {odR : Option Addr} {bsR mroR subR : List Value} {nR : Addr} {quR : Str} {hdR abR delR : Bool} {snR : List Str} {colR : Option Bool} {slR : Array (Option Value)}
    (lR : K.lookup R = some ⟨ocR, odR, .cls { name := "RightsError", bases := bsR, mro := mroR, ns := nR, qualname := quR, hasDict := hdR, slotNames := snR, subclasses := subR, abstract := abR, collection := colR, hasDel := delR }, slR⟩) (tR : PySem.W.typeIn K (.ref R) = some (.type "type")) (gR : PySem.W.nsIn K mainGlobals "RightsError" = some (some (.ref R)))
    (E1 : ∃ C, EF l.prog w K mg R "InvalidSchema" ["path"] C) (E2 : ∃ C, EF l.prog w K mg R "CircularBut" ["kind", "relation"] C) (E3 : ∃ C, EF l.prog w K mg R "InvalidState" ["index"] C)
    (E4 : ∃ C, EF l.prog w K mg R "InvalidObject" ["value"] C) (E5 : ∃ C, EF l.prog w K mg R "InvalidUser" ["value"] C) (E6 : ∃ C, EF l.prog w K mg R "InvalidRelation" ["relation"] C)
    (E7 : ∃ C, EF l.prog w K mg R "InvalidKind" ["kind"] C) (E8 : ∃ C, EF l.prog w K mg R "InvalidNumber" ["name"] C) (E9 : ∃ C, EF l.prog w K mg R "InvalidChange" ["index"] C)
    (E10 : ∃ C, EF l.prog w K mg R "InvalidToken" ["token"] C) (E11 : ∃ C, EF l.prog w K mg R "InvalidTree" ["path"] C) (E12 : ∃ C, EF l.prog w K mg R "InvalidRules" ["index"] C)
    (E13 : ∃ C, EF l.prog w K mg R "InvalidText" ["place"] C) (E14 : ∃ C, EF l.prog w K mg R "TooLarge" ["limit"] C) (E15 : ∃ C, EF l.prog w K mg R "Mismatch" ["name"] C)
    {f1 f2 f3 f4 f5 f6 f7 f8 : Addr} {od1 an1 od2 an2 od3 an3 od4 an4 od5 an5 od6 an6 od7 an7 od8 an8 : Option Addr} {sl1 sl2 sl3 sl4 sl5 sl6 sl7 sl8 : Array (Option Value)}
    {oc1 kV1 dc1 pm1 cd1 ct1 oc2 kV2 dc2 pm2 cd2 ct2 oc3 kV3 dc3 pm3 cd3 ct3 oc4 kV4 dc4 pm4 cd4 ct4 oc5 kV5 dc5 pm5 cd5 ct5 oc6 kV6 dc6 pm6 cd6 ct6 oc7 kV7 dc7 pm7 cd7 ct7 oc8 kV8 dc8 pm8 cd8 ct8 : Value}
    (a1 : PySem.W.nsIn K mainGlobals "_law_mixed" = some (some (.ref f1))) (l1 : K.lookup f1 = some ⟨oc1, od1, .func (PySem.W.fnOf "_law_mixed" "_law_mixed" (defArgs sMixed) (defBody sMixed) (defScope sMixed) .none kV1 dc1 pm1 an1 cd1 ct1), sl1⟩) (c1 : PySem.W.codeIn K cd1 "_law_mixed" = true) (k1 : PySem.W.keepIn K (.ref f1) = true)
    (a2 : PySem.W.nsIn K mainGlobals "_law_source" = some (some (.ref f2))) (l2 : K.lookup f2 = some ⟨oc2, od2, .func (PySem.W.fnOf "_law_source" "_law_source" (defArgs sSource) (defBody sSource) (defScope sSource) .none kV2 dc2 pm2 an2 cd2 ct2), sl2⟩) (c2 : PySem.W.codeIn K cd2 "_law_source" = true) (k2 : PySem.W.keepIn K (.ref f2) = true)
    (a3 : PySem.W.nsIn K mainGlobals "_law_take" = some (some (.ref f3))) (l3 : K.lookup f3 = some ⟨oc3, od3, .func (PySem.W.fnOf "_law_take" "_law_take" (defArgs sTake) (defBody sTake) (defScope sTake) .none kV3 dc3 pm3 an3 cd3 ct3), sl3⟩) (c3 : PySem.W.codeIn K cd3 "_law_take" = true) (k3 : PySem.W.keepIn K (.ref f3) = true)
    (a4 : PySem.W.nsIn K mainGlobals "_law_is_error" = some (some (.ref f4))) (l4 : K.lookup f4 = some ⟨oc4, od4, .func (PySem.W.fnOf "_law_is_error" "_law_is_error" (defArgs sIsErr) (defBody sIsErr) (defScope sIsErr) .none kV4 dc4 pm4 an4 cd4 ct4), sl4⟩) (c4 : PySem.W.codeIn K cd4 "_law_is_error" = true) (k4 : PySem.W.keepIn K (.ref f4) = true)
    (a5 : PySem.W.nsIn K mainGlobals "_law_first_errors" = some (some (.ref f5))) (l5 : K.lookup f5 = some ⟨oc5, od5, .func (PySem.W.fnOf "_law_first_errors" "_law_first_errors" (defArgs sFirst) (defBody sFirst) (defScope sFirst) .none kV5 dc5 pm5 an5 cd5 ct5), sl5⟩) (c5 : PySem.W.codeIn K cd5 "_law_first_errors" = true) (k5 : PySem.W.keepIn K (.ref f5) = true)
    (a6 : PySem.W.nsIn K mainGlobals "_law_last_errors" = some (some (.ref f6))) (l6 : K.lookup f6 = some ⟨oc6, od6, .func (PySem.W.fnOf "_law_last_errors" "_law_last_errors" (defArgs sLast) (defBody sLast) (defScope sLast) .none kV6 dc6 pm6 an6 cd6 ct6), sl6⟩) (c6 : PySem.W.codeIn K cd6 "_law_last_errors" = true) (k6 : PySem.W.keepIn K (.ref f6) = true)
    (a7 : PySem.W.nsIn K mainGlobals "_law_apart" = some (some (.ref f7))) (l7 : K.lookup f7 = some ⟨oc7, od7, .func (PySem.W.fnOf "_law_apart" "_law_apart" (defArgs sApart) (defBody sApart) (defScope sApart) .none kV7 dc7 pm7 an7 cd7 ct7), sl7⟩) (c7 : PySem.W.codeIn K cd7 "_law_apart" = true) (k7 : PySem.W.keepIn K (.ref f7) = true)
    (a8 : PySem.W.nsIn K mainGlobals "law" = some (some (.ref f8))) (l8 : K.lookup f8 = some ⟨oc8, od8, .func (PySem.W.fnOf "law" "law" (defArgs sLaw) (defBody sLaw) (defScope sLaw) .none kV8 dc8 pm8 an8 cd8 ct8), sl8⟩) (c8 : PySem.W.codeIn K cd8 "law" = true) (k8 : PySem.W.keepIn K (.ref f8) = true)
    (z1 : PySem.W.nsIn K mainGlobals "int" = some none) (z2 : PySem.W.nsIn K mainGlobals "abs" = some none) (z3 : PySem.W.nsIn K mainGlobals "all" = some none) (z4 : PySem.W.nsIn K mainGlobals "isinstance" = some none)
    (z5 : PySem.W.nsIn K mainGlobals "bool" = some none) (z6 : PySem.W.nsIn K mainGlobals "ValueError" = some none) (z7 : PySem.W.nsIn K mainGlobals "range" = some none) :
    ∃ fd : FuncData, (∀ (s : Shared) (v : Value), BindsTo s fd ⟨[v], []⟩ [("script", v)]) ∧ ∀ base : Heap, K.In base → base.Ns mainGlobals mg → FnOk l.prog w K mg base CX0 4 fa fd ["script"] (spLaw K) := by
  have cR : PySem.W.clsIn K R = some { name := "RightsError", bases := bsR, mro := mroR, ns := nR, qualname := quR, hasDict := hdR, slotNames := snR, subclasses := subR, abstract := abR, collection := colR, hasDel := delR } := by unfold PySem.W.clsIn; rw [lR]
  have hR : (PySem.W.clsIn K R).isSome = true := by rw [cR]; rfl
  have e := hfa.symm.trans (PySem.W.mg_of X G a8)
  cases e
  have mi := PySem.W.mg_none_of X G z1
  have mab := PySem.W.mg_none_of X G z2
  have mal := PySem.W.mg_none_of X G z3
  have mis := PySem.W.mg_none_of X G z4
  have mbo := PySem.W.mg_none_of X G z5
  have mve := PySem.W.mg_none_of X G z6
  have mra := PySem.W.mg_none_of X G z7
  obtain ⟨C1, E1⟩ := E1
  obtain ⟨C2, E2⟩ := E2
  obtain ⟨C3, E3⟩ := E3
  obtain ⟨C4, E4⟩ := E4
  obtain ⟨C5, E5⟩ := E5
  obtain ⟨C6, E6⟩ := E6
  obtain ⟨C7, E7⟩ := E7
  obtain ⟨C8, E8⟩ := E8
  obtain ⟨C9, E9⟩ := E9
  obtain ⟨C10, E10⟩ := E10
  obtain ⟨C11, E11⟩ := E11
  obtain ⟨C12, E12⟩ := E12
  obtain ⟨C13, E13⟩ := E13
  obtain ⟨C14, E14⟩ := E14
  obtain ⟨C15, E15⟩ := E15
  have F1 := fun_mk (st := sMixed) l1 c1 k1
  have F2 := fun_mk (st := sSource) l2 c2 k2
  have F3 := fun_mk (st := sTake) l3 c3 k3
  have F4 := fun_mk (st := sIsErr) l4 c4 k4
  have F5 := fun_mk (st := sFirst) l5 c5 k5
  have F6 := fun_mk (st := sLast) l6 c6 k6
  have F7 := fun_mk (st := sApart) l7 c7 k7
  have F8 := fun_mk (st := sLaw) l8 c8 k8
  have b1 := F1.binds (ps := ["cell", "draw"]) fun _ _ _ _ _ _ us hl => match us, hl with | [_, _], _ => rfl
  have b2 := F2.binds (ps := ["cell"]) fun _ _ _ _ _ _ us hl => match us, hl with | [_], _ => rfl
  have b3 := F3.binds (ps := ["source", "bound"]) fun _ _ _ _ _ _ us hl => match us, hl with | [_, _], _ => rfl
  have b4 := F4.binds (ps := ["error", "held", "thing"]) fun _ _ _ _ _ _ us hl => match us, hl with | [_, _, _], _ => rfl
  have b5 := F5.binds (ps := ["thing"]) fun _ _ _ _ _ _ us hl => match us, hl with | [_], _ => rfl
  have b6 := F6.binds (ps := ["thing"]) fun _ _ _ _ _ _ us hl => match us, hl with | [_], _ => rfl
  have b7 := F7.binds (ps := ["thing"]) fun _ _ _ _ _ _ us hl => match us, hl with | [_], _ => rfl
  -- the classes stand apart
  have nd : [C1, C2, C3, C4, C5, C6, C7, C8, C9, C10, C11, C12, C13, C14, C15].Nodup := List.nodup_cons.mpr ⟨(by
      intro z
      simp only [List.mem_cons, List.not_mem_nil, or_false] at z
      rcases z with z | z | z | z | z | z | z | z | z | z | z | z | z | z
      · exact E1.ne E2 (by decide) z
      · exact E1.ne E3 (by decide) z
      · exact E1.ne E4 (by decide) z
      · exact E1.ne E5 (by decide) z
      · exact E1.ne E6 (by decide) z
      · exact E1.ne E7 (by decide) z
      · exact E1.ne E8 (by decide) z
      · exact E1.ne E9 (by decide) z
      · exact E1.ne E10 (by decide) z
      · exact E1.ne E11 (by decide) z
      · exact E1.ne E12 (by decide) z
      · exact E1.ne E13 (by decide) z
      · exact E1.ne E14 (by decide) z
      · exact E1.ne E15 (by decide) z
      ), List.nodup_cons.mpr ⟨(by
      intro z
      simp only [List.mem_cons, List.not_mem_nil, or_false] at z
      rcases z with z | z | z | z | z | z | z | z | z | z | z | z | z
      · exact E2.ne E3 (by decide) z
      · exact E2.ne E4 (by decide) z
      · exact E2.ne E5 (by decide) z
      · exact E2.ne E6 (by decide) z
      · exact E2.ne E7 (by decide) z
      · exact E2.ne E8 (by decide) z
      · exact E2.ne E9 (by decide) z
      · exact E2.ne E10 (by decide) z
      · exact E2.ne E11 (by decide) z
      · exact E2.ne E12 (by decide) z
      · exact E2.ne E13 (by decide) z
      · exact E2.ne E14 (by decide) z
      · exact E2.ne E15 (by decide) z
      ), List.nodup_cons.mpr ⟨(by
      intro z
      simp only [List.mem_cons, List.not_mem_nil, or_false] at z
      rcases z with z | z | z | z | z | z | z | z | z | z | z | z
      · exact E3.ne E4 (by decide) z
      · exact E3.ne E5 (by decide) z
      · exact E3.ne E6 (by decide) z
      · exact E3.ne E7 (by decide) z
      · exact E3.ne E8 (by decide) z
      · exact E3.ne E9 (by decide) z
      · exact E3.ne E10 (by decide) z
      · exact E3.ne E11 (by decide) z
      · exact E3.ne E12 (by decide) z
      · exact E3.ne E13 (by decide) z
      · exact E3.ne E14 (by decide) z
      · exact E3.ne E15 (by decide) z
      ), List.nodup_cons.mpr ⟨(by
      intro z
      simp only [List.mem_cons, List.not_mem_nil, or_false] at z
      rcases z with z | z | z | z | z | z | z | z | z | z | z
      · exact E4.ne E5 (by decide) z
      · exact E4.ne E6 (by decide) z
      · exact E4.ne E7 (by decide) z
      · exact E4.ne E8 (by decide) z
      · exact E4.ne E9 (by decide) z
      · exact E4.ne E10 (by decide) z
      · exact E4.ne E11 (by decide) z
      · exact E4.ne E12 (by decide) z
      · exact E4.ne E13 (by decide) z
      · exact E4.ne E14 (by decide) z
      · exact E4.ne E15 (by decide) z
      ), List.nodup_cons.mpr ⟨(by
      intro z
      simp only [List.mem_cons, List.not_mem_nil, or_false] at z
      rcases z with z | z | z | z | z | z | z | z | z | z
      · exact E5.ne E6 (by decide) z
      · exact E5.ne E7 (by decide) z
      · exact E5.ne E8 (by decide) z
      · exact E5.ne E9 (by decide) z
      · exact E5.ne E10 (by decide) z
      · exact E5.ne E11 (by decide) z
      · exact E5.ne E12 (by decide) z
      · exact E5.ne E13 (by decide) z
      · exact E5.ne E14 (by decide) z
      · exact E5.ne E15 (by decide) z
      ), List.nodup_cons.mpr ⟨(by
      intro z
      simp only [List.mem_cons, List.not_mem_nil, or_false] at z
      rcases z with z | z | z | z | z | z | z | z | z
      · exact E6.ne E7 (by decide) z
      · exact E6.ne E8 (by decide) z
      · exact E6.ne E9 (by decide) z
      · exact E6.ne E10 (by decide) z
      · exact E6.ne E11 (by decide) z
      · exact E6.ne E12 (by decide) z
      · exact E6.ne E13 (by decide) z
      · exact E6.ne E14 (by decide) z
      · exact E6.ne E15 (by decide) z
      ), List.nodup_cons.mpr ⟨(by
      intro z
      simp only [List.mem_cons, List.not_mem_nil, or_false] at z
      rcases z with z | z | z | z | z | z | z | z
      · exact E7.ne E8 (by decide) z
      · exact E7.ne E9 (by decide) z
      · exact E7.ne E10 (by decide) z
      · exact E7.ne E11 (by decide) z
      · exact E7.ne E12 (by decide) z
      · exact E7.ne E13 (by decide) z
      · exact E7.ne E14 (by decide) z
      · exact E7.ne E15 (by decide) z
      ), List.nodup_cons.mpr ⟨(by
      intro z
      simp only [List.mem_cons, List.not_mem_nil, or_false] at z
      rcases z with z | z | z | z | z | z | z
      · exact E8.ne E9 (by decide) z
      · exact E8.ne E10 (by decide) z
      · exact E8.ne E11 (by decide) z
      · exact E8.ne E12 (by decide) z
      · exact E8.ne E13 (by decide) z
      · exact E8.ne E14 (by decide) z
      · exact E8.ne E15 (by decide) z
      ), List.nodup_cons.mpr ⟨(by
      intro z
      simp only [List.mem_cons, List.not_mem_nil, or_false] at z
      rcases z with z | z | z | z | z | z
      · exact E9.ne E10 (by decide) z
      · exact E9.ne E11 (by decide) z
      · exact E9.ne E12 (by decide) z
      · exact E9.ne E13 (by decide) z
      · exact E9.ne E14 (by decide) z
      · exact E9.ne E15 (by decide) z
      ), List.nodup_cons.mpr ⟨(by
      intro z
      simp only [List.mem_cons, List.not_mem_nil, or_false] at z
      rcases z with z | z | z | z | z
      · exact E10.ne E11 (by decide) z
      · exact E10.ne E12 (by decide) z
      · exact E10.ne E13 (by decide) z
      · exact E10.ne E14 (by decide) z
      · exact E10.ne E15 (by decide) z
      ), List.nodup_cons.mpr ⟨(by
      intro z
      simp only [List.mem_cons, List.not_mem_nil, or_false] at z
      rcases z with z | z | z | z
      · exact E11.ne E12 (by decide) z
      · exact E11.ne E13 (by decide) z
      · exact E11.ne E14 (by decide) z
      · exact E11.ne E15 (by decide) z
      ), List.nodup_cons.mpr ⟨(by
      intro z
      simp only [List.mem_cons, List.not_mem_nil, or_false] at z
      rcases z with z | z | z
      · exact E12.ne E13 (by decide) z
      · exact E12.ne E14 (by decide) z
      · exact E12.ne E15 (by decide) z
      ), List.nodup_cons.mpr ⟨(by
      intro z
      simp only [List.mem_cons, List.not_mem_nil, or_false] at z
      rcases z with z | z
      · exact E13.ne E14 (by decide) z
      · exact E13.ne E15 (by decide) z
      ), List.nodup_cons.mpr ⟨(by
      intro z
      simp only [List.mem_cons, List.not_mem_nil, or_false] at z
      rcases z with z
      · exact E14.ne E15 (by decide) z
      ), List.nodup_cons.mpr ⟨(by simp), List.nodup_nil⟩⟩⟩⟩⟩⟩⟩⟩⟩⟩⟩⟩⟩⟩⟩
  have hM : ∀ C ∈ [C1, C2, C3, C4, C5, C6, C7, C8, C9, C10, C11, C12, C13, C14, C15], ∀ D ∈ [C1, C2, C3, C4, C5, C6, C7, C8, C9, C10, C11, C12, C13, C14, C15], PySem.W.kitOne K (.ref C) (.ref D) = some (decide (C = D)) := by
    have any : ∀ C ∈ [C1, C2, C3, C4, C5, C6, C7, C8, C9, C10, C11, C12, C13, C14, C15], ∃ x fl, EF l.prog w K mg R x fl C ∧ (x == "RightsError") = false := by
      intro C hC
      simp only [List.mem_cons, List.not_mem_nil, or_false] at hC
      rcases hC with rfl | rfl | rfl | rfl | rfl | rfl | rfl | rfl | rfl | rfl | rfl | rfl | rfl | rfl | rfl
      · exact ⟨_, _, E1, by decide⟩
      · exact ⟨_, _, E2, by decide⟩
      · exact ⟨_, _, E3, by decide⟩
      · exact ⟨_, _, E4, by decide⟩
      · exact ⟨_, _, E5, by decide⟩
      · exact ⟨_, _, E6, by decide⟩
      · exact ⟨_, _, E7, by decide⟩
      · exact ⟨_, _, E8, by decide⟩
      · exact ⟨_, _, E9, by decide⟩
      · exact ⟨_, _, E10, by decide⟩
      · exact ⟨_, _, E11, by decide⟩
      · exact ⟨_, _, E12, by decide⟩
      · exact ⟨_, _, E13, by decide⟩
      · exact ⟨_, _, E14, by decide⟩
      · exact ⟨_, _, E15, by decide⟩
    intro C hC D hD
    obtain ⟨x, fl, E, _⟩ := any C hC
    obtain ⟨y, gl, D', hy⟩ := any D hD
    rw [E.kit D'.isC D'.t, decide_eq_false (D'.notR cR hy), Bool.or_false]
  refine ⟨PySem.W.fnOf "law" "law" (defArgs sLaw) (defBody sLaw) (defScope sLaw) .none kV8 dc8 pm8 an8 cd8 ct8, fun s v => .of_eq rfl, fun base _ _ => ?_⟩
  have G4 : FnOk l.prog w K mg base CX0 1 f4 _ ["error", "held", "thing"] (spIsErr l.prog w K mg R) := ok_isErr F4 mis mbo mve (PySem.W.mg_of X G gR)
  have g4 := PySem.W.mg_of X G a4
  exact ok_law F8
    (ok_first F5 G4 g4 F4.kp b4 mal (E1.one hR tR) (E11.one hR tR) (E3.one hR tR) (E9.one hR tR) (E12.one hR tR) (E4.one hR tR) (E5.one hR tR)) (PySem.W.mg_of X G a5) F5.kp b5
    (ok_last F6 G4 g4 F4.kp b4 mal (E8.one hR tR) (E15.one hR tR) (E6.one hR tR) (E7.one hR tR) (E10.one hR tR) (E13.one hR tR) (E14.one hR tR) (E2.two hR tR)) (PySem.W.mg_of X G a6) F6.kp b6
    (ok_apart F7 mis E1.k E2.k E3.k E4.k E5.k E6.k E7.k E8.k E9.k E10.k E11.k E12.k E13.k E14.k E15.k nd hM) (PySem.W.mg_of X G a7) F7.kp b7
    (ok_source F2 mab) (PySem.W.mg_of X G a2) F2.kp b2
    (ok_take F3 F1 b1 (PySem.W.mg_of X G a1) mi) (PySem.W.mg_of X G a3) F3.kp b3 mi mra
end K05

set_option maxHeartbeats 8000000
namespace K05
open PySem PySem.Spec PyProof.Rows L2 PySem.Err
section
variable {P : Program} {w : World} {K : PySem.W.Frag} {mg : Str → Option Value} {h : Heap} {R C fI cc cda N : Addr} {x qual q : Str} {bs : List Value} {sn : List Str} {sub : List Value} {ab : Bool} {col : Option Bool} {dd : Option Addr} {k0 k1 k2 k3 k5 : Option Value}
variable {cl ccl oc doc pm ct : Value} {cld cdd od an : Option Addr} {csl ccs osl : Array (Option Value)} {vs : Array Value} {file : Str} {tf : Tok} {f g txt : Str} {kk : Nat} {ps pf pg p0 p1 p2 p3 p4 p5 q1 q2 q3 q4 r1 r2 r3 r4 : Pos}
theorem ef1_mk (X : K.In h) (G : h.Ns mainGlobals mg) (gC : PySem.W.nsIn K mainGlobals x = some (some (.ref C)))
    (xC : K.lookup C = some (excClassObj x q C N bs (tailVE R) true sn sub ab col dd k0 k1 k2 k3 k5 "ValueError.__new__"))
    (iC : PySem.W.findIn K (.ref C) "__init__" = some (some (.ref fI)))
    (lI : K.lookup fI = some ⟨oc, od, .func (PySem.W.ksFn "__init__" qual (iA [(f, pf)] ps) [iSup txt kk p0 p1 p2 p3 p4 p5, iSet f q1 q2 q3 q4] (iS [f]) .none .none doc pm an (.ref cda) ct cc), osl⟩)
    (cel : K.lookup cc = some ⟨cl, cld, .cell (some (.ref C)), csl⟩) (cod : K.lookup cda = some ⟨ccl, cdd, .fields vs, ccs⟩) (hvs : vs[2]? = some (.str file tf)) (hfile : ((P.main.file : Str) == file) = true)
    (hcd : PySem.W.codeIn K (.ref cda) qual = true)
    (al : PySem.W.ks_superIn K C C "__init__" = some (some (.builtin "ValueError.__init__")))
    (sa : PySem.W.findIn K (.ref C) "__setattr__" = some (some (.builtin "object.__setattr__")))
    (ga : PySem.W.findIn K (.ref C) "__getattribute__" = some (some (.builtin "BaseException.__getattribute__")))
    (gg : PySem.W.findIn K (.ref C) "__getattr__" = some none) (tI : PySem.W.typeIn K (.ref fI) = some (.type "function")) (kC : PySem.W.keepIn K (.ref C) = true) (tC : PySem.W.typeIn K (.ref C) = some (.type "type"))
    (ha : PySem.W.findIn K (.ref C) "__class__" = some (some (.builtin "object.__class__"))) (hn : PySem.W.specialIn K (.builtin "object.__class__") "__get__" = some (some (.builtin "getset_descriptor.__get__"))) (ht : PySem.W.takesIn K (.builtin "object.__class__") = some true)
    (op : PySem.W.nsIn K cStatics "thirdparty.any" = some none) (top : (P.main.scope.names.lookup ("super" : Str)).isSome = false) (sup : PySem.W.nsIn K mainGlobals "super" = some none)
    (no : PySem.W.findIn K (.ref C) f = some none) (Fo : FOk f) (hp : (p2.endLine == p4.line) = true)
    (bp : ∀ (s : Shared) (u v : Value), BindsTo s (PySem.W.ksFn "__init__" qual (iA [(f, pf)] ps) [iSup txt kk p0 p1 p2 p3 p4 p5, iSet f q1 q2 q3 q4] (iS [f]) .none .none doc pm an (.ref cda) ct cc) ⟨[u, v], []⟩ [("self", u), (f, v)])
    (bk : ∀ (s : Shared) (u v : Value), BindsTo s (PySem.W.ksFn "__init__" qual (iA [(f, pf)] ps) [iSup txt kk p0 p1 p2 p3 p4 p5, iSet f q1 q2 q3 q4] (iS [f]) .none .none doc pm an (.ref cda) ct cc) ⟨[u], [(f, v)]⟩ [("self", u), (f, v)]) : ∃ C, EF P w K mg R x [f] C :=
  ⟨C, ef1 ⟨PySem.W.mg_of X G gC, ⟨q, N, bs, sn, sub, ab, col, dd, k0, k1, k2, k3, k5, xC⟩, al, sa, ga, gg, iC, tI, kC, tC, ha, hn, ht, op, top, ⟨cl, cld, csl, cel⟩, ⟨ccl, cdd, vs, ccs, file, tf, cod, hvs, hfile⟩, ⟨⟨oc, od, osl, lI⟩, ⟨doc, pm, an, ct, rfl⟩, hcd⟩, PySem.W.mg_none_of X G sup⟩ Fo no hp bp bk⟩
theorem ef2_mk (X : K.In h) (G : h.Ns mainGlobals mg) (gC : PySem.W.nsIn K mainGlobals x = some (some (.ref C)))
    (xC : K.lookup C = some (excClassObj x q C N bs (tailVE R) true sn sub ab col dd k0 k1 k2 k3 k5 "ValueError.__new__"))
    (iC : PySem.W.findIn K (.ref C) "__init__" = some (some (.ref fI)))
    (lI : K.lookup fI = some ⟨oc, od, .func (PySem.W.ksFn "__init__" qual (iA [(f, pf), (g, pg)] ps) [iSup txt kk p0 p1 p2 p3 p4 p5, iSet f q1 q2 q3 q4, iSet g r1 r2 r3 r4] (iS [f, g]) .none .none doc pm an (.ref cda) ct cc), osl⟩)
    (cel : K.lookup cc = some ⟨cl, cld, .cell (some (.ref C)), csl⟩) (cod : K.lookup cda = some ⟨ccl, cdd, .fields vs, ccs⟩) (hvs : vs[2]? = some (.str file tf)) (hfile : ((P.main.file : Str) == file) = true)
    (hcd : PySem.W.codeIn K (.ref cda) qual = true)
    (al : PySem.W.ks_superIn K C C "__init__" = some (some (.builtin "ValueError.__init__")))
    (sa : PySem.W.findIn K (.ref C) "__setattr__" = some (some (.builtin "object.__setattr__")))
    (ga : PySem.W.findIn K (.ref C) "__getattribute__" = some (some (.builtin "BaseException.__getattribute__")))
    (gg : PySem.W.findIn K (.ref C) "__getattr__" = some none) (tI : PySem.W.typeIn K (.ref fI) = some (.type "function")) (kC : PySem.W.keepIn K (.ref C) = true) (tC : PySem.W.typeIn K (.ref C) = some (.type "type"))
    (ha : PySem.W.findIn K (.ref C) "__class__" = some (some (.builtin "object.__class__"))) (hn : PySem.W.specialIn K (.builtin "object.__class__") "__get__" = some (some (.builtin "getset_descriptor.__get__"))) (ht : PySem.W.takesIn K (.builtin "object.__class__") = some true)
    (op : PySem.W.nsIn K cStatics "thirdparty.any" = some none) (top : (P.main.scope.names.lookup ("super" : Str)).isSome = false) (sup : PySem.W.nsIn K mainGlobals "super" = some none)
    (no : PySem.W.findIn K (.ref C) f = some none) (no2 : PySem.W.findIn K (.ref C) g = some none) (Fo : FOk f) (Go : FOk g) (h1 : (f == g) = false) (h2 : (g == f) = false) (hp : (p2.endLine == p4.line) = true)
    (bp : ∀ (s : Shared) (u v v' : Value), BindsTo s (PySem.W.ksFn "__init__" qual (iA [(f, pf), (g, pg)] ps) [iSup txt kk p0 p1 p2 p3 p4 p5, iSet f q1 q2 q3 q4, iSet g r1 r2 r3 r4] (iS [f, g]) .none .none doc pm an (.ref cda) ct cc) ⟨[u, v, v'], []⟩ [("self", u), (f, v), (g, v')])
    (bk : ∀ (s : Shared) (u v v' : Value), BindsTo s (PySem.W.ksFn "__init__" qual (iA [(f, pf), (g, pg)] ps) [iSup txt kk p0 p1 p2 p3 p4 p5, iSet f q1 q2 q3 q4, iSet g r1 r2 r3 r4] (iS [f, g]) .none .none doc pm an (.ref cda) ct cc) ⟨[u], [(f, v), (g, v')]⟩ [("self", u), (f, v), (g, v')])
    (br : ∀ (s : Shared) (u v v' : Value), BindsTo s (PySem.W.ksFn "__init__" qual (iA [(f, pf), (g, pg)] ps) [iSup txt kk p0 p1 p2 p3 p4 p5, iSet f q1 q2 q3 q4, iSet g r1 r2 r3 r4] (iS [f, g]) .none .none doc pm an (.ref cda) ct cc) ⟨[u], [(g, v'), (f, v)]⟩ [("self", u), (f, v), (g, v')]) : ∃ C, EF P w K mg R x [f, g] C :=
  ⟨C, ef2 ⟨PySem.W.mg_of X G gC, ⟨q, N, bs, sn, sub, ab, col, dd, k0, k1, k2, k3, k5, xC⟩, al, sa, ga, gg, iC, tI, kC, tC, ha, hn, ht, op, top, ⟨cl, cld, csl, cel⟩, ⟨ccl, cdd, vs, ccs, file, tf, cod, hvs, hfile⟩, ⟨⟨oc, od, osl, lI⟩, ⟨doc, pm, an, ct, rfl⟩, hcd⟩, PySem.W.mg_none_of X G sup⟩ Fo Go h1 h2 no no2 hp bp bk br⟩
end
end K05

open PySem PySem.W PyProof.Rows
set_option maxRecDepth 100000 in
set_option maxHeartbeats 0 in
theorem PySem.Challenge.cw_relatedrights_k05_errors_as_told_holds : PySem.Challenge.rw_relatedrights_k05_errors_as_told.Holds := by
  w_on; o_law; k_head; (case hw => w_witness2)
  k_fill
  refine L2.walk_of (l := PySem.Challenge.rw_relatedrights_k05_errors_as_told) (n := 63) (k := 4) (x := "script") (CX := fun _ => L2.CX0) (sp := fun w => K05.spLaw _) rfl (by decide) rfl ⟨rfl, by decide, by decide⟩ (fun w h Y => PySem.W.kIn_of Y) ?F (fun _ _ a ns hl _ hS => ⟨a, ns, rfl, hS, hl, fun _ => rfl⟩) (fun _ _ _ _ _ h => h)
  case F =>
    intro w mg fa h KX G hmg
    refine' K05.all_mk KX G hmg ?lR ?tR ?gR ?E1 ?E2 ?E3 ?E4 ?E5 ?E6 ?E7 ?E8 ?E9 ?E10 ?E11 ?E12 ?E13 ?E14 ?E15 ?a1 ?l1 ?c1 ?k1 ?a2 ?l2 ?c2 ?k2 ?a3 ?l3 ?c3 ?k3 ?a4 ?l4 ?c4 ?k4 ?a5 ?l5 ?c5 ?k5 ?a6 ?l6 ?c6 ?k6 ?a7 ?l7 ?c7 ?k7 ?a8 ?l8 ?c8 ?k8 ?z1 ?z2 ?z3 ?z4 ?z5 ?z6 ?z7
    (case gR => k_is); (case lR => k_is); (case tR => k_is)
    case E1 =>
      refine' K05.ef1_mk KX G ?gC ?xC ?iC ?lI ?cel ?cod ?hvs ?hfile ?hcd ?al ?sa ?ga ?gg ?tI ?kC ?tC ?ha ?hn ?ht ?op ?top ?sup ?no ?Fo ?hp ?bp ?bk
      (case gC => k_is); (case xC => k_is); (case iC => k_is); (case lI => k_is); (case cel => k_is); (case cod => k_is); (case hvs => rfl); (case hfile => first | rfl | decide +kernel); (case hcd => k_is); (case al => ks_is); (case sa => k_is); (case ga => k_is); (case gg => k_is); (case tI => k_is); (case kC => k_is); (case tC => k_is); (case ha => k_is); (case hn => k_is); (case ht => k_is); (case op => k_is); (case top => decide +kernel); (case sup => k_is); (case no => k_is); (case Fo => exact ⟨by decide, by decide, by decide, by decide, by decide⟩); (case hp => rfl); (case bp => exact fun s u v => .of_eq rfl); (case bk => exact fun s u v => .of_eq rfl)
    case E2 =>
      refine' K05.ef2_mk KX G ?gC ?xC ?iC ?lI ?cel ?cod ?hvs ?hfile ?hcd ?al ?sa ?ga ?gg ?tI ?kC ?tC ?ha ?hn ?ht ?op ?top ?sup ?no ?no2 ?Fo ?Go ?h1 ?h2 ?hp ?bp ?bk ?br
      (case gC => k_is); (case xC => k_is); (case iC => k_is); (case lI => k_is); (case cel => k_is); (case cod => k_is); (case hvs => rfl); (case hfile => first | rfl | decide +kernel); (case hcd => k_is); (case al => ks_is); (case sa => k_is); (case ga => k_is); (case gg => k_is); (case tI => k_is); (case kC => k_is); (case tC => k_is); (case ha => k_is); (case hn => k_is); (case ht => k_is); (case op => k_is); (case top => decide +kernel); (case sup => k_is); (case no => k_is); (case no2 => k_is); (case Fo => exact ⟨by decide, by decide, by decide, by decide, by decide⟩); (case Go => exact ⟨by decide, by decide, by decide, by decide, by decide⟩); (case h1 => decide); (case h2 => decide); (case hp => rfl); (case bp => exact fun s u v v' => .of_eq rfl); (case bk => exact fun s u v v' => .of_eq rfl); (case br => exact fun s u v v' => .of_eq rfl)
    case E3 =>
      refine' K05.ef1_mk KX G ?gC ?xC ?iC ?lI ?cel ?cod ?hvs ?hfile ?hcd ?al ?sa ?ga ?gg ?tI ?kC ?tC ?ha ?hn ?ht ?op ?top ?sup ?no ?Fo ?hp ?bp ?bk
      (case gC => k_is); (case xC => k_is); (case iC => k_is); (case lI => k_is); (case cel => k_is); (case cod => k_is); (case hvs => rfl); (case hfile => first | rfl | decide +kernel); (case hcd => k_is); (case al => ks_is); (case sa => k_is); (case ga => k_is); (case gg => k_is); (case tI => k_is); (case kC => k_is); (case tC => k_is); (case ha => k_is); (case hn => k_is); (case ht => k_is); (case op => k_is); (case top => decide +kernel); (case sup => k_is); (case no => k_is); (case Fo => exact ⟨by decide, by decide, by decide, by decide, by decide⟩); (case hp => rfl); (case bp => exact fun s u v => .of_eq rfl); (case bk => exact fun s u v => .of_eq rfl)
    case E4 =>
      refine' K05.ef1_mk KX G ?gC ?xC ?iC ?lI ?cel ?cod ?hvs ?hfile ?hcd ?al ?sa ?ga ?gg ?tI ?kC ?tC ?ha ?hn ?ht ?op ?top ?sup ?no ?Fo ?hp ?bp ?bk
      (case gC => k_is); (case xC => k_is); (case iC => k_is); (case lI => k_is); (case cel => k_is); (case cod => k_is); (case hvs => rfl); (case hfile => first | rfl | decide +kernel); (case hcd => k_is); (case al => ks_is); (case sa => k_is); (case ga => k_is); (case gg => k_is); (case tI => k_is); (case kC => k_is); (case tC => k_is); (case ha => k_is); (case hn => k_is); (case ht => k_is); (case op => k_is); (case top => decide +kernel); (case sup => k_is); (case no => k_is); (case Fo => exact ⟨by decide, by decide, by decide, by decide, by decide⟩); (case hp => rfl); (case bp => exact fun s u v => .of_eq rfl); (case bk => exact fun s u v => .of_eq rfl)
    case E5 =>
      refine' K05.ef1_mk KX G ?gC ?xC ?iC ?lI ?cel ?cod ?hvs ?hfile ?hcd ?al ?sa ?ga ?gg ?tI ?kC ?tC ?ha ?hn ?ht ?op ?top ?sup ?no ?Fo ?hp ?bp ?bk
      (case gC => k_is); (case xC => k_is); (case iC => k_is); (case lI => k_is); (case cel => k_is); (case cod => k_is); (case hvs => rfl); (case hfile => first | rfl | decide +kernel); (case hcd => k_is); (case al => ks_is); (case sa => k_is); (case ga => k_is); (case gg => k_is); (case tI => k_is); (case kC => k_is); (case tC => k_is); (case ha => k_is); (case hn => k_is); (case ht => k_is); (case op => k_is); (case top => decide +kernel); (case sup => k_is); (case no => k_is); (case Fo => exact ⟨by decide, by decide, by decide, by decide, by decide⟩); (case hp => rfl); (case bp => exact fun s u v => .of_eq rfl); (case bk => exact fun s u v => .of_eq rfl)
    case E6 =>
      refine' K05.ef1_mk KX G ?gC ?xC ?iC ?lI ?cel ?cod ?hvs ?hfile ?hcd ?al ?sa ?ga ?gg ?tI ?kC ?tC ?ha ?hn ?ht ?op ?top ?sup ?no ?Fo ?hp ?bp ?bk
      (case gC => k_is); (case xC => k_is); (case iC => k_is); (case lI => k_is); (case cel => k_is); (case cod => k_is); (case hvs => rfl); (case hfile => first | rfl | decide +kernel); (case hcd => k_is); (case al => ks_is); (case sa => k_is); (case ga => k_is); (case gg => k_is); (case tI => k_is); (case kC => k_is); (case tC => k_is); (case ha => k_is); (case hn => k_is); (case ht => k_is); (case op => k_is); (case top => decide +kernel); (case sup => k_is); (case no => k_is); (case Fo => exact ⟨by decide, by decide, by decide, by decide, by decide⟩); (case hp => rfl); (case bp => exact fun s u v => .of_eq rfl); (case bk => exact fun s u v => .of_eq rfl)
    case E7 =>
      refine' K05.ef1_mk KX G ?gC ?xC ?iC ?lI ?cel ?cod ?hvs ?hfile ?hcd ?al ?sa ?ga ?gg ?tI ?kC ?tC ?ha ?hn ?ht ?op ?top ?sup ?no ?Fo ?hp ?bp ?bk
      (case gC => k_is); (case xC => k_is); (case iC => k_is); (case lI => k_is); (case cel => k_is); (case cod => k_is); (case hvs => rfl); (case hfile => first | rfl | decide +kernel); (case hcd => k_is); (case al => ks_is); (case sa => k_is); (case ga => k_is); (case gg => k_is); (case tI => k_is); (case kC => k_is); (case tC => k_is); (case ha => k_is); (case hn => k_is); (case ht => k_is); (case op => k_is); (case top => decide +kernel); (case sup => k_is); (case no => k_is); (case Fo => exact ⟨by decide, by decide, by decide, by decide, by decide⟩); (case hp => rfl); (case bp => exact fun s u v => .of_eq rfl); (case bk => exact fun s u v => .of_eq rfl)
    case E8 =>
      refine' K05.ef1_mk KX G ?gC ?xC ?iC ?lI ?cel ?cod ?hvs ?hfile ?hcd ?al ?sa ?ga ?gg ?tI ?kC ?tC ?ha ?hn ?ht ?op ?top ?sup ?no ?Fo ?hp ?bp ?bk
      (case gC => k_is); (case xC => k_is); (case iC => k_is); (case lI => k_is); (case cel => k_is); (case cod => k_is); (case hvs => rfl); (case hfile => first | rfl | decide +kernel); (case hcd => k_is); (case al => ks_is); (case sa => k_is); (case ga => k_is); (case gg => k_is); (case tI => k_is); (case kC => k_is); (case tC => k_is); (case ha => k_is); (case hn => k_is); (case ht => k_is); (case op => k_is); (case top => decide +kernel); (case sup => k_is); (case no => k_is); (case Fo => exact ⟨by decide, by decide, by decide, by decide, by decide⟩); (case hp => rfl); (case bp => exact fun s u v => .of_eq rfl); (case bk => exact fun s u v => .of_eq rfl)
    case E9 =>
      refine' K05.ef1_mk KX G ?gC ?xC ?iC ?lI ?cel ?cod ?hvs ?hfile ?hcd ?al ?sa ?ga ?gg ?tI ?kC ?tC ?ha ?hn ?ht ?op ?top ?sup ?no ?Fo ?hp ?bp ?bk
      (case gC => k_is); (case xC => k_is); (case iC => k_is); (case lI => k_is); (case cel => k_is); (case cod => k_is); (case hvs => rfl); (case hfile => first | rfl | decide +kernel); (case hcd => k_is); (case al => ks_is); (case sa => k_is); (case ga => k_is); (case gg => k_is); (case tI => k_is); (case kC => k_is); (case tC => k_is); (case ha => k_is); (case hn => k_is); (case ht => k_is); (case op => k_is); (case top => decide +kernel); (case sup => k_is); (case no => k_is); (case Fo => exact ⟨by decide, by decide, by decide, by decide, by decide⟩); (case hp => rfl); (case bp => exact fun s u v => .of_eq rfl); (case bk => exact fun s u v => .of_eq rfl)
    case E10 =>
      refine' K05.ef1_mk KX G ?gC ?xC ?iC ?lI ?cel ?cod ?hvs ?hfile ?hcd ?al ?sa ?ga ?gg ?tI ?kC ?tC ?ha ?hn ?ht ?op ?top ?sup ?no ?Fo ?hp ?bp ?bk
      (case gC => k_is); (case xC => k_is); (case iC => k_is); (case lI => k_is); (case cel => k_is); (case cod => k_is); (case hvs => rfl); (case hfile => first | rfl | decide +kernel); (case hcd => k_is); (case al => ks_is); (case sa => k_is); (case ga => k_is); (case gg => k_is); (case tI => k_is); (case kC => k_is); (case tC => k_is); (case ha => k_is); (case hn => k_is); (case ht => k_is); (case op => k_is); (case top => decide +kernel); (case sup => k_is); (case no => k_is); (case Fo => exact ⟨by decide, by decide, by decide, by decide, by decide⟩); (case hp => rfl); (case bp => exact fun s u v => .of_eq rfl); (case bk => exact fun s u v => .of_eq rfl)
    case E11 =>
      refine' K05.ef1_mk KX G ?gC ?xC ?iC ?lI ?cel ?cod ?hvs ?hfile ?hcd ?al ?sa ?ga ?gg ?tI ?kC ?tC ?ha ?hn ?ht ?op ?top ?sup ?no ?Fo ?hp ?bp ?bk
      (case gC => k_is); (case xC => k_is); (case iC => k_is); (case lI => k_is); (case cel => k_is); (case cod => k_is); (case hvs => rfl); (case hfile => first | rfl | decide +kernel); (case hcd => k_is); (case al => ks_is); (case sa => k_is); (case ga => k_is); (case gg => k_is); (case tI => k_is); (case kC => k_is); (case tC => k_is); (case ha => k_is); (case hn => k_is); (case ht => k_is); (case op => k_is); (case top => decide +kernel); (case sup => k_is); (case no => k_is); (case Fo => exact ⟨by decide, by decide, by decide, by decide, by decide⟩); (case hp => rfl); (case bp => exact fun s u v => .of_eq rfl); (case bk => exact fun s u v => .of_eq rfl)
    case E12 =>
      refine' K05.ef1_mk KX G ?gC ?xC ?iC ?lI ?cel ?cod ?hvs ?hfile ?hcd ?al ?sa ?ga ?gg ?tI ?kC ?tC ?ha ?hn ?ht ?op ?top ?sup ?no ?Fo ?hp ?bp ?bk
      (case gC => k_is); (case xC => k_is); (case iC => k_is); (case lI => k_is); (case cel => k_is); (case cod => k_is); (case hvs => rfl); (case hfile => first | rfl | decide +kernel); (case hcd => k_is); (case al => ks_is); (case sa => k_is); (case ga => k_is); (case gg => k_is); (case tI => k_is); (case kC => k_is); (case tC => k_is); (case ha => k_is); (case hn => k_is); (case ht => k_is); (case op => k_is); (case top => decide +kernel); (case sup => k_is); (case no => k_is); (case Fo => exact ⟨by decide, by decide, by decide, by decide, by decide⟩); (case hp => rfl); (case bp => exact fun s u v => .of_eq rfl); (case bk => exact fun s u v => .of_eq rfl)
    case E13 =>
      refine' K05.ef1_mk KX G ?gC ?xC ?iC ?lI ?cel ?cod ?hvs ?hfile ?hcd ?al ?sa ?ga ?gg ?tI ?kC ?tC ?ha ?hn ?ht ?op ?top ?sup ?no ?Fo ?hp ?bp ?bk
      (case gC => k_is); (case xC => k_is); (case iC => k_is); (case lI => k_is); (case cel => k_is); (case cod => k_is); (case hvs => rfl); (case hfile => first | rfl | decide +kernel); (case hcd => k_is); (case al => ks_is); (case sa => k_is); (case ga => k_is); (case gg => k_is); (case tI => k_is); (case kC => k_is); (case tC => k_is); (case ha => k_is); (case hn => k_is); (case ht => k_is); (case op => k_is); (case top => decide +kernel); (case sup => k_is); (case no => k_is); (case Fo => exact ⟨by decide, by decide, by decide, by decide, by decide⟩); (case hp => rfl); (case bp => exact fun s u v => .of_eq rfl); (case bk => exact fun s u v => .of_eq rfl)
    case E14 =>
      refine' K05.ef1_mk KX G ?gC ?xC ?iC ?lI ?cel ?cod ?hvs ?hfile ?hcd ?al ?sa ?ga ?gg ?tI ?kC ?tC ?ha ?hn ?ht ?op ?top ?sup ?no ?Fo ?hp ?bp ?bk
      (case gC => k_is); (case xC => k_is); (case iC => k_is); (case lI => k_is); (case cel => k_is); (case cod => k_is); (case hvs => rfl); (case hfile => first | rfl | decide +kernel); (case hcd => k_is); (case al => ks_is); (case sa => k_is); (case ga => k_is); (case gg => k_is); (case tI => k_is); (case kC => k_is); (case tC => k_is); (case ha => k_is); (case hn => k_is); (case ht => k_is); (case op => k_is); (case top => decide +kernel); (case sup => k_is); (case no => k_is); (case Fo => exact ⟨by decide, by decide, by decide, by decide, by decide⟩); (case hp => rfl); (case bp => exact fun s u v => .of_eq rfl); (case bk => exact fun s u v => .of_eq rfl)
    case E15 =>
      refine' K05.ef1_mk KX G ?gC ?xC ?iC ?lI ?cel ?cod ?hvs ?hfile ?hcd ?al ?sa ?ga ?gg ?tI ?kC ?tC ?ha ?hn ?ht ?op ?top ?sup ?no ?Fo ?hp ?bp ?bk
      (case gC => k_is); (case xC => k_is); (case iC => k_is); (case lI => k_is); (case cel => k_is); (case cod => k_is); (case hvs => rfl); (case hfile => first | rfl | decide +kernel); (case hcd => k_is); (case al => ks_is); (case sa => k_is); (case ga => k_is); (case gg => k_is); (case tI => k_is); (case kC => k_is); (case tC => k_is); (case ha => k_is); (case hn => k_is); (case ht => k_is); (case op => k_is); (case top => decide +kernel); (case sup => k_is); (case no => k_is); (case Fo => exact ⟨by decide, by decide, by decide, by decide, by decide⟩); (case hp => rfl); (case bp => exact fun s u v => .of_eq rfl); (case bk => exact fun s u v => .of_eq rfl)
    (case a1 => k_is); (case l1 => k_is); (case c1 => k_is); (case k1 => k_is)
    (case a2 => k_is); (case l2 => k_is); (case c2 => k_is); (case k2 => k_is)
    (case a3 => k_is); (case l3 => k_is); (case c3 => k_is); (case k3 => k_is)
    (case a4 => k_is); (case l4 => k_is); (case c4 => k_is); (case k4 => k_is)
    (case a5 => k_is); (case l5 => k_is); (case c5 => k_is); (case k5 => k_is)
    (case a6 => k_is); (case l6 => k_is); (case c6 => k_is); (case k6 => k_is)
    (case a7 => k_is); (case l7 => k_is); (case c7 => k_is); (case k7 => k_is)
    (case a8 => k_is); (case l8 => k_is); (case c8 => k_is); (case k8 => k_is)
    (case z1 => k_is); (case z2 => k_is); (case z3 => k_is); (case z4 => k_is); (case z5 => k_is); (case z6 => k_is); (case z7 => k_is)
