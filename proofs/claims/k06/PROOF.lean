import PyProof.Rows.All
import Wide.All
import OpenK.AllK
import Wide.FinOn
import KE.KExcStr
import HandS.ForExc
import HandS.ExcInit
import KE.KExcIs
import HandS.IsInst
import HandS.ForMost
import HandS.StrMore
import HandS.More
import PyProof.ListMulRoad
import PyProof.FactsAll.tuple_2
import HandS.TupMul
import HandS.ExcField
import HandS.CallLocal
import HandS.TryMany
import HandS.Walk
import HandS.Star
import PySem.Challenge.RW_shellways_k06_bounds_of_programs
import HandS.Wide
import PyProof.P3Eq
import HandS.Base
import HandS.Call
import HandS.List
import HandS.TupAny
import KE.DataEq
set_option Elab.async false
set_option linter.all false
set_option maxRecDepth 100000
set_option maxHeartbeats 4000000
/-! An own error made with its value by keyword: the built-in __new__ lets the keyword by, the own __init__ gets it. -/
namespace PySem
namespace ErrKw
open PySem.HandSPX
section
variable {mo : Model} {ar : Around} {er : Value → Shared → Prop} {hp : Heap} {ge : Array GenState} {dr : Drawn} {tn : Nat} {osx : OsState}
variable {nm qn : Str} {C N : Addr} {bs bm bB : List Value} {hd : Bool} {sn : List Str} {sb : List Value} {ab : Bool} {co : Option Bool} {dd : Option Addr} {k0 k1 k2 k3 k5 : Option Value} {B nI iI : String} {kw : List (Str × Value)}

theorem kw_check (FB : ExcBaseFacts B nI iI bB) (same : ∀ X : String, bm.contains (.type X) = bB.contains (.type X)) {ps : List Value} {Q : Unit → Shared → Prop}
    (cC : hp.get? C = some (excClassObj nm qn C N bs bm hd sn sb ab co dd k0 k1 k2 k3 k5 nI)) (fin : Q () ⟨hp, ge, dr, tn, osx⟩) :
    wpAny mo ar (checkBuiltinCall nI ⟨.ref C :: ps, kw⟩) Q er ⟨hp, ge, dr, tn, osx⟩ := by
  have inB : (Value.ref C :: bm).contains (.type B) = true := by
    rw [List.contains_cons, same, FB.hasB, Bool.or_true]
  have star := FB.noStar
  simp only [checkBuiltinCall, FB.newKind, FB.newSplit, FB.newRow]
  repeat (first
    | refine wpAny_loadPart_at cC ?_
    | (refine wpAny_isSubtype_exc cC ?_; rw [inB])
    | refine wpAny_staticBase_exc cC ?_
    | refine wpAny_madeBy_exc cC ?_
    | simp only [bne_self_eq_false, Bool.false_eq_true, if_false]
    | wp_step)
  exact fin
end

section
variable {prog : Program} {w : World} {ar : Around} {er : Value → Shared → Prop} {R : Result → Shared → Prop} {hp : Heap} {ge : Array GenState} {dr : Drawn} {tn : Nat} {osx : OsState}
variable {nm qn : Str} {C N : Addr} {bs bm bB : List Value} {hd : Bool} {sn : List Str} {sb : List Value} {ab : Bool} {co : Option Bool} {dd : Option Addr} {k0 k1 k2 k3 k5 : Option Value} {B nI iI : String} {kw : List (Str × Value)}

theorem kw_new (FB : ExcBaseFacts B nI iI bB) (same : ∀ X : String, bm.contains (.type X) = bB.contains (.type X)) {ps : List Value}
    (cC : hp.get? C = some (excClassObj nm qn C N bs bm hd sn sb ab co dd k0 k1 k2 k3 k5 nI))
    (fin : R (.ok (.ret (.ref (hp.objs.size + 1)))) ⟨(hp.push (W.kdv_tup ps)).push (excO C hp.objs.size), ge, dr, tn, osx⟩) (small : ps.length ≤ sizeLine) :
    codeAny (model prog w) ar (.builtin nI ⟨.ref C :: ps, kw⟩) R ⟨hp, ge, dr, tn, osx⟩ := by
  have ends := FB.ends
  have inB : (Value.ref C :: bm).contains (.type B) = true := by
    rw [List.contains_cons, same, FB.hasB, Bool.or_true]
  have noA : (Value.ref C :: bm).contains (.type "AttributeError") = false := by
    rw [List.contains_cons, same, FB.noAttr]; rfl
  have noN : (Value.ref C :: bm).contains (.type "NameError") = false := by
    rw [List.contains_cons, same, FB.noName]; rfl
  refine codeAny_builtinAt FB.entry ?_
  unfold Builtin.«BaseException.__new__»
  refine wpAt_bind ?_
  show wpAt _ _ _ (stack >>= _) _ _ _
  refine wpAt_bind (wpAt_stack fun p below => wpAt_of_wpAny ?_)
  wp_walk
  refine wpAt_of_wpAny ?_
  rw [FB.owner]
  repeat (first
    | with_reducible refine wpAny_madeHere_exc FB.canon cC ?_
    | with_reducible refine wpAny_loadPart_at cC ?_
    | (with_reducible refine wpAny_isSubtype_exc cC ?_; first | rw [inB] | rw [noA] | rw [noN])
    | wp_step)
  show R _ _
  rw [Heap.size_push]
  exact fin

theorem kw_typecall (FB : ExcBaseFacts B nI iI bB) (same : ∀ X : String, bm.contains (.type X) = bB.contains (.type X)) {ps : List Value} {fI : Addr} {Q : Fin → Shared → Prop}
    (cC : hp.get? C = some (excClassObj nm qn C N bs bm hd sn sb ab co dd k0 k1 k2 k3 k5 nI))
    (lk : W.Looks (model prog w) hp (typeLookup (.ref C) "__init__") (some (.ref fI)))
    (bd : ∀ self, W.Looks (model prog w) hp (bindSpecial (.ref fI) self) (.ref fI, [self])) (small : ps.length ≤ sizeLine)
    (fin : codeAny (model prog w) ar (.call (.ref fI) ⟨.ref (hp.objs.size + 1) :: ps, kw⟩)
      (fun r s' => match r with | .ok (.ret v) => v = .none ∧ Q (.done (.ret (.ref (hp.objs.size + 1)))) s' | .ok _ => False | .error e => er e s')
      ⟨(hp.push (W.kdv_tup ps)).push (excO C hp.objs.size), ge, dr, tn, osx⟩) :
    wpAny (model prog w) ar (Builtin.«type.__call__» ⟨.ref C :: ps, kw⟩) Q er ⟨hp, ge, dr, tn, osx⟩ := by
  repeat (first
    | with_reducible refine wpAny_loadPart_at cC ?_
    | with_reducible refine wpAny_madeBy_exc cC ?_
    | wp_step)
  refine codeAny_call_builtin_code (Code.quiet_builtin _ FB.quiet) (kw_check FB same cC ?_)
  refine kw_new FB same cC ?_ small
  show wpAny _ _ _ _ _ _
  have keep : ∀ b o, hp.get? b = some o → ((hp.push (W.kdv_tup ps)).push (excO C hp.objs.size)).get? b = some o := fun b o e =>
    Heap.get?_push_of_some _ (Heap.get?_push_of_some _ e)
  have cC' := keep _ _ cC
  have new : ((hp.push (W.kdv_tup ps)).push (excO C hp.objs.size)).get? (hp.objs.size + 1) = some (excO C hp.objs.size) := by heap_get
  have inC : (Value.ref C :: bm).contains (.ref C) = true := by simp
  have lk' := lk.keeps keep
  have bd' := (bd (.ref (hp.objs.size + 1))).keeps keep
  unfold isInstance
  repeat (first
    | with_reducible refine wpAny_loadPart_at new ?_
    | (with_reducible refine wpAny_isSubtype_exc cC' ?_; rw [inC])
    | wp_step)
  show wpAny _ _ (typeLookup (.ref C) _) _ _ _
  refine lk'.at ?_
  refine wpAny_holding (wpAny_bind (bd'.at ?_))
  refine wpAny_bind (wpAny_call (codeAny_mono fin fun r s' z => ?_))
  rcases r with e | (v | _ | _ | _) <;> first | exact z | exact z.elim | skip
  obtain ⟨rfl, z⟩ := z
  first
    | exact wpAny_pure (wpAny_pure z)
    | (wp_walk; exact z)

theorem kw_call (FB : ExcBaseFacts B nI iI bB) (same : ∀ X : String, bm.contains (.type X) = bB.contains (.type X)) {ps : List Value} {fI : Addr}
    (cC : hp.get? C = some (excClassObj nm qn C N bs bm hd sn sb ab co dd k0 k1 k2 k3 k5 nI))
    (lk : W.Looks (model prog w) hp (typeLookup (.ref C) "__init__") (some (.ref fI)))
    (bd : ∀ self, W.Looks (model prog w) hp (bindSpecial (.ref fI) self) (.ref fI, [self])) (small : ps.length ≤ sizeLine)
    (fin : codeAny (model prog w) (ar.under (.builtin "type.__call__" ⟨.ref C :: ps, kw⟩)) (.call (.ref fI) ⟨.ref (hp.objs.size + 1) :: ps, kw⟩) (W.InitBack (hp.objs.size + 1) R)
      ⟨(hp.push (W.kdv_tup ps)).push (excO C hp.objs.size), ge, dr, tn, osx⟩) :
    codeAny (model prog w) ar (.call (.ref C) ⟨ps, kw⟩) R ⟨hp, ge, dr, tn, osx⟩ := by
  have f1 := tc_lookup
  have f2 := tc_bind (.ref C)
  have ty : (⟨hp, ge, dr, tn, osx⟩ : Shared).TypeIs (.ref C) "type" := ⟨_, cC, rfl⟩
  refine codeAny_of_tree ?_
  show wpAny _ _ (callAny (.ref C) _) _ _ _
  repeat (any_goals (first | assumption | with_reducible refine wpAny_loadPart_at cC ?_ | wp_step))
  refine ⟨rfl, ?_⟩
  refine codeAny_call_builtin_at (Code.quiet_builtin _ (by decide +kernel)) entry_typeCall (wpAny_check_type_call_sub cC (kw_typecall FB same cC lk bd small ?_))
  refine codeAny_mono fin fun r s' z => ?_
  rcases r with e | (v | _ | _ | _) <;> exact z
end
end ErrKw
end PySem

/-! The own __init__: the base's one through super, then one field. -/
namespace PySem
namespace ErrKw
open PySem.W PySem.Calls PyProof.Rows PySem.HandSPX
def iArgs (f : Str) (p1 p2 : Pos) : Arguments := { posonlyargs := [], args := [{ arg := "self", annotation := none, pos := p1 }, { arg := f, annotation := none, pos := p2 }], vararg := none, kwonlyargs := [], kw_defaults := [], kwarg := none, defaults := [] }
def iBody (f msg : Str) (k : Nat) (q1 q2 q3 q4 q5 q6 q7 q8 q9 q10 : Pos) : List Stmt :=
  [.Expr (.Call (.Attribute (.Call (.Name "super" q1) [] [] q2) "__init__" q3) [.Constant (.str msg) k q4] [] q5) q6,
   .Assign [.Attribute (.Name "self" q7) f q8] (.Name f q9) q10]
def iScope (f : Str) : Scope := { kind := .function, names := [("self", .local), (f, .local), ("__class__", .free), ("super", .globalImplicit)], isGenerator := false, isCoroutine := false, more := [] }
/-- how the call of the base's __init__ is read, for these places -/
def Reads0 (msg : Str) (k : Nat) (q1 q2 q3 q4 q5 : Pos) : Prop := ∃ pl : Env → Sem Bool, ∀ env : Env, eval (.Call (.Attribute (.Call (.Name "super" q1) [] [] q2) "__init__" q3) [.Constant (.str msg) k q4] [] q5) env = (do
  let ov ← attributeBase (.Call (.Name "super" q1) [] [] q2) "__init__" env (eval (.Call (.Name "super" q1) [] [] q2) env)
  standAt q3.atName
  let (g, first) ← holding [ov] (getMethod ov "__init__" (pl env))
  callWith q5 g first (backTo q5 (starEach [.Constant (.str msg) k q4] env)) [])
/-- what stands of an own error class at C (its field f), and of its __init__ at fI; D: the class that its __class__ cell names (itself) -/
structure Own (K : Frag) (C fI : Addr) (f : Str) : Prop where
  cls : ∃ nm qn N bs bm sn sub ab col dd k0 k1 k2 k3 k5, K.lookup C = some (excClassObj nm qn C N bs bm true sn sub ab col dd k0 k1 k2 k3 k5 "ValueError.__new__") ∧ refsVE bm = true
  sa : findIn K (.ref C) "__setattr__" = some (some (.builtin "object.__setattr__"))
  no : findIn K (.ref C) f = some none
  su : ks_superIn K C C "__init__" = some (some (.builtin "ValueError.__init__"))
  ve : subIn K (.ref C) (.type "ValueError") = some true
  me : mroIn K C (.ref C) = some true
  tp : nsIn K cStatics "thirdparty.any" = some none
  qi : excInitIn K C [.type "ValueError", .type "Exception", .type "BaseException", .type "object"] "ValueError.__new__" = true
  kl : (iScope f).names.lookup f = some .local
  vs : f ≠ "self"
  nd : (f == ("__debug__" : Str)) = false
  ks : (iScope f).names.lookup ("super" : Str) = some .globalImplicit
  kc : (iScope f).names.lookup ("__class__" : Str) = some .free
  fn : ∃ (qn msg : Str) (k : Nat) (oc doc pm ct ccl cll : Value) (od an cdd cld : Option Addr) (osl ccs csl : Array (Option Value)) (cda cc : Addr) (fs : Array Value) (file : Str) (tf : Tok) (p1 p2 q1 q2 q3 q4 q5 q6 q7 q8 q9 q10 : Pos),
    K.lookup fI = some ⟨oc, od, .func (ksFn "__init__" qn (iArgs f p1 p2) (iBody f msg k q1 q2 q3 q4 q5 q6 q7 q8 q9 q10) (iScope f) .none .none doc pm an (.ref cda) ct cc), osl⟩ ∧ codeIn K (.ref cda) qn = true ∧
    K.lookup cda = some ⟨ccl, cdd, .fields fs, ccs⟩ ∧ fs[2]? = some (.str file tf) ∧ K.lookup cc = some ⟨cll, cld, .cell (some (.ref C)), csl⟩ ∧ Reads0 msg k q1 q2 q3 q4 q5
/-- how the value comes to the field's parameter: by place, by keyword -/
structure Giv (f : Str) : Prop where
  place : ∀ (s : Shared) (x u : Value) qn p1 p2 body doc pm an cdv ct cc, BindsTo s (ksFn "__init__" qn (iArgs f p1 p2) body (iScope f) .none .none doc pm an cdv ct cc) ⟨[x, u], []⟩ [("self", x), (f, u)]
  word : ∀ (s : Shared) (x u : Value) qn p1 p2 body doc pm an cdv ct cc, BindsTo s (ksFn "__init__" qn (iArgs f p1 p2) body (iScope f) .none .none doc pm an cdv ct cc) ⟨[x], [(f, u)]⟩ [("self", x), (f, u)]
theorem given_path : Giv "path" := ⟨fun _ _ _ _ _ _ _ _ _ _ _ _ _ => .of_eq rfl, fun _ _ _ _ _ _ _ _ _ _ _ _ _ => .of_eq (by with_unfolding_all rfl)⟩
theorem given_place : Giv "place" := ⟨fun _ _ _ _ _ _ _ _ _ _ _ _ _ => .of_eq rfl, fun _ _ _ _ _ _ _ _ _ _ _ _ _ => .of_eq (by with_unfolding_all rfl)⟩
theorem given_index : Giv "index" := ⟨fun _ _ _ _ _ _ _ _ _ _ _ _ _ => .of_eq rfl, fun _ _ _ _ _ _ _ _ _ _ _ _ _ => .of_eq (by with_unfolding_all rfl)⟩
theorem given_name : Giv "name" := ⟨fun _ _ _ _ _ _ _ _ _ _ _ _ _ => .of_eq rfl, fun _ _ _ _ _ _ _ _ _ _ _ _ _ => .of_eq (by with_unfolding_all rfl)⟩
theorem given_status : Giv "status" := ⟨fun _ _ _ _ _ _ _ _ _ _ _ _ _ => .of_eq rfl, fun _ _ _ _ _ _ _ _ _ _ _ _ _ => .of_eq (by with_unfolding_all rfl)⟩
theorem given_limit : Giv "limit" := ⟨fun _ _ _ _ _ _ _ _ _ _ _ _ _ => .of_eq rfl, fun _ _ _ _ _ _ _ _ _ _ _ _ _ => .of_eq (by with_unfolding_all rfl)⟩
/-- what __init__ leaves -/
structure After (h h' : Heap) (x C dx t1 : Addr) (f : Str) (v : Value) : Prop where
  keep : ∀ b o, b ≠ x → h.get? b = some o → h'.get? b = some o
  obj : h'.get? x = some { cls := .ref C, dict := some dx, data := .fields #[.ref t1, .none, .none, .none, .bool false, .none] }
  big : h.objs.size ≤ dx
  ne : dx ≠ x
  ns : h'.Ns1 dx (fun y => if y = f then some v else none)
section
variable {prog : Program} {w : World} {A : Around} {R : Result → Shared → Prop} {s : Shared} {K : Frag} {mg mb : Str → Option Value} {C fI : Addr} {f : Str}
theorem err_init (T : Own K C fI f) {x t0 : Addr} {v : Value} {args : Args} (X : K.In s.heap) (G : s.heap.Ns mainGlobals mg) (Bt : s.heap.Ns builtinsNs mb) (hmg : mg "super" = none) (hmb : mb "super" = some (.type "super")) (hlim : s.heap.NoLimit)
    (hx : s.heap.get? x = some (excO C t0)) (hnx : K.lookup x = none) (hroom : A.depth < recursionLimit) (htop : (prog.main.scope.names.lookup ("super" : Str)).isSome = false)
    (hfile : ∀ cda ccl cdd fs ccs file tf, K.lookup cda = some ⟨ccl, cdd, .fields fs, ccs⟩ → fs[2]? = some (.str file tf) → ((prog.main.file : Str) == file) = true)
    (bnd : ∀ qn p1 p2 body doc pm an cdv ct cc, BindsTo s (ksFn "__init__" qn (iArgs f p1 p2) body (iScope f) .none .none doc pm an cdv ct cc) args [("self", .ref x), (f, v)])
    (hq : ∀ h' tk dx t1, After s.heap h' x C dx t1 f v → R (.ok (.ret .none)) { s with heap := h', toks := tk }) :
    codeAny (model prog w) A (.call (.ref fI) args) R s := by
  obtain ⟨qn, msg, k, oc, doc, pm, ct, ccl, cll, od, an, cdd, cld, osl, ccs, csl, cda, cc, fs, file, tf, p1, p2, q1, q2, q3, q4, q5, q6, q7, q8, q9, q10, ho, hcd, hcode, hfs, hcell, pl, hread⟩ := T.fn
  obtain ⟨nm, qc, N, bs, bm, sn, sub, ab, col, dd, k0, k1, k2, k3, k5, hC, hbm⟩ := T.cls
  have fl := hfile _ _ _ _ _ _ _ hcode hfs
  have nsf : (f == ("self" : Str)) = false := by simpa using T.vs
  refine ks_codeAny_call_defAt (fd := ksFn "__init__" qn (iArgs f p1 p2) (iBody f msg k q1 q2 q3 q4 q5 q6 q7 q8 q9 q10) (iScope f) .none .none doc pm an (.ref cda) ct cc) (body := iBody f msg k q1 q2 q3 q4 q5 q6 q7 q8 q9 q10)
    (binds := [("self", .ref x), (f, v)]) hroom (X _ _ ho) rfl hlim (codeRec_of X hcd) rfl (bnd _ _ _ _ _ _ _ _ _ _) ?_ ?_ (fun h₁ ns₁ kp₁ => ?_) rfl rfl rfl
  · intro y hy
    simp only [ksFn, fnX, iScope, List.mem_cons, List.not_mem_nil, or_false] at hy
    rcases hy with rfl | rfl | rfl | rfl <;> first | decide | (show NameKind.local ≠ NameKind.cell; decide)
  · intro y hy
    simp only [List.mem_cons, List.not_mem_nil, or_false] at hy
    rcases hy with rfl | rfl
    · rfl
    · exact T.kl
  show PySem.wpAt (model prog w) (A.deeper (ksEnv qn (iScope f) s.heap.objs.size fI (.ref cda) cc)) (.func _ (ksEnv qn (iScope f) s.heap.objs.size fI (.ref cda) cc)) (execs _ (ksEnv qn (iScope f) s.heap.objs.size fI (.ref cda) cc)) _ _ _
  have lt : x < s.heap.objs.size := Heap.lt_size hx
  have F₁ : Fr (hideAll s.heap [x]) s.heap.objs.size h₁ (fun y => List.lookup y [(f, v), (("self" : Str), Value.ref x)]) :=
    ⟨ns₁, fun b o e => kp₁ b o (of_hideAll _ e), Nat.le_of_eq (hideAll_size _ _)⟩
  have N₁ : News (hideAll s.heap [x]) s.heap.objs.size h₁ [(x, excObj C t0 none .none)] := by
    intro p hp
    simp only [List.mem_cons, List.not_mem_nil, or_false] at hp
    subst hp
    exact ⟨kp₁ _ _ hx, Nat.ne_of_lt lt, hideAll_none _ (by simp)⟩
  have X₀ : K.In (hideAll s.heap [x]) := fun a o e => hideAll_get _ (X a o e) (by
    intro z
    simp only [List.mem_cons, List.not_mem_nil, or_false] at z
    rw [z, hnx] at e
    cases e)
  have X₁ : K.In h₁ := X.keeps kp₁
  have vself : (fun y => List.lookup y [(f, v), (("self" : Str), Value.ref x)]) "self" = some (.ref x) := by
    show List.lookup ("self" : Str) [(f, v), (("self" : Str), Value.ref x)] = some (.ref x)
    have : (("self" : Str) == f) = false := by
      rw [Bool.eq_false_iff]; intro z; exact T.vs (beq_iff_eq.mp z).symm
    simp [List.lookup, this]
  refine ks_wpAt_execs_cons ?_
  refine ks_wpAt_Expr_any ?_ (hi := by rfl) (hs := by rfl)
  refine ks_wpAt_MethodCall (pl := pl _) ?_ (he := hread _)
  refine ks_wpAt_super_base (f := fI) (cc := cda) (ar := { arg := "self", annotation := none, pos := p1 }) ?a1 ?a2 (by decide) rfl (X₁ _ _ ho) rfl rfl rfl (X₁ _ _ hcode) rfl hfs fl htop ?_
  case a1 => exact T.ks
  case a2 => exact T.kc
  refine ks_loadName_global rfl T.ks (Calls.loadGlobal_builtin (mg := mg) (mb := mb) (G.at fun o e => kp₁ _ _ e) hmg (Bt.at fun o e => kp₁ _ _ e) hmb ⟨rfl, ?_⟩)
  refine wpAny_loadName_free rfl T.kc rfl ⟨_, X₁ _ _ hcell, rfl⟩ ?_
  refine wpAny_loadName_local rfl rfl F₁.ns vself ?_
  refine ks_wpAny_isType_cls (X₁ _ _ hC) rfl ⟨rfl, ?_⟩
  refine ks_wpAny_call_super (X₁ _ _ hC) rfl (N₁ (x, excObj C t0 none .none) (by simp)).1 rfl (fun c z => by cases z) (looks_mroIn X₁ T.me) (fun h₂ e₂ kp₂ => ?_)
  obtain ⟨F₂, N₂, l₂⟩ := ks_newsPush (s := ⟨h₁, s.gens, s.drawn, s.toks + 2, s.os⟩) F₁ N₁ rfl e₂ kp₂
  refine kxs_method (i := "ValueError.__init__") kxs_ValueError F₂ X₀ N₂ (so := h₁.objs.size) (x := x) (C := C) (D := C) (by simp) (InstAt.of_exc0 N₂ (t := t0) (c2 := .none) (by simp)) T.tp T.su T.ve (by decide) (fun q h₃ F₃ N₃ l₃ => ?_)
  refine kxs_callWith1 N₃ (x := x) (i := "ValueError.__init__") (by simp) ?_ (by rfl) (by rfl)
  refine spliced_more (Calls.Constant_str (spliced_none ⟨kxs_at N₃ (by simp), ?_⟩))
  have qx : q ≠ x := Nat.ne_of_gt (l₃ (x, excObj C t0 none .none) (by simp))
  have sx : h₁.objs.size ≠ x := Nat.ne_of_gt (l₂ (x, excObj C t0 none .none) (by simp))
  refine kxs_call (i := "ValueError.__init__") F₃ X₀ N₃ F.excBase_ValueError T.qi (by simp) (UpdF.tail qx (UpdF.tail sx (UpdF.head (fun p hp => by simp at hp)))) (show 1 ≤ sizeLine by rw [sizeLine_eq]; decide) (fun t' h₄ F₄ N₄ l₄ => ?_)
  have hx₄ := (N₄ (x, excObj C t' none .none) (by simp)).1
  have X₄ : K.In h₄ := X₀.keeps F₄.keep
  have hcl : clsIn K C = some { name := nm, bases := bs, mro := .ref C :: bm, ns := N, qualname := qc, hasDict := true, slotNames := sn, subclasses := sub, abstract := ab, collection := col, hasDel := false } := by
    unfold clsIn; rw [hC] <;> rfl
  show PySem.wpAt _ _ _ (execs _ _) _ _ _
  refine ks_wpAt_execs_cons (wpAt_of_wpAny (plainObj_wpAny_Assign_Attribute ?_ (by rfl)))
  refine wpAny_Name (wpAny_loadName_local rfl T.kl F₄.ns (v := v) (by simp [List.lookup]) ?_) T.nd
  refine wpAny_Name (wpAny_loadName_local rfl rfl F₄.ns vself ?_) (by decide)
  refine set_plain X₄ (ox := excObj C t' none .none) (od := none) ⟨hx₄, rfl, rfl, trivial⟩ T.sa ?_
  refine exc_osa X₄ hx₄ hcl (show refsVE (.ref C :: bm) = true from hbm) rfl T.no (fun h₅ tk₅ dx k₅ dn dne hx₅ hn₅ => ?_)
  show PySem.wpAt _ _ _ (execs [] _) _ _ _
  have sz : s.heap.objs.size < h₄.objs.size := F₄.ns.lt
  refine wpAt_of_wpAny (wpAny_execs_nil (hq h₅ tk₅ dx t' ⟨fun b o hb e => k₅ b o hb (F₄.keep b o (hideAll_get _ e (by
    intro z
    simp only [List.mem_cons, List.not_mem_nil, or_false] at z
    exact hb z))), hx₅, Nat.le_of_lt (Nat.lt_of_lt_of_le sz dn), dne, hn₅⟩))
end
end ErrKw
end PySem

namespace L2
open PySem PySem.Spec PyProof.Rows PySem.ErrKw
/-- an own error class of this program, at C, called x, with the field f -/
structure ErrC (P : Program) (K : PySem.W.Frag) (mg : Str → Option Value) (x f : Str) (C fI : Addr) : Prop where
  own : Own K C fI f
  gC : mg x = some (.ref C)
  kC : PySem.W.keepIn K (.ref C) = true
  iC : PySem.W.findIn K (.ref C) "__init__" = some (some (.ref fI))
  tI : PySem.W.typeIn K (.ref fI) = some (.type "function")
  ga : PySem.W.findIn K (.ref C) "__getattribute__" = some (some (.builtin "BaseException.__getattribute__"))
  gg : PySem.W.findIn K (.ref C) "__getattr__" = some none
  exC : PySem.W.subIn K (.ref C) (.type "BaseException") = some true
  hdC : PySem.W.hasDictIn K C = true
  ca : PySem.W.findIn K (.ref C) "__class__" = some (some (.builtin "object.__class__"))
  cg : PySem.W.specialIn K (.builtin "object.__class__") "__get__" = some (some (.builtin "getset_descriptor.__get__"))
  ct : PySem.W.takesIn K (.builtin "object.__class__") = some true
  mo : PySem.W.mroIn K C (.type "object") = some true
  isC : (PySem.W.clsIn K C).isSome = true
  sup : mg "super" = none
  top : (P.main.scope.names.lookup ("super" : Str)).isSome = false
  fil : ∀ cda ccl cdd fs ccs file tf, K.lookup cda = some ⟨ccl, cdd, .fields fs, ccs⟩ → fs[2]? = some (.str file tf) → ((P.main.file : Str) == file) = true
/-- at e: such an error with this value -/
def ErrAt (H : Hp) (e C : Addr) (f : Str) (v : V) : Prop := ∃ d, H e = some (exo e C (some d)) ∧ H d = some (exd d [(f, v)])
def sErr (C : Addr) (f : Str) (v : V) (H : Hp) (Q : VK) : Prop := ∀ e d, H e = none → H d = none → d ≠ e → Q (.ref e) (upd (upd H d (exd d [(f, v)])) e (exo e C (some d)))
section
variable {X : Cx} {x f : Str} {C fI : Addr} {pins : List (Addr × Obj)} {σ : St}
theorem run_err (Z : ErrC X.prog X.K X.mg x f C fI) (hr : Room 1 X.A) {H : Hp} {s : Shared} {Q : VK} {ps : List Value} {kw : List (Str × Value)} {v : V} {u : Value} (I : Inv X pins σ H s) (rv : RelV v u) (small : ps.length ≤ sizeLine)
    (bnd : ∀ (s' : Shared) (e : Addr) qn p1 p2 body doc pm an cdv ct cc, BindsTo s' (PySem.W.ksFn "__init__" qn (iArgs f p1 p2) body (iScope f) .none .none doc pm an cdv ct cc) ⟨.ref e :: ps, kw⟩ [("self", .ref e), (f, u)])
    (q : sErr C f v H Q) : wpAny (model X.prog X.w) X.A (call (.ref C) ps kw) (EP X pins σ Q) X.xe s := by
  obtain ⟨nm, qn, N, bs, bm, sn, sub, ab, col, dd, k0, k1, k2, k3, k5, hC, hbm⟩ := Z.own.cls
  have hlim := I.nolimit
  have Kn := I.kIn
  have G : s.heap.Ns mainGlobals X.mg := I.mod.glob.keeps I.bk
  obtain ⟨mb, B0, hmb⟩ := I.mod.blt
  have Bt : s.heap.Ns builtinsNs mb := B0.keeps I.bk
  have hsup : mb "super" = some (.type "super") := (hmb _ (by decide)).trans PyProof.Rows.Boot.«super»
  obtain ⟨hp, g, dr, tk, os⟩ := s
  have kk : ∀ b o, hp.get? b = some o → ((hp.push (PySem.W.kdv_tup ps)).push (PySem.HandSPX.excO C hp.objs.size)).get? b = some o := fun b o e => Heap.get?_push_of_some _ (Heap.get?_push_of_some _ e)
  have hget : ((hp.push (PySem.W.kdv_tup ps)).push (PySem.HandSPX.excO C hp.objs.size)).get? (hp.objs.size + 1) = some (PySem.HandSPX.excO C hp.objs.size) := by heap_get
  have hnx : X.K.lookup (hp.objs.size + 1) = none := by
    cases e : X.K.lookup (hp.objs.size + 1) with
    | none => rfl
    | some o =>
      have z : hp.get? (hp.objs.size + 1) = some o := Kn _ _ e
      exact absurd (Nat.lt_of_succ_lt (Heap.lt_size z)) (Nat.lt_irrefl _)
  refine wpAny_call (kw_call F.excBase_ValueError (fun Y => PySem.HandSPX.refsVE_contains Y bm hbm) (Kn _ _ hC) (PySem.W.looks_findIn Kn Z.iC) (fun self => PySem.W.bind_fn Kn self Z.tI) small ?_)
  refine err_init (s := ⟨(hp.push (PySem.W.kdv_tup ps)).push (PySem.HandSPX.excO C hp.objs.size), g, dr, tk, os⟩) (mg := X.mg) (mb := mb) Z.own (v := u) (Kn.keeps kk) (G.at fun o e => kk _ _ e) (Bt.at fun o e => kk _ _ e) Z.sup hsup (hlim.keeps kk) hget hnx ?_ Z.top Z.fil (bnd _ _) fun h' tk' d t1 M => ?_
  · have z := (hr.make C ps kw).dp
    omega
  · have old : ∀ b o, hp.get? b = some o → h'.get? b = some o := fun b o e => M.keep b o (Nat.ne_of_lt (Nat.lt_succ_of_lt (Heap.lt_size e))) (kk b o e)
    have dbig : hp.objs.size ≤ d := by
      have z := M.big
      rw [Heap.size_push, Heap.size_push] at z
      omega
    have He : H (hp.objs.size + 1) = none := I.hok.fresh (Nat.le_succ _)
    have Hd : H d = none := I.hok.fresh dbig
    have ned : ∀ {b : Addr} {o : Obj}, hp.get? b = some o → b ≠ d := fun {b o} z => Nat.ne_of_lt (Nat.lt_of_lt_of_le (Heap.lt_size z) dbig)
    have nee : ∀ {b : Addr} {o : Obj}, hp.get? b = some o → b ≠ hp.objs.size + 1 := fun {b o} z => Nat.ne_of_lt (Nat.lt_succ_of_lt (Heap.lt_size z))
    have Un1 : Un X.fs [] H (upd (upd H d (exd d [(f, v)])) (hp.objs.size + 1) (exo (hp.objs.size + 1) C (some d))) hp h' := {
      keep := fun b o z n _ _ => old b o z
      slot := fun b o z n _ _ => ⟨o.slots, old b o z⟩
      free := fun b o z n _ => by rw [upd_ne (nee z), upd_ne (ned z)]; exact n
      there := fun b o z _ => ⟨o, old b o z⟩
      tups := fun b xs z => by rw [upd_ne (ne_of_none z He), upd_ne (ne_of_none z Hd)]; exact z
      frzs := fun b o w z => by rw [upd_ne (ne_of_none z He), upd_ne (ne_of_none z Hd)]; exact z
      tbls := fun b ps z => ⟨#[], by rw [upd_ne (ne_of_none z He), upd_ne (ne_of_none z Hd), z]; simp⟩ }
    have J := I.un (t' := tk') Un1 (fun b o z => by
      by_cases hb : b = hp.objs.size + 1
      · subst hb
        rw [upd_same] at z
        cases z
        exact exo_ok M.obj
      · rw [upd_ne hb] at z
        by_cases hbd : b = d
        · subst hbd
          rw [upd_same] at z
          cases z
          exact exd_ok M.ns (relO_put (fs := []) rv fun g => True.intro)
        · rw [upd_ne hbd] at z
          exact (I.hok b o z).stay (fun c w _ y => old c w y) (fun c y => by rw [upd_ne (ne_of_none y He), upd_ne (ne_of_none y Hd)]; exact y) (fun c xs y => by rw [upd_ne (ne_of_none y He), upd_ne (ne_of_none y Hd)]; exact y))
    exact ⟨rfl, ⟨V.ref _, _, J, rfl, q _ d He Hd M.ne⟩⟩
/-- C(e) -/
def tErr (C : Addr) (f : Str) (te : TE) : TE := fun σ H Q => te σ H fun v H1 => sErr C f v H1 Q
theorem pe_err {e : Expr} {te : TE} {p pos : Pos} (Z : ErrC X.prog X.K X.mg x f C fI) (B : Giv f) (hr : Room 1 X.A) (ha : PE X e te) (hg : Gl X x := by rfl)
    (hdb : (x == ("__debug__" : Str)) = false := by decide) (he : starEach (e :: []) X.env = (false, eval e X.env) :: starEach [] X.env := by rfl) (hpl : (backTo pos (starEach [] X.env)).any (·.1) = false := by rfl) :
    PE X (.Call (.Name x p) [e] [] pos) (tErr C f te) := by
  refine ⟨fun pins s σ H Q I h => ?_⟩
  refine wpAny_Call_Name_kw (ld_glob I hg Z.gC ?_ hdb)
  have pa : PA X [e] (tCons te tNil) := pa_cons ha pa_nil he
  refine PySem.W.callWith_K (h₀ := X.base) I.ok.mod.kin Z.kC (thn (pa.run pos pins s σ H (fun vs H1 => match vs with | [v] => sErr C f v H1 Q | _ => False) I h) fun us s1 hh => ?_) he hpl
  obtain ⟨vs, H1, I1, r1, q1⟩ := hh
  refine ⟨I1.kIn, ?_⟩
  cases r1 with
  | nil => exact q1.elim
  | cons rv rn =>
    cases rn with
    | cons _ _ => exact q1.elim
    | nil => exact run_err Z hr I1 rv (show 1 ≤ sizeLine by rw [sizeLine_eq]; decide) (fun s' a => B.place s' (.ref a) _) q1
/-- C(f=e) -/
theorem pe_errK {e : Expr} {te : TE} {p pos kpos : Pos} (Z : ErrC X.prog X.K X.mg x f C fI) (B : Giv f) (hr : Room 1 X.A) (ha : PE X e te) (hg : Gl X x := by rfl)
    (hdb : (x == ("__debug__" : Str)) = false := by decide) (hall : (backToKw pos (keywordEach [⟨some f, e, kpos⟩] X.env)).all (·.1.isSome) = true := by rfl) (hks : (backToKw pos (keywordEach [⟨some f, e, kpos⟩] X.env)).filterMap (·.1) = [f] := by rfl)
    (hpl : ((backTo pos (starEach [] X.env)).any (·.1) || (backToKw pos (keywordEach [⟨some f, e, kpos⟩] X.env)).any (·.1.isNone)) = false := by rfl) :
    PE X (.Call (.Name x p) [] [⟨some f, e, kpos⟩] pos) (tErr C f te) := by
  refine ⟨fun pins s σ H Q I h => ?_⟩
  refine wpAny_Call_Name_kw (ld_glob I hg Z.gC ?_ hdb)
  have pk : PK X [⟨some f, e, kpos⟩] (tCons te tNil) := pk_cons ha pk_nil
  refine PySem.W.callWith_KW0 (h₀ := X.base) I.ok.mod.kin Z.kC hall (thn (pk.run pos pins s σ H (fun vs H1 => match vs with | [v] => sErr C f v H1 Q | _ => False) I h) fun us s1 hh => ?_) hpl
  obtain ⟨vs, H1, I1, r1, q1⟩ := hh
  refine ⟨I1.kIn, ?_⟩
  rw [hks]
  cases r1 with
  | nil => exact q1.elim
  | cons rv rn =>
    cases rn with
    | cons _ _ => exact q1.elim
    | nil => exact run_err Z hr I1 rv (Nat.zero_le _) (fun s' a => B.word s' (.ref a) _) q1
/-- e.f of such an error -/
def tErrF (P : Program) (K : PySem.W.Frag) (mg : Str → Option Value) (f : Str) (te : TE) : TE := fun σ H Q => te σ H fun x H1 => ∃ a n C fI v, x = .ref a ∧ ErrC P K mg n f C fI ∧ ErrAt H1 a C f v ∧ Q v H1
theorem pe_errF {e : Expr} {te : TE} {pos : Pos} (he : PE X e te) (hb : attributeBase e f X.env (eval e X.env) = eval e X.env := by rfl) : PE X (.Attribute e f pos) (tErrF X.prog X.K X.mg f te) := by
  refine ⟨fun pins s σ H Q I h => ?_⟩
  refine attr_of hb (thn (he.run pins s σ H _ I h) fun u s1 hh => ?_)
  obtain ⟨y, H1, I1, rx, a, n, C, fI, v, ex, Z, ⟨d, ea, ed⟩, q⟩ := hh
  subst ex
  obtain rfl : u = Value.ref a := rx
  obtain ⟨t1, ho⟩ := exo_at I1.hok ea
  obtain ⟨mA, hns, hrl⟩ := exd_at I1.hok ed
  obtain ⟨od, hod, hl⟩ := lookIn_ns hns
  have l : List.lookup f [(f, v)] = some v := by simp [List.lookup]
  obtain ⟨u, hu, ru⟩ := RelO.some_of (v := v) (o := mA f) (by rw [← l]; exact hrl f)
  have J : PySem.W.InstAt s1.heap a { cls := .ref C, dict := some d, data := .fields #[.ref t1, .none, .none, .none, .bool false, .none] } C (some od) := ⟨ho, rfl, rfl, hod⟩
  exact HandSPX.exc_get I1.kIn J Z.ga Z.gg Z.exC (PySem.W.findObj_own Z.hdC Z.own.no rfl (by rw [hl, hu])) (handed_of ru) ⟨v, H1, I1.tok _, ru, q⟩
/-- isinstance(e, D) -/
def rErrIs (P : Program) (K : PySem.W.Frag) (mg : Str → Option Value) : List V → Hp → VK → Prop := fun xs H Q => ∃ (a C fI : Addr) (n f : Str) (v c : V) (u : Value) (b : Bool), xs = [.ref a, c] ∧ ClsV c u ∧ ErrC P K mg n f C fI ∧ ErrAt H a C f v ∧ PySem.W.kitOne K (.ref C) u = some b ∧ Q (.bl b) H
theorem call_errIs : CallR X (.builtin "isinstance") (rErrIs X.prog X.K X.mg) := by
  intro pins s σ H xs us Q I r h
  obtain ⟨a, C, fI, n, f, v, c, u, b, rfl, k, Z, ⟨d, ea, ed⟩, e, q⟩ := h
  obtain ⟨u1, u2, rfl, r1, r2⟩ := vals2 r
  have e2 := k.eq r2
  subst e2
  obtain rfl : u1 = Value.ref a := r1
  obtain ⟨t1, ho⟩ := exo_at I.hok ea
  obtain ⟨mA, hns, hrl⟩ := exd_at I.hok ed
  obtain ⟨od, hod, hl⟩ := lookIn_ns hns
  have J : PySem.W.InstAt s.heap a { cls := .ref C, dict := some d, data := .fields #[.ref t1, .none, .none, .none, .bool false, .none] } C (some od) := ⟨ho, rfl, rfl, hod⟩
  exact PySem.W.kia_one (PySem.W.kitx_exc Z.isC Z.ga Z.gg Z.exC Z.ca Z.cg Z.ct Z.mo) I.kIn J e (fun z => by cases z) fun tk => ⟨.bl b, H, I.tok tk, rfl, q⟩
end
end L2

/-! The check of a program as a plain function over data. -/
namespace Ck
open PySem L2
/-- a value as the check sees it -/
inductive T where
  | non
  | bl (b : Bool)
  | int (i : Int)
  | str (z : Str)
  | tup (ts : List T)
  | odd (t : String)
inductive Kind where
  | run | status | var | put | option | trap | seq | pipe | andor | not | sub | ife | whl | times | jump | call | ret | exit
  deriving DecidableEq
structure CS where
  trees : Int
  cmds : List Str
  vars : List Str
  unf : Int
  fns : List (Str × Int)
  places : List Int
  loops : Int
  rets : Bool
def words : List (Str × Kind) := [("run", .run), ("status", .status), ("give", .var), ("zero", .var), ("keep", .var), ("put", .put), ("option", .option), ("trap", .trap), ("seq", .seq), ("and", .andor), ("or", .andor), ("not", .not), ("if", .ife),
  ("while", .whl), ("until", .whl), ("times", .times), ("break", .jump), ("next", .jump), ("call", .call), ("return", .ret), ("exit", .exit), ("sub", .sub), ("pipe", .pipe)]
def kindOf (z : Str) : Option Kind := words.lookup z
def reserved : List Str := ["def", "call", "status", "give", "zero", "keep", "put", "option", "trap", "on", "off", "if", "then", "else", "while", "until", "times", "do", "end", "break", "next", "return", "exit", "fail", "pipes"]
def nameOk (z : Str) : Bool := decide ((z.length : Int) ≤ 12) && (Txt.isascii z && (Txt.isalpha z && (Txt.islower z && !reserved.contains z)))
def isName : T → Bool
  | .str z => nameOk z
  | _ => false
/-- a name of a table, noted where it is new -/
def newName (ns : List Str) : T → Bool × List Str
  | .str z => if ns.contains z then (true, ns) else if nameOk z then (true, ns ++ [z]) else (false, ns)
  | _ => (false, ns)
def within (lo hi : Int) : T → Bool
  | .int i => decide (lo ≤ i) && decide (i ≤ hi)
  | _ => false
def isNon : T → Bool
  | .non => true
  | _ => false
abbrev R := Except (List Int) (Int × CS)
def b2 (b : Bool) : Int := if b then 1 else 0
/-- a size, one more -/
def inc : R → R
  | .ok (i, S) => .ok (1 + i, S)
  | .error e => .error e
def behind (f : CS → CS) : R → R
  | .ok (i, S) => .ok (i, f S)
  | .error e => .error e
section
variable (inside : CS → List T → Int → R)
def barrier (S : CS) (ps : List T) (p : Int) : R := behind (fun S' => { S' with loops := S.loops, rets := S.rets }) (inside { S with loops := 0, rets := false } ps p)
def looped (S : CS) (ps : List T) (p : Int) : R := behind (fun S' => { S' with loops := S'.loops - 1 }) (inside { S with loops := S.loops + 1 } ps p)
def named (S : CS) : List T → R
  | [_, a] => .ok (b2 (newName S.cmds a).1, { S with cmds := (newName S.cmds a).2 })
  | _ => .ok (0, S)
def varied (S : CS) (a : T) : R := .ok (b2 (newName S.vars a).1, { S with vars := (newName S.vars a).2 })
def timed (n : Int) : R → R
  | .ok (i, S) => .ok (1 + n * i, S)
  | .error e => .error e
def exited : List T → Int
  | [_, a] => b2 (isNon a || within 0 255 a)
  | _ => 0
def act (k : Kind) (S : CS) (ds : List T) (p : Int) : R :=
  match k with
  | .run => named S ds
  | .status => match ds with | [_, a] => .ok (b2 (within 0 255 a), S) | _ => .ok (0, S)
  | .var => match ds with | [_, a] => varied S a | _ => .ok (0, S)
  | .put => match ds with | [_, a, n] => if within 0 255 n then varied S a else .ok (0, S) | _ => .ok (0, S)
  | .option => match ds with | [_, .str z, .bl _] => .ok (b2 (decide (z = "fail") || decide (z = "pipes")), S) | _ => .ok (0, S)
  | .trap => match ds with | [_, .str z, b] => if z = "end" ∨ z = "fail" then (if isNon b then .ok (1, S) else inc (barrier inside S [b] p)) else .ok (0, S) | _ => .ok (0, S)
  | .seq => match ds with | [_, .tup ps] => if 2 ≤ ps.length then inc (inside S ps p) else .ok (0, S) | _ => .ok (0, S)
  | .pipe => match ds with | [_, .tup ps] => if 2 ≤ ps.length then inc (barrier inside S ps p) else .ok (0, S) | _ => .ok (0, S)
  | .andor => match ds with | [_, a, b] => inc (inside S [a, b] p) | _ => .ok (0, S)
  | .not => match ds with | [_, a] => inc (inside S [a] p) | _ => .ok (0, S)
  | .sub => match ds with | [_, a] => inc (barrier inside S [a] p) | _ => .ok (0, S)
  | .ife => match ds with | [_, c, a, b] => inc (inside S (if isNon b then [c, a] else [c, a, b]) p) | _ => .ok (0, S)
  | .whl => match ds with | [_, c, b] => inc (looped inside S [c, b] p) | _ => .ok (0, S)
  | .times => match ds with | [_, .int n, b] => if within 0 1000 (.int n) then timed n (looped inside S [b] p) else .ok (0, S) | _ => .ok (0, S)
  | .jump => match ds with | [_, .int k] => .ok (b2 (decide (1 ≤ k) && decide (k ≤ S.loops)), S) | _ => .ok (0, S)
  | .call => match ds with | [_, .str f] => (match S.fns.lookup f with | some v => .ok (1 + v, S) | none => .ok (0, S)) | _ => .ok (0, S)
  | .ret => if S.rets then .ok (exited ds, S) else .ok (0, S)
  | .exit => .ok (exited ds, S)
def one (S : CS) (p : Int) : T → R
  | .tup (.str z :: ds) => (match kindOf z with | some k => act inside k S (.str z :: ds) p | none => .ok (0, S))
  | _ => .ok (0, S)
end
/-- trees side by side -/
def many (f : CS → Int → T → R) : CS → List T → Int → Int → R
  | S, [], _, i => .ok (i, S)
  | S, d :: ds, p, i =>
    if S.trees = 3000 then .error []
    else match f { S with trees := S.trees + 1 } p d with
      | .error e => .error e
      | .ok (j, S') => if j = 0 then .error (S'.places ++ [p]) else many f S' ds (p + 1) (i + j)
def into (all : CS → List T → Int → Int → R) (S : CS) (ps : List T) (p : Int) : R :=
  if S.places.length + 1 = 60 then .error (if S.trees = 3000 then [] else S.places ++ [p] ++ [0])
  else behind (fun S' => { S' with places := S'.places.dropLast }) (all { S with places := S.places ++ [p] } ps 0 0)
def all : Nat → CS → List T → Int → Int → R
  | 0 => many (one (into fun _ _ _ _ => .error []))
  | n + 1 => many (one (into (all n)))
def ins : Nat → CS → List T → Int → R
  | 0 => into fun _ _ _ _ => .error []
  | n + 1 => into (all n)
theorem all_eq (n : Nat) : all n = many (one (ins n)) := by cases n <;> rfl
/-- the entries of the functions -/
def entries : CS → List T → Int → Except (List Int) CS
  | S, [], _ => .ok S
  | S, e :: es, k => match e with
    | .tup [a, b] => (match a with
      | .str z => if nameOk z = true ∧ S.fns.lookup z = none then (match all 59 S [b] k 0 with | .error e => .error e | .ok (i, S') => entries { S' with fns := S'.fns ++ [(z, if 3001 < i then 3001 else i)] } es (k + 1)) else .error [k]
      | _ => .error [k])
    | _ => .error [k]
def start : CS := ⟨0, [], [], 0, [], [], 0, true⟩
def check : T → Except (List Int) CS
  | .tup [.tup fs, m] => if fs.length ≤ 20 then (match entries start fs 0 with
      | .error e => .error e
      | .ok S => match all 59 { S with rets := false } [m] (-1) 0 with
        | .error e => .error e
        | .ok (i, S') => if 40 < S'.vars.length ∨ 3000 < i then .error [] else .ok { S' with unf := i }) else .error []
  | _ => .error []
/-! ### what stands in the heap as such a value -/
mutual
inductive Im (K : PySem.W.Frag) (H : Hp) : V → T → Prop
  | non : Im K H .non .non
  | bl (b : Bool) : Im K H (.bl b) (.bl b)
  | int (i : Int) : Im K H (.int i) (.int i)
  | str {z : Str} : z.length ≤ sizeLine → Im K H (.str z) (.str z)
  | tup {a : Addr} {xs : List V} {ts : List T} : H a = some (.tup xs) → Ims K H xs ts → Im K H (.ref a) (.tup ts)
  | odd {v : V} {t : String} : TyX K H v (.type t) → kitB t "int" = some false → kitB t "bool" = some false → kitB t "str" = some false → kitB t "tuple" = some false → v ≠ .non → Im K H v (.odd t)
inductive Ims (K : PySem.W.Frag) (H : Hp) : List V → List T → Prop
  | nil : Ims K H [] []
  | cons {v : V} {vs : List V} {t : T} {ts : List T} : Im K H v t → Ims K H vs ts → Ims K H (v :: vs) (t :: ts)
end
end Ck

/-! Rules of my own: an own error raised, a try whose first clause names it, a def out of a table called. -/
namespace L2
open PySem PySem.Spec PyProof.Rows PySem.ErrKw
/-- an own error class that is raised and caught -/
structure ErrR (P : Program) (K : PySem.W.Frag) (mg : Str → Option Value) (x f : Str) (C fI : Addr) : Prop where
  c : ErrC P K mg x f C fI
  tyC : PySem.W.typeIn K (.ref C) = some (.type "type")
  te : PySem.W.exmOne K (.ref C) (.ref C) = some true
/-- C(e), to be raised -/
def tMkE (C : Addr) (f : Str) (te : TE) : St → Hp → XK → Prop := fun σ H Q => te σ H fun v H1 => ∀ d, H1 d = none → Q (.ref C) (some d) (upd H1 d (.xd [(f, v)]))
section
variable {X : Cx} {x f : Str} {C fI : Addr}
theorem pmk_err {a : Expr} {te : TE} {p pos : Pos} (Z : ErrR X.prog X.K X.mg x f C fI) (Bf : Giv f) (hr : Room 1 X.A) (ha : PE X a te) (hg : Gl X x := by rfl) (hdb : (x == ("__debug__" : Str)) = false := by decide)
    (he : starEach (a :: []) X.env = (false, eval a X.env) :: starEach [] X.env := by rfl) (hpl : (backTo pos (starEach [] X.env)).any (·.1) = false := by rfl) : PMk X (.Call (.Name x p) [a] [] pos) (tMkE C f te) := by
  intro pins s σ H Q I h
  refine wpAny_Call_Name_kw (ld_glob I hg Z.c.gC ?_ hdb)
  have pa : PA X [a] (tCons te tNil) := pa_cons ha pa_nil he
  refine PySem.W.callWith_K (h₀ := X.base) I.ok.mod.kin Z.c.kC (thn (pa.run pos pins s σ H (fun vs H1 => match vs with | [v] => ∀ d, H1 d = none → Q (.ref C) (some d) (upd H1 d (.xd [(f, v)])) | _ => False) I h) fun us s1 hh => ?_) he hpl
  obtain ⟨vs, H1, I1, r1, q1⟩ := hh
  refine ⟨I1.kIn, ?_⟩
  cases r1 with
  | nil => exact q1.elim
  | @cons v u vs us rv rn =>
    cases rn with
    | cons _ _ => exact q1.elim
    | nil =>
      obtain ⟨nm, qn, N, bs, bm, sn, sub, ab, col, dd, k0, k1, k2, k3, k5, hC, hbm⟩ := Z.c.own.cls
      have lim := I1.nolimit
      have Kn := I1.kIn
      have G := I1.mod.glob.keeps I1.bk
      obtain ⟨mb, B0, hmb⟩ := I1.mod.blt
      have Bt := B0.keeps I1.bk
      have sup : mb "super" = some (.type "super") := (hmb _ (by decide)).trans PyProof.Rows.Boot.«super»
      obtain ⟨hp, g, dr, tk, os⟩ := s1
      have up : ∀ b o, hp.get? b = some o → ((hp.push (PySem.W.kdv_tup [u])).push (PySem.HandSPX.excO C hp.objs.size)).get? b = some o := fun b o e => Heap.get?_push_of_some _ (Heap.get?_push_of_some _ e)
      have at1 : ((hp.push (PySem.W.kdv_tup [u])).push (PySem.HandSPX.excO C hp.objs.size)).get? (hp.objs.size + 1) = some (PySem.HandSPX.excO C hp.objs.size) := by heap_get
      have not1 : X.K.lookup (hp.objs.size + 1) = none := by
        cases e : X.K.lookup (hp.objs.size + 1) with
        | none => rfl
        | some o =>
          have z : hp.get? (hp.objs.size + 1) = some o := Kn _ _ e
          exact absurd (Nat.lt_of_succ_lt (Heap.lt_size z)) (Nat.lt_irrefl _)
      show wpAny _ _ (call (.ref C) [u]) _ _ _
      refine wpAny_call (kw_call F.excBase_ValueError (fun Y => PySem.HandSPX.refsVE_contains Y bm hbm) (Kn _ _ hC) (PySem.W.looks_findIn Kn Z.c.iC) (fun self => PySem.W.bind_fn Kn self Z.c.tI) (show 1 ≤ sizeLine by rw [sizeLine_eq]; decide) ?_)
      refine err_init (s := ⟨(hp.push (PySem.W.kdv_tup [u])).push (PySem.HandSPX.excO C hp.objs.size), g, dr, tk, os⟩) (mg := X.mg) (mb := mb) Z.c.own (v := u) (Kn.keeps up) (G.at fun o e => up _ _ e) (Bt.at fun o e => up _ _ e) Z.c.sup sup (lim.keeps up) at1 not1 ?_ Z.c.top Z.c.fil (Bf.place _ _ _) fun h' tk' d t1 M => ?_
      · have z := (hr.make C [u] []).dp
        omega
      · have ob := M.obj
        have old : ∀ b o, hp.get? b = some o → h'.get? b = some o := fun b o e => M.keep b o (Nat.ne_of_lt (Nat.lt_succ_of_lt (Heap.lt_size e))) (up b o e)
        have big : hp.objs.size ≤ d := by
          have z := M.big
          rw [Heap.size_push, Heap.size_push] at z
          omega
        obtain ⟨B, b1, b2⟩ := restrict h' fun b => decide (b ≠ hp.objs.size + 1)
        have bk : ∀ b, b ≠ hp.objs.size + 1 → B.get? b = h'.get? b := fun b z => b1 b (decide_eq_true z)
        have be : B.get? (hp.objs.size + 1) = none := b2 _ (by simp)
        have oldB : ∀ b o, hp.get? b = some o → B.get? b = some o := fun b o z => (bk b (Nat.ne_of_lt (Nat.lt_succ_of_lt (Heap.lt_size z)))).trans (old b o z)
        have new : ObjOk X.prog X.w (upd H1 d (.xd [(f, v)])) B d (.xd [(f, v)]) := ⟨_, M.ns.at (fun o z => (bk d M.ne).trans z), relO_put (fs := []) rv fun _ => True.intro⟩
        have J : Inv X pins σ (upd H1 d (.xd [(f, v)])) ⟨B, g, dr, tk', os⟩ := I1.laid (t' := tk') oldB big new
        refine ⟨rfl, hp.objs.size + 1, _, _, ⟨B, g, dr, tk', os⟩, _, .ref C, some d, rfl, J, fun b o z => ?_, be, ob, ⟨rfl, rfl⟩, rfl, rfl, ?_, rfl, I1.bare, raises_own Z.c.exC Z.tyC, q1 d (I1.hok.fresh big)⟩
        · by_cases e : b = hp.objs.size + 1
          · have z' : B.get? b = some o := z
            rw [e, be] at z'
            cases z'
          · exact (bk b e).symm.trans z
        · rw [upd_ne (Ne.symm M.ne)]
          exact I1.hok.fresh (Nat.le_succ _)
/-- raise C(e) -/
theorem ps_raiseE {a : Expr} {te : TE} {W : WX} {p pos pos2 : Pos} (hc : X.calm = true) (Z : ErrR X.prog X.K X.mg x f C fI) (Bf : Giv f) (hr : Room 1 X.A) (tk : Takes X W) (ha : PE X a te) (hg : Gl X x := by rfl) (hdb : (x == ("__debug__" : Str)) = false := by decide)
    (he : starEach (a :: []) X.env = (false, eval a X.env) :: starEach [] X.env := by rfl) (hpl : (backTo pos (starEach [] X.env)).any (·.1) = false := by rfl) :
    PS X (.Raise (some (.Call (.Name x p) [a] [] pos)) none pos2) (fun _ σ H => te σ H fun v H1 => ∀ d, H1 d = none → W (.ref C) (some d) σ (upd H1 d (.xd [(f, v)]))) := ps_raise hc tk (pmk_err Z Bf hr ha hg hdb he hpl)
end
/-! ### a table of defs -/
structure CallT (P : Program) (w : World) (K : PySem.W.Frag) (mg : Str → Option Value) (base : Heap) (CX : CXT) (k : Nat) (f : Addr) (sp : Sp) : Prop where
  ex : ∃ (fd : FuncData) (ps : List Str), FnOk P w K mg base CX k f fd ps sp ∧ PySem.W.keepIn K (.ref f) = true ∧ Binds K fd ps []
def tCallT {ι : Type} (i : Nat) (adr : ι → Addr) (sp : ι → Sp) (E : XK) (t : TA) : TE := fun σ H Q => ∃ j : ι, σ[i]? = some (some (.ref (adr j))) ∧ t σ H fun vs H1 => sp j vs H1 Q E
section
variable {X : Cx} {CX : CXT} {k i : Nat} {E : XK} {x : Str} {p pos : Pos} {e : Expr} {es : List Expr} {t : TA} {ι : Type} {adr : ι → Addr} {sp : ι → Sp}
theorem pe_callT (A : ∀ j, CallT X.prog X.w X.K X.mg X.base CX k (adr j) (sp j)) (hr : Room k X.A) (hN : X.N[i]? = some x) (hv : Vis X.env.scope x) (hx : Passes CX X E) (ha : PA X (e :: es) t)
    (hdb : (x == ("__debug__" : Str)) = false := by decide) (hcd : (x == ("__classdict__" : Str)) = false := by decide)
    (he : starEach (e :: es) X.env = (false, eval e X.env) :: starEach es X.env := by rfl) (hpl : (backTo pos (starEach es X.env)).any (·.1) = false := by rfl) : PE X (.Call (.Name x p) (e :: es) [] pos) (tCallT i adr sp E t) := by
  refine ⟨fun pins s σ H Q I h => ?_⟩
  obtain ⟨j, hs, ht⟩ := h
  obtain ⟨fd, ps, F, hk, hb⟩ := (A j).ex
  refine (pe_callL (i := i) (f := adr j) (sp := sp j) (dvs := []) (E := E) F hr hN hv hk hb .nil hx ha hdb hcd he hpl).run pins s σ H Q I ⟨hs, ?_⟩
  have e0 : (fun (vs : List V) (H1 : Hp) => sp j (vs ++ []) H1 Q E) = fun vs H1 => sp j vs H1 Q E := by
    funext vs H1
    rw [List.append_nil]
  show t σ H (fun vs H1 => sp j (vs ++ []) H1 Q E)
  rw [e0]
  exact ht
end
end L2

/-! The small defs: integers, names. -/
namespace Ck
open PySem PySem.Spec PyProof.Rows L2
def topS (i : Nat) : Stmt := PySem.Challenge.pw_shellways_k06_bounds_of_programs.main.body.getD i (.Pass ⟨0, 0, 0, 0⟩)
abbrev sIsInt : Stmt := topS 6
abbrev sIsWithin : Stmt := topS 7
abbrev sIsName : Stmt := topS 8
abbrev sIsNew : Stmt := topS 24
abbrev sHasParts : Stmt := topS 25
/-- what the module's names hold -/
structure Md (K : PySem.W.Frag) (mg : Str → Option Value) (w : World) (dR dS : Addr) (adr : Kind → Addr) : Prop where
  mi : mg "isinstance" = none
  ml : mg "len" = none
  mm : mg "min" = none
  mint : mg "int" = none
  mbool : mg "bool" = none
  mstr : mg "str" = none
  mtup : mg "tuple" = none
  ln : ∃ t, mg "LONGEST_NAME" = some (.int 12 t)
  mf : ∃ t, mg "MOST_FUNCTIONS" = some (.int 20 t)
  mt : ∃ t, mg "MOST_TREES" = some (.int 3000 t)
  mv : ∃ t, mg "MOST_VARIABLES" = some (.int 40 t)
  mu : ∃ t, mg "MOST_UNFOLDED" = some (.int 3000 t)
  lp : ∃ t, mg "LONGEST_PATH" = some (.int 60 t)
  gn : ∃ t, mg "GREATEST_NUMBER" = some (.int 255 t)
  mr : ∃ t, mg "MOST_ROUNDS" = some (.int 1000 t)
  gR : mg "RESERVED" = some (.ref dR)
  gS : mg "SIZES" = some (.ref dS)
  kR : ∃ es n, KDict K w dR es n
  kS : ∃ es n, KDict K w dS es n
  inR : ∀ z, ∃ r, PySem.W.nsIn K dR z = some r ∧ r.isSome = reserved.contains z
  inS : ∀ z, PySem.W.nsIn K dS z = some ((kindOf z).map fun k => .ref (adr k))
def isIb : T → Bool
  | .int _ => true
  | .bl _ => true
  | _ => false
def isBl : T → Bool
  | .bl _ => true
  | _ => false
def isSt : T → Bool
  | .str _ => true
  | _ => false
def isTu : T → Bool
  | .tup _ => true
  | _ => false
theorem Im.ty {K : PySem.W.Frag} {H : Hp} {v : V} {t : T} (h : Im K H v t) : ∃ n, TyX K H v (.type n) ∧ kitB n "int" = some (isIb t) ∧ kitB n "bool" = some (isBl t) ∧ kitB n "str" = some (isSt t) ∧ kitB n "tuple" = some (isTu t) := by
  cases h with
  | non => exact ⟨_, .base .non, (by show kitB "NoneType" "int" = some false; decide +kernel), (by show kitB "NoneType" "bool" = some false; decide +kernel), (by show kitB "NoneType" "str" = some false; decide +kernel), (by show kitB "NoneType" "tuple" = some false; decide +kernel)⟩
  | bl b => exact ⟨_, .base (.bl b), (by show kitB "bool" "int" = some true; decide +kernel), (by show kitB "bool" "bool" = some true; decide +kernel), (by show kitB "bool" "str" = some false; decide +kernel), (by show kitB "bool" "tuple" = some false; decide +kernel)⟩
  | int i => exact ⟨_, .base (.int i), (by show kitB "int" "int" = some true; decide +kernel), (by show kitB "int" "bool" = some false; decide +kernel), (by show kitB "int" "str" = some false; decide +kernel), (by show kitB "int" "tuple" = some false; decide +kernel)⟩
  | @str z _ => exact ⟨_, .base (.str z), (by show kitB "str" "int" = some false; decide +kernel), (by show kitB "str" "bool" = some false; decide +kernel), (by show kitB "str" "str" = some true; decide +kernel), (by show kitB "str" "tuple" = some false; decide +kernel)⟩
  | tup e _ => exact ⟨_, .base (.tup e), (by show kitB "tuple" "int" = some false; decide +kernel), (by show kitB "tuple" "bool" = some false; decide +kernel), (by show kitB "tuple" "str" = some false; decide +kernel), (by show kitB "tuple" "tuple" = some true; decide +kernel)⟩
  | odd a b c d e _ => exact ⟨_, a, b, c, d, e⟩
theorem if_yes {c : Bool} {A B : Prop} (hc : c = true) (h : A) : if c = true then A else B := by
  rw [if_pos hc]
  exact h
theorem if_no {c : Bool} {A B : Prop} (hc : c = false) (h : B) : if c = true then A else B := by
  rw [hc, if_neg Bool.false_ne_true]
  exact h
section
variable {K : PySem.W.Frag} {H : Hp} {v : V} {t : T} {Q : VK}
/-- isinstance's reading, by the four classes that are asked for -/
theorem is_int (h : Im K H v t) (q : Q (.bl (isIb t)) H) : rIsi K [v, .ty "int"] H Q := by
  obtain ⟨n, a, b, _⟩ := h.ty
  exact ⟨_, _, _, _, _, rfl, .ty _, a, kit_ty b, q⟩
theorem is_bool (h : Im K H v t) (q : Q (.bl (isBl t)) H) : rIsi K [v, .ty "bool"] H Q := by
  obtain ⟨n, a, _, b, _⟩ := h.ty
  exact ⟨_, _, _, _, _, rfl, .ty _, a, kit_ty b, q⟩
theorem is_str (h : Im K H v t) (q : Q (.bl (isSt t)) H) : rIsi K [v, .ty "str"] H Q := by
  obtain ⟨n, a, _, _, b, _⟩ := h.ty
  exact ⟨_, _, _, _, _, rfl, .ty _, a, kit_ty b, q⟩
theorem is_tup (h : Im K H v t) (q : Q (.bl (isTu t)) H) : rIsi K [v, .ty "tuple"] H Q := by
  obtain ⟨n, a, _, _, _, b⟩ := h.ty
  exact ⟨_, _, _, _, _, rfl, .ty _, a, kit_ty b, q⟩
end
section
variable {X : Cx} {e : Expr} {te : TE} {p q pos : Pos}
abbrev tIs (K : PySem.W.Frag) (c : String) (te : TE) : TE := tCB (rIsi K) (tCons te (tCons (tC (.ty c)) tNil))
theorem pe_is {c : Str} {n : String} (mi : X.mg "isinstance" = none) (mc : X.mg c = none) (bc : bootBuiltins c = some (.type n)) (hg : Gl X "isinstance") (hc : Gl X c) (he : PE X e te)
    (hn : c ≠ "__name__" := by decide) (hd : (c == ("__debug__" : Str)) = false := by decide)
    (h1 : starEach [e, .Name c p] X.env = (false, eval e X.env) :: starEach [.Name c p] X.env := by rfl) (h2 : starEach [.Name c p] X.env = (false, eval (.Name c p) X.env) :: starEach [] X.env := by rfl) (h3 : (backTo pos (starEach [.Name c p] X.env)).any (·.1) = false := by rfl) :
    PE X (.Call (.Name "isinstance" q) [e, .Name c p] [] pos) (tIs X.K n te) :=
  pe_callB call_isi hg mi (by decide +kernel) (pa_cons he (pa_cons (pe_bltn hc mc bc rfl hn hd) pa_nil h2) h1) (by decide) (by decide) h1 h3
end
section
variable {P : Program} {w : World} {K : PySem.W.Frag} {mg : Str → Option Value} {base : Heap} {dR dS : Addr} {adr : Kind → Addr}
theorem scI : FnScope ["value"] ["value"] (defScope sIsInt) := ⟨rfl, rfl, rfl, by decide +kernel, rfl, by decide +kernel, by decide +kernel⟩
theorem scW : FnScope ["value", "least", "most"] ["value", "least", "most"] (defScope sIsWithin) := ⟨rfl, rfl, rfl, by decide +kernel, rfl, by decide +kernel, by decide +kernel⟩
theorem scN : FnScope ["value"] ["value"] (defScope sIsName) := ⟨rfl, rfl, rfl, by decide +kernel, rfl, by decide +kernel, by decide +kernel⟩
def isInt : T → Bool
  | .int _ => true
  | _ => false
def spIsInt (K : PySem.W.Frag) : Sp := fun vs H Q _ => ∃ v t, vs = [v] ∧ Im K H v t ∧ Q (.bl (isInt t)) H
theorem ok_isInt {f : Addr} {fd : FuncData} (F : Fun K "is_integer" "is_integer" sIsInt f fd) (M : Md K mg w dR dS adr) : FnOk P w K mg base CX0 1 f fd ["value"] (spIsInt K) := by
  refine F.ok scI (fun vs H Q E h => ?_) (fun cdv A outer s H vs Q E hr h => ?_)
  · obtain ⟨_, _, rfl, _⟩ := h
    rfl
  obtain ⟨v, t, rfl, im, q⟩ := h
  refine ⟨_, pss_one (ps_ret (pe_and (pe_is (n := "int") M.mi M.mint (by decide +kernel) rfl rfl (pv 0)) (pe_one (pe_not (pe_is (n := "bool") M.mi M.mbool (by decide +kernel) rfl rfl (pv 0)))))), ?_⟩
  dsimp only [L2.tRet, L2.tRetN, tAndV, tOrV, tNotV, tCB, L2.tCons, L2.tNil, tC, tVar, L2.tOp, L2.tUn, tSeq, tAsg, gName, tIfS, tTest, tNext, tAnd, tOr, tNot, L2.tIf, tFld, sFld, sFldAug, tCall, tTup, tB, tAug, tDrop, L2.tSl, tPart, tNoPart, tBM, tBM0, tChain, gTup, gCons, gNil, tPar, tIs, L2.start, List.set]
  refine ⟨_, rfl, is_int im ⟨_, rfl, ?_⟩⟩
  cases t with
  | int i => exact if_yes rfl ⟨_, rfl, is_bool im ⟨_, rfl, q⟩⟩
  | bl b => exact if_yes rfl ⟨_, rfl, is_bool im ⟨_, rfl, q⟩⟩
  | non => exact if_no rfl q
  | str _ => exact if_no rfl q
  | tup _ => exact if_no rfl q
  | odd _ => exact if_no rfl q
def spIsWithin (K : PySem.W.Frag) : Sp := fun vs H Q _ => ∃ v t lo hi, vs = [v, .int lo, .int hi] ∧ Im K H v t ∧ Q (.bl (within lo hi t)) H
theorem ok_isWithin {f : Addr} {fd : FuncData} (F : Fun K "is_integer_within" "is_integer_within" sIsWithin f fd) (M : Md K mg w dR dS adr) : FnOk P w K mg base CX0 1 f fd ["value", "least", "most"] (spIsWithin K) := by
  refine F.ok scW (fun vs H Q E h => ?_) (fun cdv A outer s H vs Q E hr h => ?_)
  · obtain ⟨_, _, _, _, rfl, _⟩ := h
    rfl
  obtain ⟨v, t, lo, hi, rfl, im, q⟩ := h
  refine ⟨_, pss_one (ps_ret (pe_and (pe_is (n := "int") M.mi M.mint (by decide +kernel) rfl rfl (pv 0)) (pe_and (pe_not (pe_is (n := "bool") M.mi M.mbool (by decide +kernel) rfl rfl (pv 0))) (pe_one (pe_chain op_le op_le (pv 1) (pv 0) (pv 2)))))), ?_⟩
  dsimp only [L2.tRet, L2.tRetN, tAndV, tOrV, tNotV, tCB, L2.tCons, L2.tNil, tC, tVar, L2.tOp, L2.tUn, tSeq, tAsg, gName, tIfS, tTest, tNext, tAnd, tOr, tNot, L2.tIf, tFld, sFld, sFldAug, tCall, tTup, tB, tAug, tDrop, L2.tSl, tPart, tNoPart, tBM, tBM0, tChain, gTup, gCons, gNil, tPar, tIs, L2.start, List.set]
  refine ⟨_, rfl, is_int im ⟨_, rfl, ?_⟩⟩
  cases t with
  | int i =>
    cases im with
    | int _ =>
      refine if_yes rfl ⟨_, rfl, is_bool (.int i) ⟨_, rfl, ⟨_, rfl, if_yes rfl ?_⟩⟩⟩
      refine ⟨_, rfl, _, rfl, _, _, rfl, rfl, _, rfl, ?_⟩
      by_cases c : lo ≤ i
      · refine if_yes (decide_eq_true c) ⟨_, rfl, _, _, rfl, rfl, ?_⟩
        have e : within lo hi (.int i) = decide (i ≤ hi) := by simp [within, c]
        rw [e] at q
        exact q
      · refine if_no (decide_eq_false c) ?_
        have e : within lo hi (.int i) = false := by simp [within, c]
        rw [e] at q
        exact q
  | bl b => exact if_yes rfl ⟨_, rfl, is_bool im ⟨_, rfl, ⟨_, rfl, if_no rfl q⟩⟩⟩
  | non => exact if_no rfl q
  | str _ => exact if_no rfl q
  | tup _ => exact if_no rfl q
  | odd _ => exact if_no rfl q
/-! ### names -/
theorem reading {R : R2} {x y : V} {H : Hp} {Q Q' : VK} (h : R x y H Q) (e : Q = Q') : R x y H Q' := e ▸ h
def spIsName (K : PySem.W.Frag) : Sp := fun vs H Q _ => ∃ v t, vs = [v] ∧ Im K H v t ∧ Q (.bl (isName t)) H
theorem b3 {a b : Bool} {P : Bool → Prop} (h1 : a = true → P b) (h0 : a = false → P false) : P (a && b) := by cases a with | true => exact h1 rfl | false => exact h0 rfl
theorem ok_isName {f : Addr} {fd : FuncData} (F : Fun K "is_name" "is_name" sIsName f fd) (M : Md K mg w dR dS adr) : FnOk P w K mg base CX0 1 f fd ["value"] (spIsName K) := by
  obtain ⟨lt, hln⟩ := M.ln
  obtain ⟨es, n, hD⟩ := M.kR
  refine F.ok scN (fun vs H Q E h => ?_) (fun cdv A outer s H vs Q E hr h => ?_)
  · obtain ⟨_, _, rfl, _⟩ := h
    rfl
  obtain ⟨v, t, rfl, im, q⟩ := h
  refine ⟨_, pss_cons (ps_if (PW.pt (pw_or (pt_not (pt_val (pe_is (n := "str") M.mi M.mstr (by decide +kernel) rfl rfl (pv 0)))) (pw_or1 (pt_cmpR op_gt (pe_callB call_len_str rfl M.ml PySem.boot_len (pa_cons (pv 0) pa_nil)) (pe_glob (v := .int 12) rfl hln ⟨_, rfl⟩) (nomark _))))) (pss_one (ps_ret pe_bl)) pss_nil)
    (pss_one (ps_ret (pe_and (pe_bm0 PySem.F.plainAttrs_str PySem.F.slot_str_isascii PySem.F.type_str_isascii mt_isascii (pv 0)) (pe_and (pe_bm0 PySem.F.plainAttrs_str PySem.F.slot_str_isalpha PySem.F.type_str_isalpha mt_isalpha (pv 0))
      (pe_and (pe_bm0 PySem.F.plainAttrs_str PySem.F.slot_str_islower PySem.F.type_str_islower mt_islower (pv 0)) (pe_one (pe_cmpR (op_notIn_kd hD) (pv 0) (pe_glob (v := .ref dR) rfl M.gR rfl) (by rfl)))))))), ?_⟩
  dsimp only [L2.tRet, L2.tRetN, tAndV, tOrV, tNotV, tCB, L2.tCons, L2.tNil, tC, tVar, L2.tOp, L2.tUn, tSeq, tAsg, gName, tIfS, tTest, tNext, tAnd, tOr, tNot, L2.tIf, tFld, sFld, sFldAug, tCall, tTup, tB, tAug, tDrop, L2.tSl, tPart, tNoPart, tBM, tBM0, tChain, gTup, gCons, gNil, tPar, tIs, L2.start, List.set]
  refine ⟨_, rfl, is_str im ⟨_, rfl, ?_⟩⟩
  have no : isSt t = false → Q (.bl false) H := fun e => by
    have z : isName t = false := by cases t <;> simp_all [isSt, isName]
    rw [z] at q
    exact q
  cases e : isSt t with
  | false => exact if_yes rfl (no e)
  | true =>
    cases t with
    | str z =>
      cases im with
      | str hz =>
      refine if_no rfl ?_
      refine ⟨_, rfl, _, rfl, hz, _, _, rfl, rfl, _, rfl, ?_⟩
      have qq : Q (.bl (nameOk z)) H := q
      unfold nameOk at qq
      by_cases c : (z.length : Int) ≤ 12
      · rw [decide_eq_true c, Bool.true_and] at qq
        refine if_no (decide_eq_false (by omega)) ?_
        refine ⟨_, rfl, rfl, _, rfl, rfl, True.intro, _, rfl, ?_⟩
        cases a1 : Txt.isascii z with
        | false => rw [a1] at qq; exact if_no rfl qq
        | true =>
          rw [a1, Bool.true_and] at qq
          refine if_yes rfl ⟨_, rfl, rfl, _, rfl, rfl, True.intro, _, rfl, ?_⟩
          cases a2 : Txt.isalpha z with
          | false => rw [a2] at qq; exact if_no rfl qq
          | true =>
            rw [a2, Bool.true_and] at qq
            refine if_yes rfl ⟨_, rfl, rfl, _, rfl, rfl, True.intro, _, rfl, ?_⟩
            cases a3 : Txt.islower z with
            | false => rw [a3] at qq; exact if_no rfl qq
            | true =>
              rw [a3, Bool.true_and] at qq
              obtain ⟨r, h1, h2⟩ := M.inR z
              rw [← h2] at qq
              exact if_yes rfl ⟨_, rfl, _, _, rfl, rfl, h1, qq⟩
      · rw [decide_eq_false c, Bool.false_and] at qq
        exact if_yes (decide_eq_true (by omega)) qq
    | non => simp [isSt] at e
    | bl _ => simp [isSt] at e
    | int _ => simp [isSt] at e
    | tup _ => simp [isSt] at e
    | odd _ => simp [isSt] at e
end
end Ck

/-! Names that are new, parts that are there. -/
namespace L2
open PySem PySem.Spec PyProof.Rows
/-- a def of the module, by its name -/
structure Go (P : Program) (w : World) (K : PySem.W.Frag) (mg : Str → Option Value) (base : Heap) (CX : CXT) (n : Nat) (x : Str) (ps : List Str) (sp : Sp) : Prop where
  ex : ∃ f fd, FnOk P w K mg base CX n f fd ps sp ∧ mg x = some (.ref f) ∧ PySem.W.keepIn K (.ref f) = true ∧ Binds K fd ps []
section
variable {X : Cx} {CX : CXT} {n : Nat} {x : Str} {ps : List Str} {sp : Sp} {p pos : Pos} {e : Expr} {es : List Expr} {t : TA} {E : XK}
theorem pe_go (G : Go X.prog X.w X.K X.mg X.base CX n x ps sp) (hr : Room n X.A) (hx : Passes CX X E) (hg : Gl X x) (ha : PA X (e :: es) t) (hdb : (x == ("__debug__" : Str)) = false := by decide)
    (he : starEach (e :: es) X.env = (false, eval e X.env) :: starEach es X.env := by rfl) (hpl : (backTo pos (starEach es X.env)).any (·.1) = false := by rfl) : PE X (.Call (.Name x p) (e :: es) [] pos) (tCall sp [] E t) := by
  obtain ⟨f, fd, F, g, k, b⟩ := G.ex
  exact pe_call F hr hg g k b .nil hx ha hdb he hpl
theorem pe_go0 (G : Go X.prog X.w X.K X.mg X.base CX n x ps sp) (hr : Room n X.A) (hx : Passes CX X E) (hg : Gl X x) (hdb : (x == ("__debug__" : Str)) = false := by decide) : PE X (.Call (.Name x p) [] [] pos) (tCall sp [] E L2.tNil) := by
  obtain ⟨f, fd, F, g, k, b⟩ := G.ex
  exact pe_call0 F hr hg g k b .nil hx hdb
theorem Go.mono {P : Program} {w : World} {K : PySem.W.Frag} {mg : Str → Option Value} {base : Heap} {j k : Nat} (G : Go P w K mg base CX j x ps sp) (h : j ≤ k) : Go P w K mg base CX k x ps sp := by
  obtain ⟨f, fd, F, r⟩ := G.ex
  exact ⟨f, fd, F.mono h, r⟩
end
theorem upd_self {H : Hp} {a : Addr} {o : HO} (h : H a = some o) : upd H a o = H := by
  funext b
  by_cases e : b = a
  · rw [e, upd_same, h]
  · rw [upd_ne e]
end L2
namespace Ck
open PySem PySem.Spec PyProof.Rows L2
/-- a table of names -/
def tab (ns : List Str) : List (Key × V) := ns.map fun z => (.inr z, .bl true)
theorem valV_tab (z : Str) : ∀ ns : List Str, (valV (tab ns) (.inr z)).isSome = ns.contains z
  | [] => rfl
  | n :: ns => by
    show (valV ((Sum.inr n, V.bl true) :: tab ns) (.inr z)).isSome = _
    by_cases e : n = z
    · rw [valV_pos (by rw [e])]
      simp [e]
    · rw [valV_neg (fun q => e (Sum.inr.inj q)), valV_tab z ns]
      simp [Ne.symm e]
theorem putK_tab {z : Str} {ns : List Str} (h : ns.contains z = false) : putK (tab ns) (.inr z) (.bl true) = tab (ns ++ [z]) := by
  unfold putK
  have e : ((tab ns).any fun kv => decide (kv.1 = (Sum.inr z : Key))) = false := by
    rw [valV_any, valV_tab, h]
  rw [e, if_neg Bool.false_ne_true]
  simp [tab]
section
variable {P : Program} {w : World} {K : PySem.W.Frag} {mg : Str → Option Value} {base : Heap} {dR dS : Addr} {adr : Kind → Addr}
theorem scNew : FnScope ["names", "value"] ["names", "value"] (defScope sIsNew) := ⟨rfl, rfl, rfl, by decide +kernel, rfl, by decide +kernel, by decide +kernel⟩
theorem scHp : FnScope ["tree"] ["tree"] (defScope sHasParts) := ⟨rfl, rfl, rfl, by decide +kernel, rfl, by decide +kernel, by decide +kernel⟩
def spNew (K : PySem.W.Frag) : Sp := fun vs H Q _ => ∃ d v t ns, vs = [.ref d, v] ∧ H d = some (.dK (tab ns)) ∧ ns.length ≤ 5000 ∧ Im K H v t ∧ Q (.bl (newName ns t).1) (upd H d (.dK (tab (newName ns t).2)))
theorem newName_str (ns : List Str) (z : Str) : newName ns (.str z) = if ns.contains z = true then (true, ns) else if nameOk z = true then (true, ns ++ [z]) else (false, ns) := rfl
abbrev GN (P : Program) (w : World) (K : PySem.W.Frag) (mg : Str → Option Value) (base : Heap) : Prop := Go P w K mg base CX0 1 "is_name" ["value"] (spIsName K)
theorem ok_isNew {f : Addr} {fd : FuncData} (F : Fun K "is_new_name" "is_new_name" sIsNew f fd) (M : Md K mg w dR dS adr) (G : GN P w K mg base) : FnOk P w K mg base CX0 2 f fd ["names", "value"] (spNew K) := by
  refine F.ok scNew (fun vs H Q E h => ?_) (fun cdv A outer s H vs Q E hr h => ?_)
  · obtain ⟨_, _, _, _, rfl, _⟩ := h
    rfl
  obtain ⟨d, v, t, ns, rfl, hd, few, im, q⟩ := h
  have hu := hu_of hr
  refine ⟨_, pss_cons (ps_if (PW.pt (pw_and (pt_val (pe_is (n := "str") M.mi M.mstr (by decide +kernel) rfl rfl (pv 1))) (pw_and1 (pt_cmp (pc_din hu (pv 1) (pv 0)) (by rfl))))) (pss_one (ps_ret pe_bl)) pss_nil)
    (pss_cons (ps_if (pt_not (pt_val (pe_go G hr pass0 rfl (pa_cons (pv 1) pa_nil)))) (pss_one (ps_ret pe_bl)) pss_nil)
    (pss_cons (ps_dput hu (pv 0) (pv 1) pe_bl rfl) (pss_one (ps_ret pe_bl)))), ?_⟩
  dsimp only [L2.tRet, L2.tRetN, tAndV, tOrV, tNotV, tCB, L2.tCons, L2.tNil, tC, tVar, L2.tOp, L2.tUn, tSeq, tAsg, gName, tIfS, tTest, tNext, tAnd, tOr, tNot, L2.tIf, tFld, sFld, sFldAug, tCall, tTup, tB, tAug, tDrop, L2.tSl, tPart, tNoPart, tBM, tBM0, tChain, gTup, gCons, gNil, tPar, tIs, List.set, tDIn, sDPut]
  refine ⟨_, rfl, is_str im ⟨_, rfl, ?_⟩⟩
  have self : upd H d (.dK (tab ns)) = H := upd_self hd
  have out : isName t = false → Q (.bl (newName ns t).1) (upd H d (.dK (tab (newName ns t).2))) → isSt t = false → Q (.bl false) H := fun _ z e => by
    have y : newName ns t = (false, ns) := by cases t <;> simp_all [isSt, newName]
    rw [y] at z
    dsimp only at z
    rw [self] at z
    exact z
  cases e : isSt t with
  | false =>
    have n : isName t = false := by cases t <;> simp_all [isSt, isName]
    refine if_no rfl (if_no rfl ?_)
    refine ⟨_, rfl, v, t, rfl, im, _, rfl, ?_⟩
    rw [n]
    exact if_yes rfl (out n q e)
  | true =>
    cases t with
    | str z =>
      cases im with
      | str hz =>
      refine if_yes rfl ⟨_, rfl, _, rfl, d, _, rfl, DGet.k (k := Sum.inr z) hd, _, rfl, ?_⟩
      rw [valV_tab]
      have qq : Q (.bl (newName ns (.str z)).1) (upd H d (.dK (tab (newName ns (.str z)).2))) := q
      rw [newName_str] at qq
      cases c : ns.contains z with
      | true =>
        rw [c, if_pos rfl] at qq
        dsimp only at qq
        rw [self] at qq
        exact if_yes rfl qq
      | false =>
        rw [c, if_neg Bool.false_ne_true] at qq
        refine if_no rfl ⟨_, rfl, _, .str z, rfl, .str hz, _, rfl, ?_⟩
        show if (!nameOk z) = true then _ else _
        cases m : nameOk z with
        | false =>
          rw [m, if_neg Bool.false_ne_true] at qq
          dsimp only at qq
          rw [self] at qq
          exact if_yes rfl qq
        | true =>
          rw [m, if_pos rfl] at qq
          refine if_no rfl ⟨_, rfl, _, rfl, d, _, rfl, DPut.k (k := Sum.inr z) hd (by unfold tab; rw [List.length_map, sizeLine_eq]; omega), ?_⟩
          rw [putK_tab c]
          exact qq
    | non => simp [isSt] at e
    | bl _ => simp [isSt] at e
    | int _ => simp [isSt] at e
    | tup _ => simp [isSt] at e
    | odd _ => simp [isSt] at e
def hasParts : List T → Bool
  | [_, .tup ps] => decide (2 ≤ ps.length)
  | _ => false
theorem Ims.len {H : Hp} : ∀ {xs : List V} {ts : List T}, Ims K H xs ts → xs.length = ts.length
  | _, _, .nil => rfl
  | _, _, .cons _ r => by rw [List.length_cons, List.length_cons, Ims.len r]
def spHp (K : PySem.W.Frag) : Sp := fun vs H Q _ => ∃ a xs ts, vs = [.ref a] ∧ H a = some (.tup xs) ∧ Ims K H xs ts ∧ Q (.bl (hasParts ts)) H
theorem sqt {H : Hp} {a : Addr} {xs : List V} (h : H a = some (.tup xs)) : SqT K H a xs := Or.inl (Or.inl h)
theorem ok_hp {f : Addr} {fd : FuncData} (F : Fun K "has_parts" "has_parts" sHasParts f fd) (M : Md K mg w dR dS adr) : FnOk P w K mg base CX0 1 f fd ["tree"] (spHp K) := by
  refine F.ok scHp (fun vs H Q E h => ?_) (fun cdv A outer s H vs Q E hr h => ?_)
  · obtain ⟨_, _, _, rfl, _⟩ := h
    rfl
  obtain ⟨a, xs, ts, rfl, ha, im, q⟩ := h
  refine ⟨_, pss_one (ps_ret (pe_and (pe_cmpR op_eq (pe_callB call_len_seq rfl M.ml PySem.boot_len (pa_cons (pv 0) pa_nil)) pe_int (nomark _)) (pe_and (pe_is (n := "tuple") M.mi M.mtup (by decide +kernel) rfl rfl (pe_ix ix_tup (pv 0) pe_int fun _ _ => rfl))
    (pe_one (pe_cmpR op_ge (pe_callB call_len_seq rfl M.ml PySem.boot_len (pa_cons (pe_ix ix_tup (pv 0) pe_int fun _ _ => rfl) pa_nil)) pe_int (nomark _)))))), ?_⟩
  dsimp only [L2.tRet, L2.tRetN, tAndV, tOrV, tNotV, tCB, L2.tCons, L2.tNil, tC, tVar, L2.tOp, L2.tUn, tSeq, tAsg, gName, tIfS, tTest, tNext, tAnd, tOr, tNot, L2.tIf, tFld, sFld, sFldAug, tCall, tTup, tB, tAug, tDrop, L2.tSl, tPart, tNoPart, tBM, tBM0, tChain, gTup, gCons, gNil, tPar, tIs, List.set]
  have ln := im.len
  refine ⟨_, rfl, a, xs, rfl, .inr (sqt ha), rfl, _, rfl, ?_⟩
  have no : xs.length ≠ 2 → Q (.bl false) H := fun c => by
    have z : hasParts ts = false := by
      rcases ts with _ | ⟨a, _ | ⟨b, _ | ⟨c, r⟩⟩⟩ <;> first | rfl | (exfalso; apply c; rw [ln]; rfl) | (cases b <;> rfl)
    rw [z] at q
    exact q
  by_cases c : xs.length = 2
  · refine if_yes (decide_eq_true (by rw [c]; rfl)) ?_
    obtain ⟨x0, x1, rfl⟩ : ∃ x0 x1, xs = [x0, x1] := by
      rcases xs with _ | ⟨x0, _ | ⟨x1, _ | ⟨x2, r⟩⟩⟩ <;> simp at c
      exact ⟨_, _, rfl⟩
    rcases im with _ | ⟨i0, _ | ⟨i1, _ | _⟩⟩
    rename_i t0 t1
    refine ⟨_, rfl, a, _, _, _, rfl, rfl, sqt ha, rfl, is_tup i1 ⟨_, rfl, ?_⟩⟩
    cases e : isTu t1 with
    | false =>
      have z : hasParts [t0, t1] = false := by cases t1 <;> simp_all [isTu, hasParts]
      rw [z] at q
      exact if_no rfl q
    | true =>
      cases t1 with
      | tup ps =>
        cases i1 with
        | @tup b ys _ hb ip =>
        have l2 := ip.len
        refine if_yes rfl ⟨_, rfl, a, _, _, _, rfl, rfl, sqt ha, rfl, b, ys, rfl, .inr (sqt hb), _, _, rfl, rfl, ?_⟩
        have z : hasParts [t0, .tup ps] = decide ((ys.length : Int) ≥ 2) := by
          show decide (2 ≤ ps.length) = _
          rw [l2]
          exact decide_eq_decide.mpr (by omega)
        rw [z] at q
        exact q
      | non => simp [isTu] at e
      | bl _ => simp [isTu] at e
      | int _ => simp [isTu] at e
      | str _ => simp [isTu] at e
      | odd _ => simp [isTu] at e
  · exact if_no (decide_eq_false (by intro z; apply c; have y := V.int.inj z; omega)) (no c)
end
end Ck

/-! Promises of defs deep below one another: one place of the stack for each call, where Room counts three. -/
namespace L2
open PySem PySem.Spec PyProof.Rows
structure RoomD (k : Nat) (A : Around) : Prop where
  hd : A.handled = none
  dp : A.depth + k + 20 < recursionLimit
  un : A.units + 3 * k + 300 < cLine
theorem RoomD.mono {j k : Nat} {A : Around} (r : RoomD k A) (h : j ≤ k) : RoomD j A := ⟨r.hd, by have := r.dp; omega, by have := r.un; omega⟩
theorem RoomD.low {k : Nat} {A : Around} (r : RoomD k A) : Room 5 A := ⟨r.hd, by have := r.dp; omega, by have := r.un; omega⟩
theorem RoomD.deeper {k : Nat} {A : Around} (r : RoomD (k + 1) A) (e : Env) : RoomD k (A.deeper e) := ⟨r.hd, by have := r.dp; show A.depth + 1 + k + 20 < _; omega, by have := r.un; show A.units + 3 + 3 * k + 300 < _; omega⟩
theorem RoomD.depth {k : Nat} {A : Around} (r : RoomD k A) : A.depth < recursionLimit := by have := r.dp; omega
theorem Room.high {k m : Nat} {A : Around} (r : Room k A) (h : m + 15 ≤ 3 * k) (h2 : 3 * m + 100 ≤ 16 * k) : RoomD m A := ⟨r.hd, by have := r.dp; omega, by have := r.un; omega⟩
structure FnD (P : Program) (w : World) (K : PySem.W.Frag) (mg : Str → Option Value) (base : Heap) (CX : CXT) (k : Nat) (f : Addr) (fd : FuncData) (ps : List Str) (sp : Sp) : Prop where
  len : ∀ vs H Q E, sp vs H Q E → vs.length = ps.length
  run : ∀ (A : Around) (outer : List Env) (s : Shared) (H : Hp) (args : Args) (us : List Value) (vs : List V) (Q : VK) (E : XK), RoomD k A → Env0 P w K mg base A outer s H → BindsTo s fd args (ps.zip us) → Vals vs us → sp vs H Q E →
    codeAny (model P w) A (.call (.ref f) args) (CR CX outer P w H s Q E) s
section
variable {P : Program} {w : World} {K : PySem.W.Frag} {mg : Str → Option Value} {base : Heap} {CX : CXT} {j k : Nat} {f : Addr} {fd : FuncData} {ps : List Str} {sp : Sp}
theorem FnD.mono (F : FnD P w K mg base CX j f fd ps sp) (h : j ≤ k) : FnD P w K mg base CX k f fd ps sp := ⟨F.len, fun A outer s H args us vs Q E hr => F.run A outer s H args us vs Q E (hr.mono h)⟩
theorem FnD.of (F : FnOk P w K mg base CX j f fd ps sp) (h : j ≤ 5) : FnD P w K mg base CX k f fd ps sp := ⟨F.len, fun A outer s H args us vs Q E hr => F.run A outer s H args us vs Q E (hr.low.mono h)⟩
theorem FnD.ok (F : FnD P w K mg base CX j f fd ps sp) (h : j + 15 ≤ 3 * k) (h2 : 3 * j + 100 ≤ 16 * k) : FnOk P w K mg base CX k f fd ps sp := ⟨F.len, fun A outer s H args us vs Q E hr => F.run A outer s H args us vs Q E (hr.high h h2)⟩
end
/-- the def's body, run so deep -/
theorem okXD {P : Program} {w : World} {K : PySem.W.Frag} {mg : Str → Option Value} {base : Heap} {x qual : Str} {stm : Stmt} {f : Addr} {fd : FuncData} {N ps : List Str} {k : Nat} {sp : Sp}
    (F : Fun K x qual stm f fd) (S : FnScope N ps (defScope stm)) (many : ∀ vs H Q E, sp vs H Q E → vs.length = ps.length)
    (body : ∀ (cdv : Value) (A : Around) (outer : List Env) (st : Shared) (H : Hp) (vs : List V) (Q : VK) (E : XK), RoomD k (A.deeper (envOfC qual (defScope stm) st.heap.objs.size f cdv)) → sp vs H Q E →
      ∃ t, PSs (cxOf (L2.CX P w) P w K mg base N qual (defScope stm) f cdv A outer st H E) (defBody stm) t ∧ t { nx := fun _ H' => Q .non H', rt := Q } (L2.start N vs) H) :
    FnD P w K mg base (L2.CX P w) (k + 1) f fd ps sp := by
  obtain ⟨oc, od, kV, doc, pm, an, cdv, ct, osl, rfl, look, code⟩ := F.ex
  refine ⟨many, fun A outer st H args us vs Q E hr e0 hb hv hs => ?_⟩
  have nvs := many _ _ _ _ hs
  have Kin : K.In st.heap := e0.mod.kin.keeps fun b o e => (e0.bs b o e).1
  have lim : st.heap.NoLimit := e0.mod.nolimit.keeps fun b o e => (e0.bs b o e).1
  have kinds : ∀ y ∈ ps.zip us, (defScope stm).names.lookup y.1 = some .local ∨ ((defScope stm).names.lookup y.1 = some .cell ∧ ((cellsFrom (st.heap.objs.size + 1) (defScope stm).names []).lookup y.1).isSome = true) := by
    intro y hy
    obtain ⟨n, v⟩ := y
    rcases S.par n (List.of_mem_zip hy).1 with z | z
    · exact Or.inl z
    · exact Or.inr ⟨z, PySem.W.cellsFrom_some _ _ _ (.inl z)⟩
  refine codeAny_call_function hr.depth (Kin _ _ look) rfl S.co S.gen rfl (PySem.W.codeRec_of Kin code) (hb _ _ _ _ ?_)
  refine wpAny_newFunctionEnv_cells S.kind kinds fun env he sB xB => ?_
  subst he
  refine ⟨lim.keeps xB.toInCall.keep, codeAny_func ?_⟩
  obtain ⟨t, ht, hq⟩ := body cdv A outer st H vs Q E (hr.deeper _) hs
  have J0 : Inv (cxOf (L2.CX P w) P w K mg base N qual (defScope stm) f cdv A outer st H E) [] (L2.start N vs) H sB := inv_start S hr.hd e0 nvs hv xB
  refine wpAny_mono (ht.run [] sB (L2.start N vs) H _ J0 hq) (fun fl sC hC => ?_) fun _ _ z => z
  cases fl with
  | ret u =>
    obtain ⟨v, σ2, H2, J, rv, z⟩ := hC
    exact ⟨v, H2, J.os, J.bare, J.base, J.hok, rv, z⟩
  | next =>
    obtain ⟨σ2, H2, J, z⟩ := hC
    exact ⟨V.non, H2, J.os, J.bare, J.base, J.hok, rfl, z⟩
  | brk =>
    obtain ⟨_, _, _, z⟩ := hC
    exact z.elim
  | cont =>
    obtain ⟨_, _, _, z⟩ := hC
    exact z.elim
section
variable {X : Cx} {CX : CXT} {k : Nat} {f : Addr} {fd : FuncData} {ps : List Str} {sp : Sp} {x : Str} {p pos : Pos} {e : Expr} {es : List Expr} {t : TA} {E : XK}
/-- such a def, run where it is called -/
theorem run_deep {pins : List (Addr × Obj)} {σ : St} {H : Hp} {s : Shared} {Q : VK} {us : List Value} {vs : List V} (F : FnD X.prog X.w X.K X.mg X.base CX k f fd ps sp) (hr : RoomD k X.A) (hb : Binds X.K fd ps []) (hx : Passes CX X E) (I : Inv X pins σ H s) (r : Vals vs us) (h : sp vs H Q E) :
    wpAny (model X.prog X.w) X.A (call (.ref f) us) (EP X pins σ Q) X.xe s := by
  have l : us.length = ps.length := by
    rw [← r.length]
    exact F.len _ _ _ _ h
  have bd := hb s us I.kIn (by rw [List.append_nil]; exact l)
  rw [List.append_nil] at bd
  refine wpAny_call (codeAny_mono (F.run X.A X.stack s H ⟨us, []⟩ us vs Q E hr I.env0 bd r h) fun res sC hC => ?_)
  cases res with
  | error er => exact hx pins σ H s er sC I hC
  | ok fl =>
    cases fl with
    | ret u => exact I.after hC
    | next => exact hC.elim
    | brk => exact hC.elim
    | cont => exact hC.elim
structure GoD (P : Program) (w : World) (K : PySem.W.Frag) (mg : Str → Option Value) (base : Heap) (CX : CXT) (n : Nat) (x : Str) (ps : List Str) (sp : Sp) : Prop where
  ex : ∃ f fd, FnD P w K mg base CX n f fd ps sp ∧ mg x = some (.ref f) ∧ PySem.W.keepIn K (.ref f) = true ∧ Binds K fd ps []
theorem pe_goD {n : Nat} (G : GoD X.prog X.w X.K X.mg X.base CX n x ps sp) (hr : RoomD n X.A) (hx : Passes CX X E) (hg : Gl X x) (ha : PA X (e :: es) t) (hdb : (x == ("__debug__" : Str)) = false := by decide)
    (he : starEach (e :: es) X.env = (false, eval e X.env) :: starEach es X.env := by rfl) (hpl : (backTo pos (starEach es X.env)).any (·.1) = false := by rfl) : PE X (.Call (.Name x p) (e :: es) [] pos) (tCall sp [] E t) := by
  obtain ⟨f, fd, F, hm, hk, hb⟩ := G.ex
  refine ⟨fun pins st σ H Q I h => ?_⟩
  refine wpAny_Call_Name_kw (ld_glob I hg hm ?_ hdb)
  refine PySem.W.callWith_K (h₀ := X.base) I.ok.mod.kin hk (thn (ha.run pos pins st σ H _ I h) fun us sB hh => ?_) he hpl
  obtain ⟨vs, H1, I1, r, q⟩ := hh
  refine ⟨I1.kIn, ?_⟩
  have q2 : sp vs H1 Q E := by
    have z := q
    rw [List.append_nil] at z
    exact z
  exact run_deep F hr hb hx I1 r q2
structure CallD (P : Program) (w : World) (K : PySem.W.Frag) (mg : Str → Option Value) (base : Heap) (CX : CXT) (k : Nat) (f : Addr) (sp : Sp) : Prop where
  ex : ∃ (fd : FuncData) (ps : List Str), FnD P w K mg base CX k f fd ps sp ∧ PySem.W.keepIn K (.ref f) = true ∧ Binds K fd ps []
theorem pe_callTD {i : Nat} {ι : Type} {adr : ι → Addr} {sp : ι → Sp} (A : ∀ j, CallD X.prog X.w X.K X.mg X.base CX k (adr j) (sp j)) (hr : RoomD k X.A) (hN : X.N[i]? = some x) (hv : Vis X.env.scope x) (hx : Passes CX X E) (ha : PA X (e :: es) t)
    (hdb : (x == ("__debug__" : Str)) = false := by decide) (hcd : (x == ("__classdict__" : Str)) = false := by decide)
    (he : starEach (e :: es) X.env = (false, eval e X.env) :: starEach es X.env := by rfl) (hpl : (backTo pos (starEach es X.env)).any (·.1) = false := by rfl) : PE X (.Call (.Name x p) (e :: es) [] pos) (tCallT i adr sp E t) := by
  refine ⟨fun pins s σ H Q I h => ?_⟩
  obtain ⟨j, hs, ht⟩ := h
  obtain ⟨fd, ps, F, hk, hb⟩ := (A j).ex
  refine wpAny_Call_Name_kw (thn ((pe_var hN hv hdb hcd).run pins s σ H (fun v H1 => v = V.ref (adr j) ∧ H1 = H) I ⟨_, hs, rfl, rfl⟩) fun u s1 hh => ?_)
  obtain ⟨v, H1, I1, r1, rfl, rfl⟩ := hh
  obtain rfl : u = Value.ref (adr j) := r1
  refine PySem.W.callWith_K (h₀ := X.base) I1.ok.mod.kin hk (thn (ha.run pos pins s1 σ _ _ I1 ht) fun us s2 hh => ?_) he hpl
  obtain ⟨vs, H2, I2, r, q⟩ := hh
  exact ⟨I2.kIn, run_deep F hr hb hx I2 r q⟩
end
end L2

/-! The check's own object, and what each def does with it. -/
namespace Ck
open PySem PySem.Spec PyProof.Rows L2
/-- where the check, its dict, its tables and its list stand -/
structure Foot where
  c : Addr
  dx : Addr
  dc : Addr
  dv : Addr
  df : Addr
  dp : Addr
def flds (F : Foot) (S : CS) : List (Str × V) := [("trees", .int S.trees), ("commands", .ref F.dc), ("variables", .ref F.dv), ("unfolded", .int S.unf), ("functions", .ref F.df), ("places", .ref F.dp), ("loops", .int S.loops), ("returns", .bl S.rets)]
def ftab (fs : List (Str × Int)) : List (Key × V) := fs.map fun p => (.inr p.1, .int p.2)
structure At (C : Addr) (H : Hp) (F : Foot) (S : CS) : Prop where
  c : H F.c = some (.ins C F.dx (flds F S))
  dc : H F.dc = some (.dK (tab S.cmds))
  dv : H F.dv = some (.dK (tab S.vars))
  df : H F.df = some (.dK (ftab S.fns))
  dp : H F.dp = some (.lst (S.places.map V.int))
  cv : F.dc ≠ F.dv
  cf : F.dc ≠ F.df
  vf : F.dv ≠ F.df
structure Ok (S : CS) : Prop where
  lo : 0 ≤ S.trees
  hi : S.trees ≤ 3000
  cm : (S.cmds.length : Int) ≤ S.trees
  va : (S.vars.length : Int) ≤ S.trees
/-- with one tree more than names -/
structure Ok1 (S : CS) : Prop where
  lo : 0 ≤ S.trees
  hi : S.trees ≤ 3000
  cm : (S.cmds.length : Int) + 1 ≤ S.trees
  va : (S.vars.length : Int) + 1 ≤ S.trees
theorem Ok1.ok {S : CS} (h : Ok1 S) : Ok S := ⟨h.lo, h.hi, by have := h.cm; omega, by have := h.va; omega⟩
theorem newName_len (ns : List Str) (t : T) : (newName ns t).2.length ≤ ns.length + 1 := by
  cases t with
  | str z =>
    rw [newName_str]
    split
    · exact Nat.le_succ _
    · split
      · simp
      · exact Nat.le_succ _
  | _ => exact Nat.le_succ _
structure Free (F : Foot) (G : Hp) : Prop where
  c : G F.c = none
  dc : G F.dc = none
  dv : G F.dv = none
  df : G F.df = none
  dp : G F.dp = none
/-- what comes of a def that gives a size, over the data G -/
def Res (C IP : Addr) (F : Foot) (G : Hp) (pl : List Int) (r : R) (Q : VK) (E : XK) : Prop := match r with
  | .ok (i, S) => ∀ H', Same G H' → At C H' F S → Ok S → S.places = pl → Q (.int i) H'
  | .error path => ∀ H' d p, Same G H' → H' d = some (.xd [("path", .ref p)]) → H' p = some (.tup (path.map V.int)) → E (.ref IP) (some d) H'
section
variable {C IP : Addr} {F : Foot} {G H : Hp} {S : CS} {K : PySem.W.Frag}
theorem Same.up {p : Addr} {o : HO} (h : Same G H) (n : G p = none) : Same G (upd H p o) := fun b u z => by
  rw [upd_ne (ne_of_none z n)]
  exact h b u z
theorem Same.new {p : Addr} {o : HO} (h : Same G H) (n : H p = none) : Same G (upd H p o) := fun b u z => by
  rw [upd_ne (ne_of_none (h b u z) n)]
  exact h b u z
theorem Same.non {p : Addr} (h : Same G H) (n : H p = none) : G p = none := by
  cases e : G p with
  | none => rfl
  | some u =>
    rw [h p u e] at n
    cases n
/-- the data, and one thing more -/
theorem Same.both {p : Addr} {o : HO} (h : Same G H) : Same (upd G p o) (upd H p o) := fun b u z => by
  by_cases e : b = p
  · subst e
    rw [upd_same] at z ⊢
    exact z
  · rw [upd_ne e] at z ⊢
    exact h b u z
theorem Same.left {p : Addr} {o : HO} {H' : Hp} (h : Same (upd G p o) H') (n : G p = none) : Same G H' := fun b u z => h b u (by rw [upd_ne (ne_of_none z n)]; exact z)
theorem At.ne {p : Addr} (a : At C H F S) (n : H p = none) : F.c ≠ p ∧ F.dc ≠ p ∧ F.dv ≠ p ∧ F.df ≠ p ∧ F.dp ≠ p := ⟨ne_of_none a.c n, ne_of_none a.dc n, ne_of_none a.dv n, ne_of_none a.df n, ne_of_none a.dp n⟩
theorem At.new {p : Addr} {o : HO} (a : At C H F S) (n : H p = none) : At C (upd H p o) F S := by
  obtain ⟨n1, n2, n3, n4, n5⟩ := a.ne n
  exact ⟨by rw [upd_ne n1]; exact a.c, by rw [upd_ne n2]; exact a.dc, by rw [upd_ne n3]; exact a.dv, by rw [upd_ne n4]; exact a.df, by rw [upd_ne n5]; exact a.dp, a.cv, a.cf, a.vf⟩
theorem Free.new {p : Addr} {o : HO} (f : Free F G) (a : At C H F S) (n : H p = none) : Free F (upd G p o) := by
  obtain ⟨n1, n2, n3, n4, n5⟩ := a.ne n
  exact ⟨by rw [upd_ne n1]; exact f.c, by rw [upd_ne n2]; exact f.dc, by rw [upd_ne n3]; exact f.dv, by rw [upd_ne n4]; exact f.df, by rw [upd_ne n5]; exact f.dp⟩
theorem At.cne (a : At C H F S) : F.dc ≠ F.c ∧ F.dv ≠ F.c ∧ F.df ≠ F.c ∧ F.dp ≠ F.c :=
  ⟨ne_of a.dc a.c (by intro z; cases z), ne_of a.dv a.c (by intro z; cases z), ne_of a.df a.c (by intro z; cases z), ne_of a.dp a.c (by intro z; cases z)⟩
/-- a field of the check is set -/
theorem At.set (a : At C H F S) {S' : CS} {f : Str} {v : V} (e : putF f v (flds F S) = flds F S') (e1 : S'.cmds = S.cmds) (e2 : S'.vars = S.vars) (e3 : S'.fns = S.fns) (e4 : S'.places = S.places) : At C (upd H F.c (.ins C F.dx (putF f v (flds F S)))) F S' := by
  obtain ⟨n1, n2, n3, n4⟩ := a.cne
  exact ⟨by rw [upd_same, e], by rw [upd_ne n1, e1]; exact a.dc, by rw [upd_ne n2, e2]; exact a.dv, by rw [upd_ne n3, e3]; exact a.df, by rw [upd_ne n4, e4]; exact a.dp, a.cv, a.cf, a.vf⟩
theorem put_trees {i : Int} : putF "trees" (.int i) (flds F S) = flds F { S with trees := i } := by with_unfolding_all rfl
theorem put_loops {i : Int} : putF "loops" (.int i) (flds F S) = flds F { S with loops := i } := by with_unfolding_all rfl
theorem put_rets {b : Bool} : putF "returns" (.bl b) (flds F S) = flds F { S with rets := b } := by with_unfolding_all rfl
theorem put_unf {i : Int} : putF "unfolded" (.int i) (flds F S) = flds F { S with unf := i } := by with_unfolding_all rfl
theorem At.cmds (a : At C H F S) (ns : List Str) : At C (upd H F.dc (.dK (tab ns))) F { S with cmds := ns } := by
  obtain ⟨n1, n2, n3, n4⟩ := a.cne
  exact ⟨by rw [upd_ne (Ne.symm n1)]; exact a.c, upd_same, by rw [upd_ne (Ne.symm a.cv)]; exact a.dv, by rw [upd_ne (Ne.symm a.cf)]; exact a.df, by rw [upd_ne (ne_of a.dp a.dc (by intro z; cases z))]; exact a.dp, a.cv, a.cf, a.vf⟩
theorem At.vars (a : At C H F S) (ns : List Str) : At C (upd H F.dv (.dK (tab ns))) F { S with vars := ns } := by
  obtain ⟨n1, n2, n3, n4⟩ := a.cne
  exact ⟨by rw [upd_ne (Ne.symm n2)]; exact a.c, by rw [upd_ne a.cv]; exact a.dc, upd_same, by rw [upd_ne (Ne.symm a.vf)]; exact a.df, by rw [upd_ne (ne_of a.dp a.dv (by intro z; cases z))]; exact a.dp, a.cv, a.cf, a.vf⟩
theorem At.fns (a : At C H F S) (fs : List (Str × Int)) : At C (upd H F.df (.dK (ftab fs))) F { S with fns := fs } := by
  obtain ⟨n1, n2, n3, n4⟩ := a.cne
  exact ⟨by rw [upd_ne (Ne.symm n3)]; exact a.c, by rw [upd_ne a.cf]; exact a.dc, by rw [upd_ne a.vf]; exact a.dv, upd_same, by rw [upd_ne (ne_of a.dp a.df (by intro z; cases z))]; exact a.dp, a.cv, a.cf, a.vf⟩
theorem At.places (a : At C H F S) (ps : List Int) : At C (upd H F.dp (.lst (ps.map V.int))) F { S with places := ps } := by
  obtain ⟨n1, n2, n3, n4⟩ := a.cne
  exact ⟨by rw [upd_ne (Ne.symm n4)]; exact a.c, by rw [upd_ne (ne_of a.dc a.dp (by intro z; cases z))]; exact a.dc, by rw [upd_ne (ne_of a.dv a.dp (by intro z; cases z))]; exact a.dv, by rw [upd_ne (ne_of a.df a.dp (by intro z; cases z))]; exact a.df, upd_same, a.cv, a.cf, a.vf⟩
theorem tyOf_mono (h : Same G H) {v : V} {t : Value} (y : TyOf K G v t) : TyOf K H v t := by
  cases y with
  | non => exact .non
  | bl x => exact .bl x
  | int i => exact .int i
  | str x => exact .str x
  | flt x => exact .flt x
  | lst e => exact .lst (h _ _ e)
  | frz e => exact .frz (h _ _ e)
  | tup e => exact .tup (h _ _ e)
  | dK e => exact .dK (h _ _ e)
  | dT e => exact .dT (h _ _ e)
  | ins e a b c d f => exact .ins (h _ _ e) a b c d f
theorem tyX_mono (h : Same G H) {v : V} {t : Value} (y : TyX K G v t) : TyX K H v t := by
  cases y with
  | base b => exact .base (tyOf_mono h b)
  | byt b => exact .byt b
  | set e => exact .set (h _ _ e)
  | kList e c => exact .kList e c
  | kTuple e c => exact .kTuple e c
  | kDict e c => exact .kDict e c
  | fTuple e => exact .fTuple (h _ _ e)
  | fDict e => exact .fDict (h _ _ e)
mutual
theorem Im.mono (h : Same G H) : ∀ {v : V} {t : T}, Im K G v t → Im K H v t
  | _, _, .non => .non
  | _, _, .bl b => .bl b
  | _, _, .int i => .int i
  | _, _, .str z => .str z
  | _, _, .tup e r => .tup (h _ _ e) (Ims.mono h r)
  | _, _, .odd a b c d e n => .odd (tyX_mono h a) b c d e n
theorem Ims.mono (h : Same G H) : ∀ {vs : List V} {ts : List T}, Ims K G vs ts → Ims K H vs ts
  | _, _, .nil => .nil
  | _, _, .cons a r => .cons (Im.mono h a) (Ims.mono h r)
end
theorem get_trees : List.lookup ("trees" : Str) (flds F S) = some (V.int S.trees) := by with_unfolding_all rfl
theorem get_cmds : List.lookup ("commands" : Str) (flds F S) = some (V.ref F.dc) := by with_unfolding_all rfl
theorem get_vars : List.lookup ("variables" : Str) (flds F S) = some (V.ref F.dv) := by with_unfolding_all rfl
theorem get_unf : List.lookup ("unfolded" : Str) (flds F S) = some (V.int S.unf) := by with_unfolding_all rfl
theorem get_fns : List.lookup ("functions" : Str) (flds F S) = some (V.ref F.df) := by with_unfolding_all rfl
theorem get_places : List.lookup ("places" : Str) (flds F S) = some (V.ref F.dp) := by with_unfolding_all rfl
theorem get_loops : List.lookup ("loops" : Str) (flds F S) = some (V.int S.loops) := by with_unfolding_all rfl
theorem get_rets : List.lookup ("returns" : Str) (flds F S) = some (V.bl S.rets) := by with_unfolding_all rfl
theorem two {xs : List V} {ts : List T} (im : Ims K G xs ts) : (∃ x0 x1 t0 t1, xs = [x0, x1] ∧ ts = [t0, t1] ∧ Im K G x0 t0 ∧ Im K G x1 t1) ∨ (xs.length ≠ 2 ∧ ∀ t0 t1, ts ≠ [t0, t1]) := by
  rcases im with _ | ⟨i0, _ | ⟨i1, _ | ⟨i2, r⟩⟩⟩
  · exact .inr ⟨by simp, by simp⟩
  · exact .inr ⟨by simp, by simp⟩
  · exact .inl ⟨_, _, _, _, rfl, rfl, i0, i1⟩
  · exact .inr ⟨by simp, by simp⟩
theorem three {xs : List V} {ts : List T} (im : Ims K G xs ts) : (∃ x0 x1 x2 t0 t1 t2, xs = [x0, x1, x2] ∧ ts = [t0, t1, t2] ∧ Im K G x0 t0 ∧ Im K G x1 t1 ∧ Im K G x2 t2) ∨ (xs.length ≠ 3 ∧ ∀ t0 t1 t2, ts ≠ [t0, t1, t2]) := by
  rcases im with _ | ⟨i0, _ | ⟨i1, _ | ⟨i2, _ | ⟨i3, r⟩⟩⟩⟩
  · exact .inr ⟨by simp, by simp⟩
  · exact .inr ⟨by simp, by simp⟩
  · exact .inr ⟨by simp, by simp⟩
  · exact .inl ⟨_, _, _, _, _, _, rfl, rfl, i0, i1, i2⟩
  · exact .inr ⟨by simp, by simp⟩
theorem four {xs : List V} {ts : List T} (im : Ims K G xs ts) : (∃ x0 x1 x2 x3 t0 t1 t2 t3, xs = [x0, x1, x2, x3] ∧ ts = [t0, t1, t2, t3] ∧ Im K G x0 t0 ∧ Im K G x1 t1 ∧ Im K G x2 t2 ∧ Im K G x3 t3) ∨ (xs.length ≠ 4 ∧ ∀ t0 t1 t2 t3, ts ≠ [t0, t1, t2, t3]) := by
  rcases im with _ | ⟨i0, _ | ⟨i1, _ | ⟨i2, _ | ⟨i3, _ | ⟨i4, r⟩⟩⟩⟩⟩
  · exact .inr ⟨by simp, by simp⟩
  · exact .inr ⟨by simp, by simp⟩
  · exact .inr ⟨by simp, by simp⟩
  · exact .inr ⟨by simp, by simp⟩
  · exact .inl ⟨_, _, _, _, _, _, _, _, rfl, rfl, i0, i1, i2, i3⟩
  · exact .inr ⟨by simp, by simp⟩
end
/-- the class of checks, and the error -/
structure Mc (P : Program) (K : PySem.W.Frag) (mg : Str → Option Value) (C IP fI : Addr) : Prop where
  cl : Cls K C
  n1 : NoAttr K C "trees"
  n2 : NoAttr K C "commands"
  n3 : NoAttr K C "variables"
  n4 : NoAttr K C "unfolded"
  n5 : NoAttr K C "functions"
  n6 : NoAttr K C "places"
  n7 : NoAttr K C "loops"
  n8 : NoAttr K C "returns"
  er : ErrR P K mg "InvalidProgram" "path" IP fI
/-- what a caller gives to a def that looks at one tree -/
def spAct (K : PySem.W.Frag) (C IP : Addr) (n : Nat) (k : Kind) : Sp := fun vs H Q E => ∃ F S G a xs ts p, vs = [.ref (Foot.c F), .ref a, .int p] ∧ Same G H ∧ Free F G ∧ At C H F S ∧ Ok1 S ∧ S.places.length + n = 59 ∧ G a = some (.tup xs) ∧ Ims K G xs ts ∧ Res C IP F G S.places (act (ins n) k S ts p) Q E
end Ck

/-! The defs that look at one tree without trees in it. -/
namespace Ck
open PySem PySem.Spec PyProof.Rows L2
section
variable {P : Program} {w : World} {K : PySem.W.Frag} {mg : Str → Option Value} {base : Heap} {dR dS : Addr} {adr : Kind → Addr} {C IP fI : Addr}
theorem res0 {F : Foot} {G H : Hp} {i : Int} {S : CS} {pl : List Int} {Q : VK} {E : XK} (r : Res C IP F G pl (.ok (i, S)) Q E) (sm : Same G H) (a : At C H F S) (o : Ok S) (e : S.places = pl := by rfl) : Q (.int i) H := r H sm a o e
abbrev GW (P : Program) (w : World) (K : PySem.W.Frag) (mg : Str → Option Value) (base : Heap) : Prop := Go P w K mg base CX0 1 "is_integer_within" ["value", "least", "most"] (spIsWithin K)
abbrev GI (P : Program) (w : World) (K : PySem.W.Frag) (mg : Str → Option Value) (base : Heap) : Prop := Go P w K mg base CX0 1 "is_integer" ["value"] (spIsInt K)
abbrev GNew (P : Program) (w : World) (K : PySem.W.Frag) (mg : Str → Option Value) (base : Heap) : Prop := Go P w K mg base CX0 2 "is_new_name" ["names", "value"] (spNew K)
theorem len_ne {xs : List V} {n : Nat} (h : xs.length ≠ n) : decide (V.int (xs.length : Nat) = V.int (n : Nat)) = false := decide_eq_false fun z => h (by have y := V.int.inj z; omega)
theorem len_not {xs : List V} {n : Nat} (h : xs.length ≠ n) : (!decide (V.int (xs.length : Nat) = V.int (n : Nat))) = true := by rw [len_ne h]; rfl
theorem new_ok {S : CS} {ns : List Str} {t : T} (o : Ok1 S) (e : S.cmds = ns) : Ok { S with cmds := (newName ns t).2 } := by
  have := newName_len ns t
  have h := o.cm
  rw [e] at h
  exact ⟨o.lo, o.hi, by show ((newName ns t).2.length : Int) ≤ S.trees; omega, o.ok.va⟩
theorem new_okv {S : CS} {ns : List Str} {t : T} (o : Ok1 S) (e : S.vars = ns) : Ok { S with vars := (newName ns t).2 } := by
  have := newName_len ns t
  have h := o.va
  rw [e] at h
  exact ⟨o.lo, o.hi, o.ok.cm, by show ((newName ns t).2.length : Int) ≤ S.trees; omega⟩
theorem cmds_few {S : CS} (o : Ok1 S) : S.cmds.length ≤ 5000 := by
  have h := o.cm
  have h2 := o.hi
  omega
theorem vars_few {S : CS} (o : Ok1 S) : S.vars.length ≤ 5000 := by
  have h := o.va
  have h2 := o.hi
  omega
/-- 1 if b, else 0 -/
theorem one_if {b : Bool} {Q : VK} {H : Hp} (q : Q (.int (b2 b)) H) : if b = true then Q (.int 1) H else Q (.int 0) H := by
  cases b with
  | true => exact if_yes rfl q
  | false => exact if_no rfl q

abbrev sRun : Stmt := topS 26
theorem scRun : FnScope ["check", "tree", "place"] ["check", "tree", "place"] (defScope sRun) := ⟨rfl, rfl, rfl, by decide +kernel, rfl, by decide +kernel, by decide +kernel⟩
theorem ok_Run {n : Nat} {f : Addr} {fd : FuncData} (F0 : Fun K "size_of_run" "size_of_run" sRun f fd) (M : Md K mg w dR dS adr) (Z : Mc P K mg C IP fI) (GN : GNew P w K mg base) : FnOk P w K mg base (L2.CX P w) 3 f fd ["check", "tree", "place"] (spAct K C IP n .run) := by
  refine F0.okX scRun (fun vs H Q E h => ?_) (fun cdv A outer s H vs Q E hr h => ?_)
  · obtain ⟨_, _, _, _, _, _, _, rfl, _⟩ := h
    rfl
  obtain ⟨F, S, G, a, xs, ts, p, rfl, sm, fr, at0, ok, lv, ga, im, q⟩ := h
  have hu := hu_of hr
  have ha := sqt (K := K) (sm _ _ ga)

  refine ⟨_, pss_one (ps_ret (pe_ifExp (PW.pt (pw_and (pt_cmpR op_eq (pe_callB call_len_seq rfl M.ml PySem.boot_len (pa_cons (pv 1) pa_nil)) pe_int (nomark _)) (pw_and1 (pt_val (pe_go GN hr pass0 rfl (pa_cons (pe_fld (pv 0) rfl) (pa_cons (pe_ix ix_tup (pv 1) pe_int fun _ _ => rfl) pa_nil))))))) pe_int pe_int)), ?_⟩
  dsimp only [L2.tRet, L2.tRetN, tAndV, tOrV, tNotV, tCB, L2.tCons, L2.tNil, tC, tVar, L2.tOp, L2.tUn, tSeq, tAsg, gName, tIfS, tTest, tNext, tAnd, tOr, tNot, L2.tIf, tFld, sFld, sFldAug, tCall, tTup, tB, tAug, tDrop, L2.tSl, tPart, tNoPart, tBM, tBM0, tChain, gTup, gCons, gNil, tPar, tIs, List.set]
  refine ⟨_, rfl, a, xs, rfl, .inr ha, rfl, _, rfl, ?_⟩
  rcases two im with ⟨x0, x1, t0, t1, rfl, rfl, i0, i1⟩ | ⟨c, nt⟩
  · refine if_yes rfl ?_
    refine ⟨_, rfl, F.c, C, F.dx, _, _, rfl, at0.c, Z.cl, Z.n2, get_cmds, _, rfl, a, _, _, _, rfl, rfl, ha, rfl, F.dc, x1, t1, S.cmds, rfl, at0.dc, cmds_few ok, i1.mono sm, _, rfl, ?_⟩
    have nd : G F.dc = none := fr.dc
    exact one_if (res0 q (Ck.Same.up sm nd) (at0.cmds _) (new_ok ok rfl))
  · refine if_no (len_ne c) (if_no rfl ?_)
    have e : act (ins n) .run S ts p = .ok (0, S) := by
      rcases ts with _ | ⟨t0, _ | ⟨t1, _ | ⟨t2, r⟩⟩⟩ <;> first | rfl | exact absurd rfl (nt _ _)
    rw [e] at q
    exact res0 q sm at0 ok.ok

abbrev sVar : Stmt := topS 28
theorem scVar : FnScope ["check", "tree", "place"] ["check", "tree", "place"] (defScope sVar) := ⟨rfl, rfl, rfl, by decide +kernel, rfl, by decide +kernel, by decide +kernel⟩
theorem ok_Var {n : Nat} {f : Addr} {fd : FuncData} (F0 : Fun K "size_with_variable" "size_with_variable" sVar f fd) (M : Md K mg w dR dS adr) (Z : Mc P K mg C IP fI) (GN : GNew P w K mg base) : FnOk P w K mg base (L2.CX P w) 3 f fd ["check", "tree", "place"] (spAct K C IP n .var) := by
  refine F0.okX scVar (fun vs H Q E h => ?_) (fun cdv A outer s H vs Q E hr h => ?_)
  · obtain ⟨_, _, _, _, _, _, _, rfl, _⟩ := h
    rfl
  obtain ⟨F, S, G, a, xs, ts, p, rfl, sm, fr, at0, ok, lv, ga, im, q⟩ := h
  have hu := hu_of hr
  have ha := sqt (K := K) (sm _ _ ga)

  refine ⟨_, pss_one (ps_ret (pe_ifExp (PW.pt (pw_and (pt_cmpR op_eq (pe_callB call_len_seq rfl M.ml PySem.boot_len (pa_cons (pv 1) pa_nil)) pe_int (nomark _)) (pw_and1 (pt_val (pe_go GN hr pass0 rfl (pa_cons (pe_fld (pv 0) rfl) (pa_cons (pe_ix ix_tup (pv 1) pe_int fun _ _ => rfl) pa_nil))))))) pe_int pe_int)), ?_⟩
  dsimp only [L2.tRet, L2.tRetN, tAndV, tOrV, tNotV, tCB, L2.tCons, L2.tNil, tC, tVar, L2.tOp, L2.tUn, tSeq, tAsg, gName, tIfS, tTest, tNext, tAnd, tOr, tNot, L2.tIf, tFld, sFld, sFldAug, tCall, tTup, tB, tAug, tDrop, L2.tSl, tPart, tNoPart, tBM, tBM0, tChain, gTup, gCons, gNil, tPar, tIs, List.set]
  refine ⟨_, rfl, a, xs, rfl, .inr ha, rfl, _, rfl, ?_⟩
  rcases two im with ⟨x0, x1, t0, t1, rfl, rfl, i0, i1⟩ | ⟨c, nt⟩
  · refine if_yes rfl ?_
    refine ⟨_, rfl, F.c, C, F.dx, _, _, rfl, at0.c, Z.cl, Z.n3, get_vars, _, rfl, a, _, _, _, rfl, rfl, ha, rfl, F.dv, x1, t1, S.vars, rfl, at0.dv, vars_few ok, i1.mono sm, _, rfl, ?_⟩
    have nd : G F.dv = none := fr.dv
    exact one_if (res0 q (Ck.Same.up sm nd) (at0.vars _) (new_okv ok rfl))
  · refine if_no (len_ne c) (if_no rfl ?_)
    have e : act (ins n) .var S ts p = .ok (0, S) := by
      rcases ts with _ | ⟨t0, _ | ⟨t1, _ | ⟨t2, r⟩⟩⟩ <;> first | rfl | exact absurd rfl (nt _ _)
    rw [e] at q
    exact res0 q sm at0 ok.ok

abbrev sSta : Stmt := topS 27
theorem scSta : FnScope ["check", "tree", "place"] ["check", "tree", "place"] (defScope sSta) := ⟨rfl, rfl, rfl, by decide +kernel, rfl, by decide +kernel, by decide +kernel⟩
theorem ok_Sta {n : Nat} {f : Addr} {fd : FuncData} (F0 : Fun K "size_of_status" "size_of_status" sSta f fd) (M : Md K mg w dR dS adr) (Z : Mc P K mg C IP fI) (GW : GW P w K mg base) : FnOk P w K mg base (L2.CX P w) 3 f fd ["check", "tree", "place"] (spAct K C IP n .status) := by
  refine F0.okX scSta (fun vs H Q E h => ?_) (fun cdv A outer s H vs Q E hr h => ?_)
  · obtain ⟨_, _, _, _, _, _, _, rfl, _⟩ := h
    rfl
  obtain ⟨F, S, G, a, xs, ts, p, rfl, sm, fr, at0, ok, lv, ga, im, q⟩ := h
  have hu := hu_of hr
  have ha := sqt (K := K) (sm _ _ ga)

  obtain ⟨tg, gn⟩ := M.gn
  refine ⟨_, pss_one (ps_ret (pe_ifExp (PW.pt (pw_and (pt_cmpR op_eq (pe_callB call_len_seq rfl M.ml PySem.boot_len (pa_cons (pv 1) pa_nil)) pe_int (nomark _)) (pw_and1 (pt_val (pe_go GW (hr.mono (by decide)) pass0 rfl (pa_cons (pe_ix ix_tup (pv 1) pe_int fun _ _ => rfl) (pa_cons pe_int (pa_cons (pe_glob (v := .int 255) rfl gn ⟨_, rfl⟩) pa_nil)))))))) pe_int pe_int)), ?_⟩
  dsimp only [L2.tRet, L2.tRetN, tAndV, tOrV, tNotV, tCB, L2.tCons, L2.tNil, tC, tVar, L2.tOp, L2.tUn, tSeq, tAsg, gName, tIfS, tTest, tNext, tAnd, tOr, tNot, L2.tIf, tFld, sFld, sFldAug, tCall, tTup, tB, tAug, tDrop, L2.tSl, tPart, tNoPart, tBM, tBM0, tChain, gTup, gCons, gNil, tPar, tIs, List.set]
  refine ⟨_, rfl, a, xs, rfl, .inr ha, rfl, _, rfl, ?_⟩
  rcases two im with ⟨x0, x1, t0, t1, rfl, rfl, i0, i1⟩ | ⟨c, nt⟩
  · refine if_yes rfl ?_
    exact ⟨_, rfl, a, _, _, _, rfl, rfl, ha, rfl, x1, t1, 0, 255, rfl, i1.mono sm, _, rfl, one_if (res0 q sm at0 ok.ok)⟩
  · refine if_no (len_ne c) (if_no rfl ?_)
    have e : act (ins n) .status S ts p = .ok (0, S) := by
      rcases ts with _ | ⟨t0, _ | ⟨t1, _ | ⟨t2, r⟩⟩⟩ <;> first | rfl | exact absurd rfl (nt _ _)
    rw [e] at q
    exact res0 q sm at0 ok.ok

theorem neS : ∀ {b : Bool} {A B : Prop}, b = false → B → if (!!b) = true then A else B := fun {b A B} e h => by
  rw [e]
  exact if_no rfl h
theorem valV_ftab (z : Str) : ∀ fs : List (Str × Int), valV (ftab fs) (.inr z) = (fs.lookup z).map V.int
  | [] => rfl
  | (n, i) :: fs => by
    show valV ((Sum.inr n, V.int i) :: ftab fs) (.inr z) = _
    by_cases e : n = z
    · rw [valV_pos (by rw [e])]
      simp [List.lookup, e]
    · have e2 : (z == n) = false := by simpa using Ne.symm e
      rw [valV_neg (fun q => e (Sum.inr.inj q)), valV_ftab z fs]
      simp [List.lookup, e2]
theorem non_is {H : Hp} {v : V} {t : T} (h : Im K H v t) : decide (v = .non) = isNon t := by
  cases h with
  | non => rfl
  | odd _ _ _ _ _ n => exact decide_eq_false n
  | _ => exact decide_eq_false (by intro z; cases z)
theorem str_of {H : Hp} {v : V} {t : T} (h : Im K H v t) (e : isSt t = true) : ∃ z, v = .str z ∧ t = .str z := by
  cases h with
  | str _ => exact ⟨_, rfl, rfl⟩
  | _ => simp [isSt] at e
theorem bl_of {H : Hp} {v : V} {t : T} (h : Im K H v t) (e : isBl t = true) : ∃ b, v = .bl b ∧ t = .bl b := by
  cases h with
  | bl _ => exact ⟨_, rfl, rfl⟩
  | _ => simp [isBl] at e

abbrev sPut : Stmt := topS 29
theorem scPut : FnScope ["check", "tree", "place"] ["check", "tree", "place"] (defScope sPut) := ⟨rfl, rfl, rfl, by decide +kernel, rfl, by decide +kernel, by decide +kernel⟩
theorem ok_Put {n : Nat} {f : Addr} {fd : FuncData} (F0 : Fun K "size_of_put" "size_of_put" sPut f fd) (M : Md K mg w dR dS adr) (Z : Mc P K mg C IP fI) (GN : GNew P w K mg base) (GW : GW P w K mg base) : FnOk P w K mg base (L2.CX P w) 3 f fd ["check", "tree", "place"] (spAct K C IP n .put) := by
  refine F0.okX scPut (fun vs H Q E h => ?_) (fun cdv A outer s H vs Q E hr h => ?_)
  · obtain ⟨_, _, _, _, _, _, _, rfl, _⟩ := h
    rfl
  obtain ⟨F, S, G, a, xs, ts, p, rfl, sm, fr, at0, ok, lv, ga, im, q⟩ := h
  have hu := hu_of hr
  have ha := sqt (K := K) (sm _ _ ga)

  obtain ⟨tg, gn⟩ := M.gn
  refine ⟨_, pss_cons (ps_if (PW.pt (pw_or (pt_cmpR op_ne (pe_callB call_len_seq rfl M.ml PySem.boot_len (pa_cons (pv 1) pa_nil)) pe_int (nomark _)) (pw_or1 (pt_not (pt_val (pe_go GW (hr.mono (by decide)) pass0 rfl (pa_cons (pe_ix ix_tup (pv 1) pe_int fun _ _ => rfl) (pa_cons pe_int (pa_cons (pe_glob (v := .int 255) rfl gn ⟨_, rfl⟩) pa_nil))))))))) (pss_one (ps_ret pe_int)) pss_nil)
    (pss_one (ps_ret (pe_ifExp (pt_val (pe_go GN hr pass0 rfl (pa_cons (pe_fld (pv 0) rfl) (pa_cons (pe_ix ix_tup (pv 1) pe_int fun _ _ => rfl) pa_nil)))) pe_int pe_int))), ?_⟩
  dsimp only [L2.tRet, L2.tRetN, tAndV, tOrV, tNotV, tCB, L2.tCons, L2.tNil, tC, tVar, L2.tOp, L2.tUn, tSeq, tAsg, gName, tIfS, tTest, tNext, tAnd, tOr, tNot, L2.tIf, tFld, sFld, sFldAug, tCall, tTup, tB, tAug, tDrop, L2.tSl, tPart, tNoPart, tBM, tBM0, tChain, gTup, gCons, gNil, tPar, tIs, List.set]
  refine ⟨_, rfl, a, xs, rfl, .inr ha, rfl, _, rfl, ?_⟩
  rcases three im with ⟨x0, x1, x2, t0, t1, t2, rfl, rfl, i0, i1, i2⟩ | ⟨c, nt⟩
  · refine if_no rfl ?_
    refine ⟨_, rfl, a, _, _, _, rfl, rfl, ha, rfl, x2, t2, 0, 255, rfl, i2.mono sm, _, rfl, ?_⟩
    cases e : within 0 255 t2 with
    | false =>
      have z : act (ins n) .put S [t0, t1, t2] p = .ok (0, S) := by
        show (if within 0 255 t2 = true then varied S t1 else .ok (0, S)) = _
        rw [e]
        rfl
      rw [z] at q
      exact if_yes rfl (res0 q sm at0 ok.ok)
    | true =>
      have z : act (ins n) .put S [t0, t1, t2] p = varied S t1 := by
        show (if within 0 255 t2 = true then varied S t1 else .ok (0, S)) = _
        rw [e]
        rfl
      rw [z] at q
      refine if_no rfl ?_
      refine ⟨_, rfl, F.c, C, F.dx, _, _, rfl, at0.c, Z.cl, Z.n3, get_vars, _, rfl, a, _, _, _, rfl, rfl, ha, rfl, F.dv, x1, t1, S.vars, rfl, at0.dv, vars_few ok, i1.mono sm, _, rfl, ?_⟩
      have nd : G F.dv = none := fr.dv
      exact one_if (res0 q (Ck.Same.up sm nd) (at0.vars _) (new_okv ok rfl))
  · have e : act (ins n) .put S ts p = .ok (0, S) := by
      rcases ts with _ | ⟨t0, _ | ⟨t1, _ | ⟨t2, _ | ⟨t3, r⟩⟩⟩⟩ <;> first | rfl | exact absurd rfl (nt _ _ _)
    rw [e] at q
    refine if_yes (len_not c) (if_yes rfl (res0 q sm at0 ok.ok))

abbrev sOpt : Stmt := topS 30
theorem scOpt : FnScope ["check", "tree", "place"] ["check", "tree", "place"] (defScope sOpt) := ⟨rfl, rfl, rfl, by decide +kernel, rfl, by decide +kernel, by decide +kernel⟩
theorem ok_Opt {n : Nat} {f : Addr} {fd : FuncData} (F0 : Fun K "size_of_option" "size_of_option" sOpt f fd) (M : Md K mg w dR dS adr) (Z : Mc P K mg C IP fI) : FnOk P w K mg base (L2.CX P w) 3 f fd ["check", "tree", "place"] (spAct K C IP n .option) := by
  refine F0.okX scOpt (fun vs H Q E h => ?_) (fun cdv A outer s H vs Q E hr h => ?_)
  · obtain ⟨_, _, _, _, _, _, _, rfl, _⟩ := h
    rfl
  obtain ⟨F, S, G, a, xs, ts, p, rfl, sm, fr, at0, ok, lv, ga, im, q⟩ := h
  have hu := hu_of hr
  have ha := sqt (K := K) (sm _ _ ga)

  refine ⟨_, pss_cons (ps_if (PW.pt (pw_or (pt_cmpR op_ne (pe_callB call_len_seq rfl M.ml PySem.boot_len (pa_cons (pv 1) pa_nil)) pe_int (nomark _)) (pw_or (pt_not (pt_val (pe_is (n := "str") M.mi M.mstr (by decide +kernel) rfl rfl (pe_ix ix_tup (pv 1) pe_int fun _ _ => rfl)))) (pw_or1 (pt_not (pt_val (pe_is (n := "bool") M.mi M.mbool (by decide +kernel) rfl rfl (pe_ix ix_tup (pv 1) pe_int fun _ _ => rfl)))))))) (pss_one (ps_ret pe_int)) pss_nil)
    (pss_one (ps_ret (pe_ifExp (PW.pt (pw_or (pt_cmpR op_eq (pe_ix ix_tup (pv 1) pe_int fun _ _ => rfl) pe_str (nomark _)) (pw_or1 (pt_cmpR op_eq (pe_ix ix_tup (pv 1) pe_int fun _ _ => rfl) pe_str (nomark _))))) pe_int pe_int))), ?_⟩
  dsimp only [L2.tRet, L2.tRetN, tAndV, tOrV, tNotV, tCB, L2.tCons, L2.tNil, tC, tVar, L2.tOp, L2.tUn, tSeq, tAsg, gName, tIfS, tTest, tNext, tAnd, tOr, tNot, L2.tIf, tFld, sFld, sFldAug, tCall, tTup, tB, tAug, tDrop, L2.tSl, tPart, tNoPart, tBM, tBM0, tChain, gTup, gCons, gNil, tPar, tIs, List.set]
  refine ⟨_, rfl, a, xs, rfl, .inr ha, rfl, _, rfl, ?_⟩
  rcases three im with ⟨x0, x1, x2, t0, t1, t2, rfl, rfl, i0, i1, i2⟩ | ⟨c, nt⟩
  · refine if_no rfl ?_
    refine ⟨_, rfl, a, _, _, _, rfl, rfl, ha, rfl, is_str (i1.mono sm) ⟨_, rfl, ?_⟩⟩
    have no : isSt t1 = false ∨ isBl t2 = false → act (ins n) .option S [t0, t1, t2] p = .ok (0, S) := by
      intro h
      cases t1 <;> first | rfl | (cases t2 <;> first | rfl | simp [isSt, isBl] at h)
    cases e1 : isSt t1 with
    | false =>
      rw [no (.inl e1)] at q
      exact if_yes rfl (if_yes rfl (res0 q sm at0 ok.ok))
    | true =>
      refine if_no rfl ?_
      refine ⟨_, rfl, a, _, _, _, rfl, rfl, ha, rfl, is_bool (i2.mono sm) ⟨_, rfl, ?_⟩⟩
      cases e2 : isBl t2 with
      | false =>
        rw [no (.inr e2)] at q
        exact if_yes rfl (res0 q sm at0 ok.ok)
      | true =>
        refine if_no rfl ?_
        obtain ⟨z, rfl, rfl⟩ := str_of i1 e1
        obtain ⟨b, rfl, rfl⟩ := bl_of i2 e2
        refine ⟨_, rfl, a, _, _, _, rfl, rfl, ha, rfl, rfl, _, rfl, ?_⟩
        have qq : Res C IP F G S.places (.ok (b2 (decide (z = "fail") || decide (z = "pipes")), S)) Q E := q
        by_cases f1 : z = "fail"
        · subst f1
          exact if_yes (decide_eq_true rfl) (if_yes rfl (res0 qq sm at0 ok.ok))
        · refine if_no (decide_eq_false fun y => f1 (V.str.inj y)) ?_
          rw [decide_eq_false f1, Bool.false_or] at qq
          refine ⟨_, rfl, a, _, _, _, rfl, rfl, ha, rfl, rfl, _, rfl, ?_⟩
          by_cases f2 : z = "pipes"
          · subst f2
            exact if_yes (decide_eq_true rfl) (res0 qq sm at0 ok.ok)
          · rw [decide_eq_false f2] at qq
            exact if_no (decide_eq_false fun y => f2 (V.str.inj y)) (res0 qq sm at0 ok.ok)
  · have e : act (ins n) .option S ts p = .ok (0, S) := by
      rcases ts with _ | ⟨t0, _ | ⟨t1, _ | ⟨t2, _ | ⟨t3, r⟩⟩⟩⟩ <;> first | rfl | exact absurd rfl (nt _ _ _) | (cases t1 <;> first | rfl | (cases t2 <;> rfl))
    rw [e] at q
    exact if_yes (len_not c) (if_yes rfl (res0 q sm at0 ok.ok))

abbrev sJmp : Stmt := topS 40
theorem scJmp : FnScope ["check", "tree", "place"] ["check", "tree", "place"] (defScope sJmp) := ⟨rfl, rfl, rfl, by decide +kernel, rfl, by decide +kernel, by decide +kernel⟩
theorem ok_Jmp {n : Nat} {f : Addr} {fd : FuncData} (F0 : Fun K "size_of_jump" "size_of_jump" sJmp f fd) (M : Md K mg w dR dS adr) (Z : Mc P K mg C IP fI) (GI : GI P w K mg base) : FnOk P w K mg base (L2.CX P w) 3 f fd ["check", "tree", "place"] (spAct K C IP n .jump) := by
  refine F0.okX scJmp (fun vs H Q E h => ?_) (fun cdv A outer s H vs Q E hr h => ?_)
  · obtain ⟨_, _, _, _, _, _, _, rfl, _⟩ := h
    rfl
  obtain ⟨F, S, G, a, xs, ts, p, rfl, sm, fr, at0, ok, lv, ga, im, q⟩ := h
  have hu := hu_of hr
  have ha := sqt (K := K) (sm _ _ ga)

  refine ⟨_, pss_one (ps_ret (pe_ifExp (PW.pt (pw_and (pt_cmpR op_eq (pe_callB call_len_seq rfl M.ml PySem.boot_len (pa_cons (pv 1) pa_nil)) pe_int (nomark _)) (pw_and (pt_val (pe_go GI (hr.mono (by decide)) pass0 rfl (pa_cons (pe_ix ix_tup (pv 1) pe_int fun _ _ => rfl) pa_nil))) (pw_and1 (pt_chain op_le op_le pe_int (pe_ix ix_tup (pv 1) pe_int fun _ _ => rfl) (pe_fld (pv 0) rfl)))))) pe_int pe_int)), ?_⟩
  dsimp only [L2.tRet, L2.tRetN, tAndV, tOrV, tNotV, tCB, L2.tCons, L2.tNil, tC, tVar, L2.tOp, L2.tUn, tSeq, tAsg, gName, tIfS, tTest, tNext, tAnd, tOr, tNot, L2.tIf, tFld, sFld, sFldAug, tCall, tTup, tB, tAug, tDrop, L2.tSl, tPart, tNoPart, tBM, tBM0, tChain, gTup, gCons, gNil, tPar, tIs, List.set]
  refine ⟨_, rfl, a, xs, rfl, .inr ha, rfl, _, rfl, ?_⟩
  rcases two im with ⟨x0, x1, t0, t1, rfl, rfl, i0, i1⟩ | ⟨c, nt⟩
  · refine if_yes rfl ?_
    refine ⟨_, rfl, a, _, _, _, rfl, rfl, ha, rfl, x1, t1, rfl, i1.mono sm, _, rfl, ?_⟩
    cases e : isInt t1 with
    | false =>
      have z : act (ins n) .jump S [t0, t1] p = .ok (0, S) := by cases t1 <;> first | rfl | simp [isInt] at e
      rw [z] at q
      exact if_no rfl (if_no rfl (res0 q sm at0 ok.ok))
    | true =>
      cases i1 with
      | int k =>
        refine if_yes rfl ?_
        refine ⟨_, rfl, a, _, _, _, rfl, rfl, ha, rfl, _, _, rfl, rfl, _, rfl, ?_⟩
        have qq : Res C IP F G S.places (.ok (b2 (decide (1 ≤ k) && decide (k ≤ S.loops)), S)) Q E := q
        by_cases f1 : 1 ≤ k
        · rw [decide_eq_true f1, Bool.true_and] at qq
          refine if_yes (decide_eq_true f1) ?_
          refine ⟨_, rfl, F.c, C, F.dx, _, _, rfl, at0.c, Z.cl, Z.n7, get_loops, _, _, rfl, rfl, _, rfl, ?_⟩
          exact one_if (res0 qq sm at0 ok.ok)
        · rw [decide_eq_false f1, Bool.false_and] at qq
          exact if_no (decide_eq_false f1) ⟨_, rfl, if_no rfl (res0 qq sm at0 ok.ok)⟩
      | _ => simp [isInt] at e
  · refine if_no (len_ne c) (if_no rfl ?_)
    have e : act (ins n) .jump S ts p = .ok (0, S) := by
      rcases ts with _ | ⟨t0, _ | ⟨t1, _ | ⟨t2, r⟩⟩⟩ <;> first | rfl | exact absurd rfl (nt _ _) | (cases t1 <;> rfl)
    rw [e] at q
    exact res0 q sm at0 ok.ok

abbrev sCal : Stmt := topS 41
theorem scCal : FnScope ["check", "tree", "place"] ["check", "tree", "place"] (defScope sCal) := ⟨rfl, rfl, rfl, by decide +kernel, rfl, by decide +kernel, by decide +kernel⟩
theorem ok_Cal {n : Nat} {f : Addr} {fd : FuncData} (F0 : Fun K "size_of_call" "size_of_call" sCal f fd) (M : Md K mg w dR dS adr) (Z : Mc P K mg C IP fI) : FnOk P w K mg base (L2.CX P w) 3 f fd ["check", "tree", "place"] (spAct K C IP n .call) := by
  refine F0.okX scCal (fun vs H Q E h => ?_) (fun cdv A outer s H vs Q E hr h => ?_)
  · obtain ⟨_, _, _, _, _, _, _, rfl, _⟩ := h
    rfl
  obtain ⟨F, S, G, a, xs, ts, p, rfl, sm, fr, at0, ok, lv, ga, im, q⟩ := h
  have hu := hu_of hr
  have ha := sqt (K := K) (sm _ _ ga)

  refine ⟨_, pss_cons (ps_if (PW.pt (pw_or (pt_cmpR op_ne (pe_callB call_len_seq rfl M.ml PySem.boot_len (pa_cons (pv 1) pa_nil)) pe_int (nomark _)) (pw_or (pt_not (pt_val (pe_is (n := "str") M.mi M.mstr (by decide +kernel) rfl rfl (pe_ix ix_tup (pv 1) pe_int fun _ _ => rfl)))) (pw_or1 (pt_cmp (pc_dnotin hu (pe_ix ix_tup (pv 1) pe_int fun _ _ => rfl) (pe_fld (pv 0) rfl)) (by rfl)))))) (pss_one (ps_ret pe_int)) pss_nil)
    (pss_one (ps_ret (pe_op op_add pe_int (pe_dget hu (pe_fld (pv 0) rfl) (pe_ix ix_tup (pv 1) pe_int fun _ _ => rfl) fun _ _ => rfl)))), ?_⟩
  dsimp only [L2.tRet, L2.tRetN, tAndV, tOrV, tNotV, tCB, L2.tCons, L2.tNil, tC, tVar, L2.tOp, L2.tUn, tSeq, tAsg, gName, tIfS, tTest, tNext, tAnd, tOr, tNot, L2.tIf, tFld, sFld, sFldAug, tCall, tTup, tB, tAug, tDrop, L2.tSl, tPart, tNoPart, tBM, tBM0, tChain, gTup, gCons, gNil, tPar, tIs, List.set, tDNotIn, tDGet]
  refine ⟨_, rfl, a, xs, rfl, .inr ha, rfl, _, rfl, ?_⟩
  rcases two im with ⟨x0, x1, t0, t1, rfl, rfl, i0, i1⟩ | ⟨c, nt⟩
  · refine if_no rfl ?_
    refine ⟨_, rfl, a, _, _, _, rfl, rfl, ha, rfl, is_str (i1.mono sm) ⟨_, rfl, ?_⟩⟩
    cases e1 : isSt t1 with
    | false =>
      have z : act (ins n) .call S [t0, t1] p = .ok (0, S) := by cases t1 <;> first | rfl | simp [isSt] at e1
      rw [z] at q
      exact if_yes rfl (if_yes rfl (res0 q sm at0 ok.ok))
    | true =>
      refine if_no rfl ?_
      obtain ⟨z, rfl, rfl⟩ := str_of i1 e1
      have g : DGet H F.df (.str z) (valV (ftab S.fns) (.inr z)) := DGet.k (k := Sum.inr z) at0.df
      refine ⟨_, rfl, a, _, _, _, rfl, rfl, ha, rfl, _, rfl, F.c, C, F.dx, _, _, rfl, at0.c, Z.cl, Z.n5, get_fns, F.df, _, rfl, g, _, rfl, ?_⟩
      have qq : Res C IP F G S.places (match S.fns.lookup z with | some v => .ok (1 + v, S) | none => .ok (0, S)) Q E := q
      rw [valV_ftab] at g ⊢
      cases l : S.fns.lookup z with
      | none =>
        rw [l] at qq
        exact if_yes rfl (res0 qq sm at0 ok.ok)
      | some v =>
        rw [l] at qq g
        refine if_no rfl ?_
        exact ⟨_, rfl, F.c, C, F.dx, _, _, rfl, at0.c, Z.cl, Z.n5, get_fns, _, rfl, a, _, _, _, rfl, rfl, ha, rfl, F.df, _, rfl, g, _, _, rfl, rfl, res0 qq sm at0 ok.ok⟩
  · have e : act (ins n) .call S ts p = .ok (0, S) := by
      rcases ts with _ | ⟨t0, _ | ⟨t1, _ | ⟨t2, r⟩⟩⟩ <;> first | rfl | exact absurd rfl (nt _ _) | (cases t1 <;> rfl)
    rw [e] at q
    exact if_yes (len_not c) (if_yes rfl (res0 q sm at0 ok.ok))

abbrev sExi : Stmt := topS 43
theorem scExi : FnScope ["check", "tree", "place"] ["check", "tree", "place"] (defScope sExi) := ⟨rfl, rfl, rfl, by decide +kernel, rfl, by decide +kernel, by decide +kernel⟩
theorem ok_Exi {n : Nat} {f : Addr} {fd : FuncData} (F0 : Fun K "size_of_exit" "size_of_exit" sExi f fd) (M : Md K mg w dR dS adr) (Z : Mc P K mg C IP fI) (GW : GW P w K mg base) : FnOk P w K mg base (L2.CX P w) 3 f fd ["check", "tree", "place"] (spAct K C IP n .exit) := by
  refine F0.okX scExi (fun vs H Q E h => ?_) (fun cdv A outer s H vs Q E hr h => ?_)
  · obtain ⟨_, _, _, _, _, _, _, rfl, _⟩ := h
    rfl
  obtain ⟨F, S, G, a, xs, ts, p, rfl, sm, fr, at0, ok, lv, ga, im, q⟩ := h
  have hu := hu_of hr
  have ha := sqt (K := K) (sm _ _ ga)

  obtain ⟨tg, gn⟩ := M.gn
  refine ⟨_, pss_cons (ps_if (pt_cmpR op_ne (pe_callB call_len_seq rfl M.ml PySem.boot_len (pa_cons (pv 1) pa_nil)) pe_int (nomark _)) (pss_one (ps_ret pe_int)) pss_nil)
    (pss_one (ps_ret (pe_ifExp (PW.pt (pw_or (pt_cmpR op_isN (pe_ix ix_tup (pv 1) pe_int fun _ _ => rfl) pe_non (nomark _)) (pw_or1 (pt_val (pe_go GW (hr.mono (by decide)) pass0 rfl (pa_cons (pe_ix ix_tup (pv 1) pe_int fun _ _ => rfl) (pa_cons pe_int (pa_cons (pe_glob (v := .int 255) rfl gn ⟨_, rfl⟩) pa_nil)))))))) pe_int pe_int))), ?_⟩
  dsimp only [L2.tRet, L2.tRetN, tAndV, tOrV, tNotV, tCB, L2.tCons, L2.tNil, tC, tVar, L2.tOp, L2.tUn, tSeq, tAsg, gName, tIfS, tTest, tNext, tAnd, tOr, tNot, L2.tIf, tFld, sFld, sFldAug, tCall, tTup, tB, tAug, tDrop, L2.tSl, tPart, tNoPart, tBM, tBM0, tChain, gTup, gCons, gNil, tPar, tIs, List.set]
  refine ⟨_, rfl, a, xs, rfl, .inr ha, rfl, _, rfl, ?_⟩
  rcases two im with ⟨x0, x1, t0, t1, rfl, rfl, i0, i1⟩ | ⟨c, nt⟩
  · refine if_no rfl ?_
    have qq : Res C IP F G S.places (.ok (b2 (isNon t1 || within 0 255 t1), S)) Q E := q
    refine ⟨_, rfl, a, _, _, _, rfl, rfl, ha, rfl, rfl, _, rfl, ?_⟩
    rw [non_is i1]
    cases e : isNon t1 with
    | true =>
      rw [e, Bool.true_or] at qq
      exact if_yes rfl (if_yes rfl (res0 qq sm at0 ok.ok))
    | false =>
      rw [e, Bool.false_or] at qq
      refine if_no rfl ?_
      exact ⟨_, rfl, a, _, _, _, rfl, rfl, ha, rfl, x1, t1, 0, 255, rfl, i1.mono sm, _, rfl, one_if (res0 qq sm at0 ok.ok)⟩
  · have e : act (ins n) .exit S ts p = .ok (0, S) := by
      rcases ts with _ | ⟨t0, _ | ⟨t1, _ | ⟨t2, r⟩⟩⟩ <;> first | rfl | exact absurd rfl (nt _ _)
    rw [e] at q
    exact if_yes (len_not c) (res0 q sm at0 ok.ok)

abbrev GX (P : Program) (w : World) (K : PySem.W.Frag) (mg : Str → Option Value) (base : Heap) (C IP : Addr) (n j : Nat) (x : Str) (k : Kind) : Prop := Go P w K mg base (L2.CX P w) j x ["check", "tree", "place"] (spAct K C IP n k)

abbrev sRet : Stmt := topS 42
theorem scRet : FnScope ["check", "tree", "place"] ["check", "tree", "place"] (defScope sRet) := ⟨rfl, rfl, rfl, by decide +kernel, rfl, by decide +kernel, by decide +kernel⟩
theorem ok_Ret {n : Nat} {f : Addr} {fd : FuncData} (F0 : Fun K "size_of_return" "size_of_return" sRet f fd) (M : Md K mg w dR dS adr) (Z : Mc P K mg C IP fI) (GE : GX P w K mg base C IP n 3 "size_of_exit" .exit) : FnOk P w K mg base (L2.CX P w) 4 f fd ["check", "tree", "place"] (spAct K C IP n .ret) := by
  refine F0.okX scRet (fun vs H Q E h => ?_) (fun cdv A outer s H vs Q E hr h => ?_)
  · obtain ⟨_, _, _, _, _, _, _, rfl, _⟩ := h
    rfl
  obtain ⟨F, S, G, a, xs, ts, p, rfl, sm, fr, at0, ok, lv, ga, im, q⟩ := h
  have hu := hu_of hr
  have ha := sqt (K := K) (sm _ _ ga)

  refine ⟨_, pss_one (ps_ret (pe_ifExp (pt_val (pe_fld (pv 0) rfl)) (pe_go (E := E) GE hr (passes_call (takes_of rfl rfl rfl rfl) fun _ _ _ _ z => z) rfl (pa_cons (pv 0) (pa_cons (pv 1) (pa_cons (pv 2) pa_nil)))) pe_int)), ?_⟩
  dsimp only [L2.tRet, L2.tRetN, tAndV, tOrV, tNotV, tCB, L2.tCons, L2.tNil, tC, tVar, L2.tOp, L2.tUn, tSeq, tAsg, gName, tIfS, tTest, tNext, tAnd, tOr, tNot, L2.tIf, tFld, sFld, sFldAug, tCall, tTup, tB, tAug, tDrop, L2.tSl, tPart, tNoPart, tBM, tBM0, tChain, gTup, gCons, gNil, tPar, tIs, List.set]
  refine ⟨_, rfl, F.c, C, F.dx, _, _, rfl, at0.c, Z.cl, Z.n8, get_rets, _, rfl, ?_⟩
  have qq : Res C IP F G S.places (if S.rets = true then .ok (exited ts, S) else .ok (0, S)) Q E := q
  cases e : S.rets with
  | true =>
    rw [e, if_pos rfl] at qq
    exact if_yes rfl ⟨_, rfl, _, rfl, _, rfl, F, S, G, a, xs, ts, p, rfl, sm, fr, at0, ok, lv, ga, im, qq⟩
  | false =>
    rw [e, if_neg Bool.false_ne_true] at qq
    exact if_no rfl (res0 qq sm at0 ok.ok)

end
end Ck

/-! The defs that look at trees with trees in them, each by what it calls. -/
namespace Ck
open PySem PySem.Spec PyProof.Rows L2 PySem.ErrKw
section
variable {P : Program} {w : World} {K : PySem.W.Frag} {mg : Str → Option Value} {base : Heap} {dR dS : Addr} {adr : Kind → Addr} {C IP fI : Addr}
/-- size_inside, n parts deep from here; size_of_all; size_behind_barrier -/
def spInto (K : PySem.W.Frag) (C IP : Addr) (n : Nat) : Sp := fun vs H Q E => ∃ F S G a xs ts p, vs = [.ref (Foot.c F), .ref a, .int p] ∧ Same G H ∧ Free F G ∧ At C H F S ∧ Ok S ∧ S.places.length + n = 59 ∧ G a = some (.tup xs) ∧ Ims K G xs ts ∧ Res C IP F G S.places (ins n S ts p) Q E
def spBar (K : PySem.W.Frag) (C IP : Addr) (n : Nat) : Sp := fun vs H Q E => ∃ F S G a xs ts p, vs = [.ref (Foot.c F), .ref a, .int p] ∧ Same G H ∧ Free F G ∧ At C H F S ∧ Ok S ∧ S.places.length + n = 59 ∧ G a = some (.tup xs) ∧ Ims K G xs ts ∧ Res C IP F G S.places (barrier (ins n) S ts p) Q E
def spAll (K : PySem.W.Frag) (C IP : Addr) (n : Nat) : Sp := fun vs H Q E => ∃ F S G a xs ts p, vs = [.ref (Foot.c F), .ref a, .int p] ∧ Same G H ∧ Free F G ∧ At C H F S ∧ Ok S ∧ S.places.length + n = 59 ∧ G a = some (.tup xs) ∧ Ims K G xs ts ∧ Res C IP F G S.places (all n S ts p 0) Q E
abbrev GInto (P : Program) (w : World) (K : PySem.W.Frag) (mg : Str → Option Value) (base : Heap) (C IP : Addr) (n j : Nat) : Prop := GoD P w K mg base (L2.CX P w) j "size_inside" ["check", "parts", "place"] (spInto K C IP n)
abbrev GBar (P : Program) (w : World) (K : PySem.W.Frag) (mg : Str → Option Value) (base : Heap) (C IP : Addr) (n j : Nat) : Prop := GoD P w K mg base (L2.CX P w) j "size_behind_barrier" ["check", "parts", "place"] (spBar K C IP n)
abbrev GAll (P : Program) (w : World) (K : PySem.W.Frag) (mg : Str → Option Value) (base : Heap) (C IP : Addr) (n j : Nat) : Prop := GoD P w K mg base (L2.CX P w) j "size_of_all" ["check", "trees", "place"] (spAll K C IP n)
/-- a call's result, by its two ways -/
theorem res_to {F : Foot} {G G1 : Hp} {pl pl0 : List Int} {r : R} {Q Q' : VK} {E : XK} (h : ∀ H', Same G1 H' → Same G H') (he : ∀ e, r = .error e → Res C IP F G pl (.error e) Q E) (ho : ∀ i S', r = .ok (i, S') → ∀ H', Same G1 H' → At C H' F S' → Ok S' → S'.places = pl0 → Q' (.int i) H') : Res C IP F G1 pl0 r Q' E := by
  cases r with
  | error e => exact fun H' d p a b c => he e rfl H' d p (h H' a) b c
  | ok v => exact ho v.1 v.2 rfl
theorem few (F : Foot) (S : CS) : (flds F S).length < 1000 := Nat.lt_of_sub_eq_succ rfl

abbrev sInto : Stmt := topS 22
theorem scInto : FnScope ["check", "parts", "place", "size"] ["check", "parts", "place"] (defScope sInto) := ⟨rfl, rfl, rfl, by decide +kernel, rfl, by decide +kernel, by decide +kernel⟩
theorem places_pop {ps : List Int} {p : Int} : ((ps ++ [p]).map V.int)[((ps ++ [p]).map V.int).length - 1]? = some (.int p) := by
  simp
theorem ok_into {n j : Nat} {f : Addr} {fd : FuncData} (F0 : Fun K "size_inside" "size_inside" sInto f fd) (M : Md K mg w dR dS adr) (Z : Mc P K mg C IP fI) (hj : 1 ≤ j) (GA : n ≠ 0 → GAll P w K mg base C IP (n - 1) j) : FnD P w K mg base (L2.CX P w) (j + 1) f fd ["check", "parts", "place"] (spInto K C IP n) := by
  obtain ⟨tl, lp⟩ := M.lp
  obtain ⟨tt, mt⟩ := M.mt
  refine okXD F0 scInto (fun vs H Q E h => ?_) (fun cdv A outer s H vs Q E hr h => ?_)
  · obtain ⟨_, _, _, _, _, _, _, rfl, _⟩ := h
    rfl
  obtain ⟨F, S, G, a, xs, ts, p, rfl, sm, fr, at0, ok, lv, ga, im, q⟩ := h
  have hu := hu_of hr.low
  have len61 : S.places.length ≤ 59 := by omega
  have at1 : At C (upd H F.dp (.lst (S.places.map V.int ++ [V.int p]))) F { S with places := S.places ++ [p] } := by
    have z := at0.places (S.places ++ [p])
    rw [List.map_append] at z
    exact z
  have sm1 : Same G (upd H F.dp (.lst (S.places.map V.int ++ [V.int p]))) := Ck.Same.up sm fr.dp
  have sq : SqL K H F.dp (S.places.map V.int) := .inl (.inl at0.dp)
  have sq1 : SqL K (upd H F.dp (.lst (S.places.map V.int ++ [V.int p]))) F.dp ((S.places ++ [p]).map V.int) := .inl (.inl at1.dp)
  by_cases hn : n = 0
  · subst hn
    refine ⟨_, pss_cons (ps_expr (pe_bm PySem.F.plainAttrs_list PySem.F.slot_list_append PySem.F.type_list_append mt_append (pe_fld (pv 0) rfl) (pa_cons (pv 2) pa_nil)))
      (pss_cons (ps_if (pt_cmpR op_eq (pe_callB call_len_seq rfl M.ml PySem.boot_len (pa_cons (pe_fld (pv 0) rfl) pa_nil)) (pe_glob (v := .int 60) rfl lp ⟨_, rfl⟩) (nomark _))
        (pss_one (ps_raiseE rfl Z.er given_path (hr.low.mono (by decide)) (takes_of rfl rfl rfl rfl) (pe_ifExp (pt_cmpR op_eq (pe_fld (pv 0) rfl) (pe_glob (v := .int 3000) rfl mt ⟨_, rfl⟩) (nomark _)) (pe_tup pa_nil) (pe_tup (StX.pa_star (pe_fld (pv 0) rfl) (pa_cons pe_int pa_nil)))))) pss_nil) pss_never), ?_⟩
    dsimp only [L2.tRet, L2.tRetN, tAndV, tOrV, tNotV, tCB, L2.tCons, L2.tNil, tC, tVar, L2.tOp, L2.tUn, tSeq, tAsg, gName, tIfS, tTest, tNext, tAnd, tOr, tNot, L2.tIf, tFld, sFld, sFldAug, tCall, tTup, tB, tAug, tDrop, L2.tSl, tPart, tNoPart, tBM, tBM0, tChain, gTup, gCons, gNil, tPar, tIs, List.set, StX.tStar]
    refine ⟨_, rfl, F.c, C, F.dx, _, _, rfl, at0.c, Z.cl, Z.n6, get_places, .inl ⟨rfl, _, sq⟩, _, rfl, F.dp, _, _, rfl, rfl, at0.dp, (by rw [List.length_map, sizeLine_eq]; omega), ?_⟩
    refine ⟨_, rfl, F.c, C, F.dx, _, _, rfl, at1.c, Z.cl, Z.n6, get_places, F.dp, _, rfl, .inl sq1, rfl, _, rfl, ?_⟩
    have l60 : S.places.length + 1 = 60 := by omega
    have e : ins 0 S ts p = .error (if S.trees = 3000 then [] else S.places ++ [p] ++ [0]) := by
      show into (fun _ _ _ _ => .error []) S ts p = _
      unfold into
      rw [if_pos l60]
    rw [e] at q
    refine if_yes (decide_eq_true (by simp; omega)) ?_
    refine ⟨_, rfl, F.c, C, F.dx, _, _, rfl, at1.c, Z.cl, Z.n1, get_trees, rfl, _, rfl, ?_⟩
    have fin : ∀ (path : List Int) (r : Addr), (if S.trees = 3000 then [] else S.places ++ [p] ++ [0]) = path → (upd H F.dp (.lst (S.places.map V.int ++ [V.int p]))) r = none →
        ∀ d, (upd (upd H F.dp (.lst (S.places.map V.int ++ [V.int p]))) r (.tup (path.map V.int))) d = none → E (.ref IP) (some d) (upd (upd (upd H F.dp (.lst (S.places.map V.int ++ [V.int p]))) r (.tup (path.map V.int))) d (.xd [("path", .ref r)])) := by
      rintro path r rfl nr d nd
      refine q _ d r (Ck.Same.new (Ck.Same.new sm1 nr) nd) upd_same ?_
      rw [upd_ne (ne_of_none upd_same nd), upd_same]
    by_cases tr : S.trees = 3000
    · refine if_yes (decide_eq_true (by rw [tr])) ⟨by decide, fun r nr => ?_⟩
      exact fin [] r (if_pos tr) nr
    · refine if_no (decide_eq_false fun z => tr (V.int.inj z)) ?_
      refine ⟨_, rfl, F.c, C, F.dx, _, _, rfl, at1.c, Z.cl, Z.n6, get_places, F.dp, _, rfl, .inr sq1, (by simp [sizeLine_eq]; omega), fun r nr => ?_⟩
      have f := fin (S.places ++ [p] ++ [0]) r (if_neg tr) nr
      rw [List.map_append] at f
      exact f
  · obtain ⟨m, rfl⟩ : ∃ m, n = m + 1 := ⟨n - 1, by omega⟩
    have GA1 : GAll P w K mg base C IP m j := GA hn
    refine ⟨_, pss_cons (ps_expr (pe_bm PySem.F.plainAttrs_list PySem.F.slot_list_append PySem.F.type_list_append mt_append (pe_fld (pv 0) rfl) (pa_cons (pv 2) pa_nil)))
      (pss_cons (ps_if (pt_cmpR op_eq (pe_callB call_len_seq rfl M.ml PySem.boot_len (pa_cons (pe_fld (pv 0) rfl) pa_nil)) (pe_glob (v := .int 60) rfl lp ⟨_, rfl⟩) (nomark _)) pss_never pss_nil)
      (pss_cons (ps_set (i := 3) scInto.nd rfl (.inl rfl) (pe_goD (E := E) GA1 hr (passes_call (takes_of rfl rfl rfl rfl) fun _ _ _ _ z => z) rfl (pa_cons (pv 0) (pa_cons (pv 1) (pa_cons pe_int pa_nil)))))
      (pss_cons (ps_expr (pe_bm0 PySem.F.plainAttrs_list PySem.F.slot_list_pop PySem.F.type_list_pop mt_pop (pe_fld (pv 0) rfl))) (pss_one (ps_ret (pv 3)))))), ?_⟩
    dsimp only [L2.tRet, L2.tRetN, tAndV, tOrV, tNotV, tCB, L2.tCons, L2.tNil, tC, tVar, L2.tOp, L2.tUn, tSeq, tAsg, gName, tIfS, tTest, tNext, tAnd, tOr, tNot, L2.tIf, tFld, sFld, sFldAug, tCall, tTup, tB, tAug, tDrop, L2.tSl, tPart, tNoPart, tBM, tBM0, tChain, gTup, gCons, gNil, tPar, tIs, List.set]
    refine ⟨_, rfl, F.c, C, F.dx, _, _, rfl, at0.c, Z.cl, Z.n6, get_places, .inl ⟨rfl, _, sq⟩, _, rfl, F.dp, _, _, rfl, rfl, at0.dp, (by rw [List.length_map, sizeLine_eq]; omega), ?_⟩
    refine ⟨_, rfl, F.c, C, F.dx, _, _, rfl, at1.c, Z.cl, Z.n6, get_places, F.dp, _, rfl, .inl sq1, rfl, _, rfl, ?_⟩
    have l60 : ¬ S.places.length + 1 = 60 := by omega
    have e : ins (m + 1) S ts p = behind (fun S' => { S' with places := S'.places.dropLast }) (all m { S with places := S.places ++ [p] } ts 0 0) := by
      show into _ S ts p = _
      unfold into
      rw [if_neg l60]
    rw [e] at q
    refine if_no (decide_eq_false (by intro z; have y := V.int.inj z; simp at y; omega)) ?_
    refine ⟨_, rfl, _, rfl, F, { S with places := S.places ++ [p] }, G, a, xs, ts, 0, rfl, sm1, fr, at1, ⟨ok.lo, ok.hi, ok.cm, ok.va⟩, (by simp; omega), ga, im, ?_⟩
    refine res_to (G := G) (pl := S.places) (Q := Q) (fun _ z => z) (fun e r => ?_) (fun i S' r H2 sm2 at2 ok2 pl => ?_)
    · rw [r] at q
      exact q
    · rw [r] at q
      have pl2 : S'.places = S.places ++ [p] := pl
      have sq2 : SqL K H2 F.dp (S'.places.map V.int) := .inl (.inl at2.dp)
      refine ⟨_, rfl, F.c, C, F.dx, _, _, rfl, at2.c, Z.cl, Z.n6, get_places, .inl ⟨rfl, _, sq2⟩, F.dp, _, .int p, rfl, rfl, at2.dp, (by rw [pl2]; exact places_pop), ?_⟩
      refine ⟨_, rfl, ?_⟩
      have at3 := at2.places S'.places.dropLast
      rw [List.map_dropLast] at at3
      refine q _ (Ck.Same.up sm2 fr.dp) at3 ⟨ok2.lo, ok2.hi, ok2.cm, ok2.va⟩ ?_
      show S'.places.dropLast = S.places
      rw [pl2, List.dropLast_concat]

abbrev sBar : Stmt := topS 23
theorem scBar : FnScope ["check", "parts", "place", "loops", "returns", "size"] ["check", "parts", "place"] (defScope sBar) := ⟨rfl, rfl, rfl, by decide +kernel, rfl, by decide +kernel, by decide +kernel⟩
theorem ok_bar {n j : Nat} {f : Addr} {fd : FuncData} (F0 : Fun K "size_behind_barrier" "size_behind_barrier" sBar f fd) (M : Md K mg w dR dS adr) (Z : Mc P K mg C IP fI) (GA : GInto P w K mg base C IP n j) : FnD P w K mg base (L2.CX P w) (j + 1) f fd ["check", "parts", "place"] (spBar K C IP n) := by
  refine okXD F0 scBar (fun vs H Q E h => ?_) (fun cdv A outer s H vs Q E hr h => ?_)
  · obtain ⟨_, _, _, _, _, _, _, rfl, _⟩ := h
    rfl
  obtain ⟨F, S, G, a, xs, ts, p, rfl, sm, fr, at0, ok, lv, ga, im, q⟩ := h
  refine ⟨_, pss_cons (ps_set (i := 3) scBar.nd rfl (.inl rfl) (pe_fld (pv 0) rfl)) (pss_cons (ps_set (i := 4) scBar.nd rfl (.inl rfl) (pe_fld (pv 0) rfl)) (pss_cons (ps_fld (pv 0) pe_int rfl) (pss_cons (ps_fld (pv 0) pe_bl rfl)
    (pss_cons (ps_set (i := 5) scBar.nd rfl (.inl rfl) (pe_goD (E := E) GA hr (passes_call (takes_of rfl rfl rfl rfl) fun _ _ _ _ z => z) rfl (pa_cons (pv 0) (pa_cons (pv 1) (pa_cons (pv 2) pa_nil)))))
    (pss_cons (ps_fld (pv 0) (pv 3) rfl) (pss_cons (ps_fld (pv 0) (pv 4) rfl) (pss_one (ps_ret (pv 5))))))))), ?_⟩
  dsimp only [L2.tRet, L2.tRetN, tAndV, tOrV, tNotV, tCB, L2.tCons, L2.tNil, tC, tVar, L2.tOp, L2.tUn, tSeq, tAsg, gName, tIfS, tTest, tNext, tAnd, tOr, tNot, L2.tIf, tFld, sFld, sFldAug, tCall, tTup, tB, tAug, tDrop, L2.tSl, tPart, tNoPart, tBM, tBM0, tChain, gTup, gCons, gNil, tPar, tIs, List.set]
  refine ⟨_, rfl, F.c, C, F.dx, _, _, rfl, at0.c, Z.cl, Z.n7, get_loops, ?_⟩
  refine ⟨_, rfl, F.c, C, F.dx, _, _, rfl, at0.c, Z.cl, Z.n8, get_rets, ?_⟩
  have at1 := at0.set (S' := { S with loops := 0 }) put_loops rfl rfl rfl rfl
  refine ⟨_, rfl, F.c, C, F.dx, _, rfl, at0.c, Z.cl, Z.n7, few F S, ?_⟩
  have at2 := at1.set (S' := { S with loops := 0, rets := false }) put_rets rfl rfl rfl rfl
  refine ⟨_, rfl, F.c, C, F.dx, _, rfl, at1.c, Z.cl, Z.n8, few F _, ?_⟩
  have sm2 := Ck.Same.up (o := .ins C F.dx (putF "returns" (.bl false) (flds F { S with loops := 0 }))) (Ck.Same.up (o := .ins C F.dx (putF "loops" (.int 0) (flds F S))) sm fr.c) fr.c
  refine ⟨_, rfl, _, rfl, _, rfl, F, { S with loops := 0, rets := false }, G, a, xs, ts, p, rfl, sm2, fr, at2, ⟨ok.lo, ok.hi, ok.cm, ok.va⟩, lv, ga, im, ?_⟩
  have qq : Res C IP F G S.places (behind (fun S' => { S' with loops := S.loops, rets := S.rets }) (ins n { S with loops := 0, rets := false } ts p)) Q E := q
  refine res_to (G := G) (pl := S.places) (Q := Q) (fun _ z => z) (fun e r => ?_) (fun i S' r H2 sm2 at2 ok2 pl => ?_)
  · rw [r] at qq
    exact qq
  · rw [r] at qq
    have at3 := at2.set (S' := { S' with loops := S.loops }) put_loops rfl rfl rfl rfl
    refine ⟨_, rfl, _, rfl, F.c, C, F.dx, _, rfl, at2.c, Z.cl, Z.n7, few F _, ?_⟩
    have at4 := at3.set (S' := { S' with loops := S.loops, rets := S.rets }) put_rets rfl rfl rfl rfl
    refine ⟨_, rfl, _, rfl, F.c, C, F.dx, _, rfl, at3.c, Z.cl, Z.n8, few F _, ?_⟩
    refine ⟨_, rfl, ?_⟩
    exact qq _ (Ck.Same.up (Ck.Same.up sm2 fr.c) fr.c) at4 ⟨ok2.lo, ok2.hi, ok2.cm, ok2.va⟩ pl

theorem keep_left {G : Hp} {r : Addr} {o : HO} (n : G r = none) : ∀ H', Same (upd G r o) H' → Same G H' := fun _ z => Ck.Same.left z n
/-- one more than the inner size -/
theorem inc_to {F : Foot} {G G1 : Hp} {S0 : CS} {r : R} {Q Q' : VK} {E : XK} (h : ∀ H', Same G1 H' → Same G H') (q : Res C IP F G S0.places (inc r) Q E) (ho : ∀ i H', Q (.int (1 + i)) H' → Q' (.int i) H') : Res C IP F G1 S0.places r Q' E := by
  refine res_to (G := G) (pl := S0.places) (Q := Q) h (fun e z => ?_) (fun i S' z H2 sm2 at2 ok2 pl => ?_)
  · rw [z] at q
    exact q
  · rw [z] at q
    exact ho i H2 (q H2 (h H2 sm2) at2 ok2 pl)
abbrev GHp (P : Program) (w : World) (K : PySem.W.Frag) (mg : Str → Option Value) (base : Heap) : Prop := Go P w K mg base CX0 1 "has_parts" ["tree"] (spHp K)
theorem hp_of {H : Hp} {xs : List V} {ts : List T} (im : Ims K H xs ts) (e : hasParts ts = true) : ∃ x0 t0 b ys ps, xs = [x0, .ref b] ∧ ts = [t0, .tup ps] ∧ H b = some (.tup ys) ∧ Ims K H ys ps ∧ 2 ≤ ps.length := by
  rcases im with _ | ⟨i0, _ | ⟨i1, _ | ⟨i2, r⟩⟩⟩
  · simp [hasParts] at e
  · simp [hasParts] at e
  · cases i1 with
    | tup hb ip => exact ⟨_, _, _, _, _, rfl, rfl, hb, ip, of_decide_eq_true e⟩
    | _ => simp [hasParts] at e
  · simp [hasParts] at e

abbrev sSeq : Stmt := topS 32
theorem scSeq : FnScope ["check", "tree", "place"] ["check", "tree", "place"] (defScope sSeq) := ⟨rfl, rfl, rfl, by decide +kernel, rfl, by decide +kernel, by decide +kernel⟩
theorem ok_Seq {n : Nat} {f : Addr} {fd : FuncData} (F0 : Fun K "size_of_seq" "size_of_seq" sSeq f fd) (M : Md K mg w dR dS adr) (Z : Mc P K mg C IP fI) {j : Nat} (hj : 1 ≤ j) (GP : GHp P w K mg base) (GA : GInto P w K mg base C IP n j) : FnD P w K mg base (L2.CX P w) (j + 1) f fd ["check", "tree", "place"] (spAct K C IP n .seq) := by
  refine okXD F0 scSeq (fun vs H Q E h => ?_) (fun cdv A outer s H vs Q E hr h => ?_)
  · obtain ⟨_, _, _, _, _, _, _, rfl, _⟩ := h
    rfl
  obtain ⟨F, S, G, a, xs, ts, p, rfl, sm, fr, at0, ok, lv, ga, im, q⟩ := h
  have hu := hu_of hr.low
  have ha := sqt (K := K) (sm _ _ ga)

  refine ⟨_, pss_one (ps_ret (pe_ifExp (pt_val (pe_go GP (hr.low.mono (by decide)) pass0 rfl (pa_cons (pv 1) pa_nil))) (pe_op op_add pe_int (pe_goD (E := E) GA hr (passes_call (takes_of rfl rfl rfl rfl) fun _ _ _ _ z => z) rfl (pa_cons (pv 0) (pa_cons (pe_ix ix_tup (pv 1) pe_int fun _ _ => rfl) (pa_cons (pv 2) pa_nil))))) pe_int)), ?_⟩
  dsimp only [L2.tRet, L2.tRetN, tAndV, tOrV, tNotV, tCB, L2.tCons, L2.tNil, tC, tVar, L2.tOp, L2.tUn, tSeq, tAsg, gName, tIfS, tTest, tNext, tAnd, tOr, tNot, L2.tIf, tFld, sFld, sFldAug, tCall, tTup, tB, tAug, tDrop, L2.tSl, tPart, tNoPart, tBM, tBM0, tChain, gTup, gCons, gNil, tPar, tIs, List.set]
  refine ⟨_, rfl, a, xs, ts, rfl, sm _ _ ga, im.mono sm, _, rfl, ?_⟩
  cases e : hasParts ts with
  | false =>
    have z : act (ins n) .seq S ts p = .ok (0, S) := by
      rcases ts with _ | ⟨t0, _ | ⟨t1, _ | ⟨t2, r⟩⟩⟩ <;> first | rfl | (cases t1 <;> first | rfl | (show (if 2 ≤ _ then _ else _) = _; rw [if_neg (of_decide_eq_false e)]))
    rw [z] at q
    exact if_no rfl (res0 q sm at0 ok.ok)
  | true =>
    obtain ⟨x0, t0, b, ys, ps, rfl, rfl, hb, ip, two⟩ := hp_of im e
    have z : act (ins n) .seq S [t0, .tup ps] p = inc (ins n S ps p) := by
      show (if 2 ≤ ps.length then _ else _) = _
      rw [if_pos two]
    rw [z] at q
    refine if_yes rfl ?_
    refine ⟨_, rfl, _, rfl, a, _, _, _, rfl, rfl, ha, rfl, _, rfl, F, S, G, b, ys, ps, p, rfl, sm, fr, at0, ok.ok, lv, hb, ip, ?_⟩
    exact inc_to (fun _ z => z) q fun i H' y => ⟨_, _, rfl, rfl, y⟩

abbrev sPip : Stmt := topS 33
theorem scPip : FnScope ["check", "tree", "place"] ["check", "tree", "place"] (defScope sPip) := ⟨rfl, rfl, rfl, by decide +kernel, rfl, by decide +kernel, by decide +kernel⟩
theorem ok_Pip {n : Nat} {f : Addr} {fd : FuncData} (F0 : Fun K "size_of_pipe" "size_of_pipe" sPip f fd) (M : Md K mg w dR dS adr) (Z : Mc P K mg C IP fI) {j : Nat} (hj : 1 ≤ j) (GP : GHp P w K mg base) (GA : GBar P w K mg base C IP n j) : FnD P w K mg base (L2.CX P w) (j + 1) f fd ["check", "tree", "place"] (spAct K C IP n .pipe) := by
  refine okXD F0 scPip (fun vs H Q E h => ?_) (fun cdv A outer s H vs Q E hr h => ?_)
  · obtain ⟨_, _, _, _, _, _, _, rfl, _⟩ := h
    rfl
  obtain ⟨F, S, G, a, xs, ts, p, rfl, sm, fr, at0, ok, lv, ga, im, q⟩ := h
  have hu := hu_of hr.low
  have ha := sqt (K := K) (sm _ _ ga)

  refine ⟨_, pss_one (ps_ret (pe_ifExp (pt_val (pe_go GP (hr.low.mono (by decide)) pass0 rfl (pa_cons (pv 1) pa_nil))) (pe_op op_add pe_int (pe_goD (E := E) GA hr (passes_call (takes_of rfl rfl rfl rfl) fun _ _ _ _ z => z) rfl (pa_cons (pv 0) (pa_cons (pe_ix ix_tup (pv 1) pe_int fun _ _ => rfl) (pa_cons (pv 2) pa_nil))))) pe_int)), ?_⟩
  dsimp only [L2.tRet, L2.tRetN, tAndV, tOrV, tNotV, tCB, L2.tCons, L2.tNil, tC, tVar, L2.tOp, L2.tUn, tSeq, tAsg, gName, tIfS, tTest, tNext, tAnd, tOr, tNot, L2.tIf, tFld, sFld, sFldAug, tCall, tTup, tB, tAug, tDrop, L2.tSl, tPart, tNoPart, tBM, tBM0, tChain, gTup, gCons, gNil, tPar, tIs, List.set]
  refine ⟨_, rfl, a, xs, ts, rfl, sm _ _ ga, im.mono sm, _, rfl, ?_⟩
  cases e : hasParts ts with
  | false =>
    have z : act (ins n) .pipe S ts p = .ok (0, S) := by
      rcases ts with _ | ⟨t0, _ | ⟨t1, _ | ⟨t2, r⟩⟩⟩ <;> first | rfl | (cases t1 <;> first | rfl | (show (if 2 ≤ _ then _ else _) = _; rw [if_neg (of_decide_eq_false e)]))
    rw [z] at q
    exact if_no rfl (res0 q sm at0 ok.ok)
  | true =>
    obtain ⟨x0, t0, b, ys, ps, rfl, rfl, hb, ip, two⟩ := hp_of im e
    have z : act (ins n) .pipe S [t0, .tup ps] p = inc (barrier (ins n) S ps p) := by
      show (if 2 ≤ ps.length then _ else _) = _
      rw [if_pos two]
    rw [z] at q
    refine if_yes rfl ?_
    refine ⟨_, rfl, _, rfl, a, _, _, _, rfl, rfl, ha, rfl, _, rfl, F, S, G, b, ys, ps, p, rfl, sm, fr, at0, ok.ok, lv, hb, ip, ?_⟩
    exact inc_to (fun _ z => z) q fun i H' y => ⟨_, _, rfl, rfl, y⟩

abbrev sAnd : Stmt := topS 34
theorem scAnd : FnScope ["check", "tree", "place"] ["check", "tree", "place"] (defScope sAnd) := ⟨rfl, rfl, rfl, by decide +kernel, rfl, by decide +kernel, by decide +kernel⟩
theorem ok_And {n : Nat} {f : Addr} {fd : FuncData} (F0 : Fun K "size_of_and_or" "size_of_and_or" sAnd f fd) (M : Md K mg w dR dS adr) (Z : Mc P K mg C IP fI) {j : Nat} (hj : 1 ≤ j) (GA : GInto P w K mg base C IP n j) : FnD P w K mg base (L2.CX P w) (j + 1) f fd ["check", "tree", "place"] (spAct K C IP n .andor) := by
  refine okXD F0 scAnd (fun vs H Q E h => ?_) (fun cdv A outer s H vs Q E hr h => ?_)
  · obtain ⟨_, _, _, _, _, _, _, rfl, _⟩ := h
    rfl
  obtain ⟨F, S, G, a, xs, ts, p, rfl, sm, fr, at0, ok, lv, ga, im, q⟩ := h
  have hu := hu_of hr.low
  have ha := sqt (K := K) (sm _ _ ga)

  refine ⟨_, pss_one (ps_ret (pe_ifExp (pt_cmpR op_eq (pe_callB call_len_seq rfl M.ml PySem.boot_len (pa_cons (pv 1) pa_nil)) pe_int (nomark _)) (pe_op op_add pe_int (pe_goD (E := E) GA hr (passes_call (takes_of rfl rfl rfl rfl) fun _ _ _ _ z => z) rfl (pa_cons (pv 0) (pa_cons (pe_slice sl_tup (pv 1) (po_some pe_int) po_none) (pa_cons (pv 2) pa_nil))))) pe_int)), ?_⟩
  dsimp only [L2.tRet, L2.tRetN, tAndV, tOrV, tNotV, tCB, L2.tCons, L2.tNil, tC, tVar, L2.tOp, L2.tUn, tSeq, tAsg, gName, tIfS, tTest, tNext, tAnd, tOr, tNot, L2.tIf, tFld, sFld, sFldAug, tCall, tTup, tB, tAug, tDrop, L2.tSl, tPart, tNoPart, tBM, tBM0, tChain, gTup, gCons, gNil, tPar, tIs, List.set]
  refine ⟨_, rfl, a, xs, rfl, .inr ha, rfl, _, rfl, ?_⟩
  rcases three im with ⟨x0, x1, x2, t0, t1, t2, rfl, rfl, i0, i1, i2⟩ | ⟨c, nt⟩
  · refine if_yes rfl ?_
    refine ⟨_, rfl, _, rfl, 1, rfl, a, _, rfl, ha, (by show ¬ (HT.sIx 3 0 (some 1) = 0 ∧ HT.sIx 3 3 none = 3); decide), fun r nr => ?_⟩
    have nG := Ck.Same.non sm nr
    have im1 : Ims K G [x1, x2] [t1, t2] := (.cons i1 (.cons i2 .nil))
    refine ⟨_, rfl, F, S, upd G r (.tup [x1, x2]), r, [x1, x2], [t1, t2], p, rfl, Ck.Same.both sm, fr.new at0 nr, at0.new nr, ok.ok, lv, upd_same, im1.mono (Ck.Same.new (fun _ _ z => z) nG), ?_⟩
    exact inc_to (keep_left nG) q fun i H' y => ⟨_, _, rfl, rfl, y⟩
  · have e : act (ins n) .andor S ts p = .ok (0, S) := by
      rcases ts with _ | ⟨t0, _ | ⟨t1, _ | ⟨t2, _ | ⟨t3, r⟩⟩⟩⟩ <;> first | rfl | exact absurd rfl (nt _ _ _)
    rw [e] at q
    exact if_no (len_ne c) (res0 q sm at0 ok.ok)

abbrev sNot : Stmt := topS 35
theorem scNot : FnScope ["check", "tree", "place"] ["check", "tree", "place"] (defScope sNot) := ⟨rfl, rfl, rfl, by decide +kernel, rfl, by decide +kernel, by decide +kernel⟩
theorem ok_Not {n : Nat} {f : Addr} {fd : FuncData} (F0 : Fun K "size_of_not" "size_of_not" sNot f fd) (M : Md K mg w dR dS adr) (Z : Mc P K mg C IP fI) {j : Nat} (hj : 1 ≤ j) (GA : GInto P w K mg base C IP n j) : FnD P w K mg base (L2.CX P w) (j + 1) f fd ["check", "tree", "place"] (spAct K C IP n .not) := by
  refine okXD F0 scNot (fun vs H Q E h => ?_) (fun cdv A outer s H vs Q E hr h => ?_)
  · obtain ⟨_, _, _, _, _, _, _, rfl, _⟩ := h
    rfl
  obtain ⟨F, S, G, a, xs, ts, p, rfl, sm, fr, at0, ok, lv, ga, im, q⟩ := h
  have hu := hu_of hr.low
  have ha := sqt (K := K) (sm _ _ ga)

  refine ⟨_, pss_one (ps_ret (pe_ifExp (pt_cmpR op_eq (pe_callB call_len_seq rfl M.ml PySem.boot_len (pa_cons (pv 1) pa_nil)) pe_int (nomark _)) (pe_op op_add pe_int (pe_goD (E := E) GA hr (passes_call (takes_of rfl rfl rfl rfl) fun _ _ _ _ z => z) rfl (pa_cons (pv 0) (pa_cons (pe_slice sl_tup (pv 1) (po_some pe_int) po_none) (pa_cons (pv 2) pa_nil))))) pe_int)), ?_⟩
  dsimp only [L2.tRet, L2.tRetN, tAndV, tOrV, tNotV, tCB, L2.tCons, L2.tNil, tC, tVar, L2.tOp, L2.tUn, tSeq, tAsg, gName, tIfS, tTest, tNext, tAnd, tOr, tNot, L2.tIf, tFld, sFld, sFldAug, tCall, tTup, tB, tAug, tDrop, L2.tSl, tPart, tNoPart, tBM, tBM0, tChain, gTup, gCons, gNil, tPar, tIs, List.set]
  refine ⟨_, rfl, a, xs, rfl, .inr ha, rfl, _, rfl, ?_⟩
  rcases two im with ⟨x0, x1, t0, t1, rfl, rfl, i0, i1⟩ | ⟨c, nt⟩
  · refine if_yes rfl ?_
    refine ⟨_, rfl, _, rfl, 1, rfl, a, _, rfl, ha, (by show ¬ (HT.sIx 2 0 (some 1) = 0 ∧ HT.sIx 2 2 none = 2); decide), fun r nr => ?_⟩
    have nG := Ck.Same.non sm nr
    have im1 : Ims K G [x1] [t1] := (.cons i1 .nil)
    refine ⟨_, rfl, F, S, upd G r (.tup [x1]), r, [x1], [t1], p, rfl, Ck.Same.both sm, fr.new at0 nr, at0.new nr, ok.ok, lv, upd_same, im1.mono (Ck.Same.new (fun _ _ z => z) nG), ?_⟩
    exact inc_to (keep_left nG) q fun i H' y => ⟨_, _, rfl, rfl, y⟩
  · have e : act (ins n) .not S ts p = .ok (0, S) := by
      rcases ts with _ | ⟨t0, _ | ⟨t1, _ | ⟨t2, r⟩⟩⟩ <;> first | rfl | exact absurd rfl (nt _ _)
    rw [e] at q
    exact if_no (len_ne c) (res0 q sm at0 ok.ok)

abbrev sSub : Stmt := topS 36
theorem scSub : FnScope ["check", "tree", "place"] ["check", "tree", "place"] (defScope sSub) := ⟨rfl, rfl, rfl, by decide +kernel, rfl, by decide +kernel, by decide +kernel⟩
theorem ok_Sub {n : Nat} {f : Addr} {fd : FuncData} (F0 : Fun K "size_of_sub" "size_of_sub" sSub f fd) (M : Md K mg w dR dS adr) (Z : Mc P K mg C IP fI) {j : Nat} (hj : 1 ≤ j) (GA : GBar P w K mg base C IP n j) : FnD P w K mg base (L2.CX P w) (j + 1) f fd ["check", "tree", "place"] (spAct K C IP n .sub) := by
  refine okXD F0 scSub (fun vs H Q E h => ?_) (fun cdv A outer s H vs Q E hr h => ?_)
  · obtain ⟨_, _, _, _, _, _, _, rfl, _⟩ := h
    rfl
  obtain ⟨F, S, G, a, xs, ts, p, rfl, sm, fr, at0, ok, lv, ga, im, q⟩ := h
  have hu := hu_of hr.low
  have ha := sqt (K := K) (sm _ _ ga)

  refine ⟨_, pss_one (ps_ret (pe_ifExp (pt_cmpR op_eq (pe_callB call_len_seq rfl M.ml PySem.boot_len (pa_cons (pv 1) pa_nil)) pe_int (nomark _)) (pe_op op_add pe_int (pe_goD (E := E) GA hr (passes_call (takes_of rfl rfl rfl rfl) fun _ _ _ _ z => z) rfl (pa_cons (pv 0) (pa_cons (pe_slice sl_tup (pv 1) (po_some pe_int) po_none) (pa_cons (pv 2) pa_nil))))) pe_int)), ?_⟩
  dsimp only [L2.tRet, L2.tRetN, tAndV, tOrV, tNotV, tCB, L2.tCons, L2.tNil, tC, tVar, L2.tOp, L2.tUn, tSeq, tAsg, gName, tIfS, tTest, tNext, tAnd, tOr, tNot, L2.tIf, tFld, sFld, sFldAug, tCall, tTup, tB, tAug, tDrop, L2.tSl, tPart, tNoPart, tBM, tBM0, tChain, gTup, gCons, gNil, tPar, tIs, List.set]
  refine ⟨_, rfl, a, xs, rfl, .inr ha, rfl, _, rfl, ?_⟩
  rcases two im with ⟨x0, x1, t0, t1, rfl, rfl, i0, i1⟩ | ⟨c, nt⟩
  · refine if_yes rfl ?_
    refine ⟨_, rfl, _, rfl, 1, rfl, a, _, rfl, ha, (by show ¬ (HT.sIx 2 0 (some 1) = 0 ∧ HT.sIx 2 2 none = 2); decide), fun r nr => ?_⟩
    have nG := Ck.Same.non sm nr
    have im1 : Ims K G [x1] [t1] := (.cons i1 .nil)
    refine ⟨_, rfl, F, S, upd G r (.tup [x1]), r, [x1], [t1], p, rfl, Ck.Same.both sm, fr.new at0 nr, at0.new nr, ok.ok, lv, upd_same, im1.mono (Ck.Same.new (fun _ _ z => z) nG), ?_⟩
    exact inc_to (keep_left nG) q fun i H' y => ⟨_, _, rfl, rfl, y⟩
  · have e : act (ins n) .sub S ts p = .ok (0, S) := by
      rcases ts with _ | ⟨t0, _ | ⟨t1, _ | ⟨t2, r⟩⟩⟩ <;> first | rfl | exact absurd rfl (nt _ _)
    rw [e] at q
    exact if_no (len_ne c) (res0 q sm at0 ok.ok)

end
end Ck

/-! Traps, ifs, loops; trees side by side. -/
namespace Ck
open PySem PySem.Spec PyProof.Rows L2 PySem.ErrKw
section
variable {P : Program} {w : World} {K : PySem.W.Frag} {mg : Str → Option Value} {base : Heap} {dR dS : Addr} {adr : Kind → Addr} {C IP fI : Addr}

abbrev sTra : Stmt := topS 31
theorem scTra : FnScope ["check", "tree", "place"] ["check", "tree", "place"] (defScope sTra) := ⟨rfl, rfl, rfl, by decide +kernel, rfl, by decide +kernel, by decide +kernel⟩
theorem ok_Tra {n : Nat} {f : Addr} {fd : FuncData} (F0 : Fun K "size_of_trap" "size_of_trap" sTra f fd) (M : Md K mg w dR dS adr) (Z : Mc P K mg C IP fI) {j : Nat} (GA : GBar P w K mg base C IP n j) : FnD P w K mg base (L2.CX P w) (j + 1) f fd ["check", "tree", "place"] (spAct K C IP n .trap) := by
  refine okXD F0 scTra (fun vs H Q E h => ?_) (fun cdv A outer s H vs Q E hr h => ?_)
  · obtain ⟨_, _, _, _, _, _, _, rfl, _⟩ := h
    rfl
  obtain ⟨F, S, G, a, xs, ts, p, rfl, sm, fr, at0, ok, lv, ga, im, q⟩ := h
  have hu := hu_of hr.low
  have ha := sqt (K := K) (sm _ _ ga)

  refine ⟨_, pss_cons (ps_if (PW.pt (pw_or (pt_cmpR op_ne (pe_callB call_len_seq rfl M.ml PySem.boot_len (pa_cons (pv 1) pa_nil)) pe_int (nomark _)) (pw_or (pt_not (pt_val (pe_is (n := "str") M.mi M.mstr (by decide +kernel) rfl rfl (pe_ix ix_tup (pv 1) pe_int fun _ _ => rfl)))) (pw_or1 (pt_cmpR op_notIn_seq (pe_ix ix_tup (pv 1) pe_int fun _ _ => rfl) (pe_tup (pa_cons pe_str (pa_cons pe_str pa_nil))) (by rfl)))))) (pss_one (ps_ret pe_int)) pss_nil)
    (pss_one (ps_ret (pe_ifExp (pt_cmpR op_isN (pe_ix ix_tup (pv 1) pe_int fun _ _ => rfl) pe_non (nomark _)) pe_int (pe_op op_add pe_int (pe_goD (E := E) GA hr (passes_call (takes_of rfl rfl rfl rfl) fun _ _ _ _ z => z) rfl (pa_cons (pv 0) (pa_cons (pe_slice sl_tup (pv 1) (po_some pe_int) po_none) (pa_cons (pv 2) pa_nil)))))))), ?_⟩
  dsimp only [L2.tRet, L2.tRetN, tAndV, tOrV, tNotV, tCB, L2.tCons, L2.tNil, tC, tVar, L2.tOp, L2.tUn, tSeq, tAsg, gName, tIfS, tTest, tNext, tAnd, tOr, tNot, L2.tIf, tFld, sFld, sFldAug, tCall, tTup, tB, tAug, tDrop, L2.tSl, tPart, tNoPart, tBM, tBM0, tChain, gTup, gCons, gNil, tPar, tIs, List.set]
  refine ⟨_, rfl, a, xs, rfl, .inr ha, rfl, _, rfl, ?_⟩
  rcases three im with ⟨x0, x1, x2, t0, t1, t2, rfl, rfl, i0, i1, i2⟩ | ⟨c, nt⟩
  · refine if_no rfl ?_
    refine ⟨_, rfl, a, _, _, _, rfl, rfl, ha, rfl, is_str (i1.mono sm) ⟨_, rfl, ?_⟩⟩
    cases e1 : isSt t1 with
    | false =>
      have z : act (ins n) .trap S [t0, t1, t2] p = .ok (0, S) := by cases t1 <;> first | rfl | simp [isSt] at e1
      rw [z] at q
      exact if_yes rfl (if_yes rfl (res0 q sm at0 ok.ok))
    | true =>
      refine if_no rfl ?_
      obtain ⟨z, rfl, rfl⟩ := str_of i1 e1
      refine ⟨_, rfl, a, _, _, _, rfl, rfl, ha, rfl, (by decide), fun r nr => ?_⟩
      have sm1 := Ck.Same.new (o := .tup [V.str "end", V.str "fail"]) sm nr
      have at1 := at0.new (o := .tup [V.str "end", V.str "fail"]) nr
      have ha1 : SqT K (upd H r (.tup [V.str "end", V.str "fail"])) a [x0, .str z, x2] := sqt (sm1 _ _ ga)
      refine ⟨r, _, rfl, .inr (sqt upd_same), rfl, rfl, _, rfl, ?_⟩
      have qq : Res C IP F G S.places (if z = "end" ∨ z = "fail" then (if isNon t2 then .ok (1, S) else inc (barrier (ins n) S [t2] p)) else .ok (0, S)) Q E := q
      have iv : inV (V.str z) [V.str "end", V.str "fail"] = decide (z = "end" ∨ z = "fail") := by
        unfold inV
        by_cases y1 : z = "end"
        · simp [y1, eqV]
        · by_cases y2 : z = "fail"
          · simp [y2, eqV]
          · have z1 : ¬ ("end" : Str) = z := fun h => y1 h.symm
            have z2 : ¬ ("fail" : Str) = z := fun h => y2 h.symm
            simp [y1, y2, z1, z2, eqV]
      rw [iv]
      by_cases y : z = "end" ∨ z = "fail"
      · rw [if_pos y] at qq
        refine if_no (by rw [decide_eq_true y]; rfl) ?_
        refine ⟨_, rfl, a, _, _, _, rfl, rfl, ha1, rfl, rfl, _, rfl, ?_⟩
        rw [non_is i2]
        cases e2 : isNon t2 with
        | true =>
          rw [e2, if_pos rfl] at qq
          exact if_yes rfl (res0 qq sm1 at1 ok.ok)
        | false =>
          rw [e2, if_neg Bool.false_ne_true] at qq
          refine if_no rfl ?_
          refine ⟨_, rfl, _, rfl, 2, rfl, a, _, rfl, ha1, (by show ¬ (HT.sIx 3 0 (some 2) = 0 ∧ HT.sIx 3 3 none = 3); decide), fun r2 nr2 => ?_⟩
          have nG := Ck.Same.non sm1 nr2
          refine ⟨_, rfl, F, S, upd G r2 (.tup [x2]), r2, [x2], [t2], p, rfl, Ck.Same.both sm1, fr.new at1 nr2, at1.new nr2, ok.ok, lv, upd_same, (Ims.cons i2 .nil).mono (Ck.Same.new (fun _ _ z => z) nG), ?_⟩
          exact inc_to (keep_left nG) qq fun i H' y => ⟨_, _, rfl, rfl, y⟩
      · rw [if_neg y] at qq
        exact if_yes (by rw [decide_eq_false y]; rfl) (res0 qq sm1 at1 ok.ok)
  · have e : act (ins n) .trap S ts p = .ok (0, S) := by
      rcases ts with _ | ⟨t0, _ | ⟨t1, _ | ⟨t2, _ | ⟨t3, r⟩⟩⟩⟩ <;> first | rfl | exact absurd rfl (nt _ _ _) | (cases t1 <;> rfl)
    rw [e] at q
    exact if_yes (len_not c) (if_yes rfl (res0 q sm at0 ok.ok))

abbrev sIff : Stmt := topS 37
theorem scIff : FnScope ["check", "tree", "place"] ["check", "tree", "place"] (defScope sIff) := ⟨rfl, rfl, rfl, by decide +kernel, rfl, by decide +kernel, by decide +kernel⟩
theorem ok_Iff {n : Nat} {f : Addr} {fd : FuncData} (F0 : Fun K "size_of_if" "size_of_if" sIff f fd) (M : Md K mg w dR dS adr) (Z : Mc P K mg C IP fI) {j : Nat} (GA : GInto P w K mg base C IP n j) : FnD P w K mg base (L2.CX P w) (j + 1) f fd ["check", "tree", "place"] (spAct K C IP n .ife) := by
  refine okXD F0 scIff (fun vs H Q E h => ?_) (fun cdv A outer s H vs Q E hr h => ?_)
  · obtain ⟨_, _, _, _, _, _, _, rfl, _⟩ := h
    rfl
  obtain ⟨F, S, G, a, xs, ts, p, rfl, sm, fr, at0, ok, lv, ga, im, q⟩ := h
  have hu := hu_of hr.low
  have ha := sqt (K := K) (sm _ _ ga)

  refine ⟨_, pss_cons (ps_if (pt_cmpR op_ne (pe_callB call_len_seq rfl M.ml PySem.boot_len (pa_cons (pv 1) pa_nil)) pe_int (nomark _)) (pss_one (ps_ret pe_int)) pss_nil)
    (pss_one (ps_ret (pe_op op_add pe_int (pe_goD (E := E) GA hr (passes_call (takes_of rfl rfl rfl rfl) fun _ _ _ _ z => z) rfl (pa_cons (pv 0) (pa_cons (pe_ifExp (pt_cmpR op_isN (pe_ix ix_tup (pv 1) pe_int fun _ _ => rfl) pe_non (nomark _)) (pe_slice sl_tup (pv 1) (po_some pe_int) (po_some pe_int)) (pe_slice sl_tup (pv 1) (po_some pe_int) po_none)) (pa_cons (pv 2) pa_nil))))))), ?_⟩
  dsimp only [L2.tRet, L2.tRetN, tAndV, tOrV, tNotV, tCB, L2.tCons, L2.tNil, tC, tVar, L2.tOp, L2.tUn, tSeq, tAsg, gName, tIfS, tTest, tNext, tAnd, tOr, tNot, L2.tIf, tFld, sFld, sFldAug, tCall, tTup, tB, tAug, tDrop, L2.tSl, tPart, tNoPart, tBM, tBM0, tChain, gTup, gCons, gNil, tPar, tIs, List.set]
  refine ⟨_, rfl, a, xs, rfl, .inr ha, rfl, _, rfl, ?_⟩
  rcases four im with ⟨x0, x1, x2, x3, t0, t1, t2, t3, rfl, rfl, i0, i1, i2, i3⟩ | ⟨c, nt⟩
  · refine if_no rfl ?_
    refine ⟨_, rfl, _, rfl, a, _, _, _, rfl, rfl, ha, rfl, rfl, _, rfl, ?_⟩
    rw [non_is i3]
    have qq : Res C IP F G S.places (inc (ins n S (if isNon t3 = true then [t1, t2] else [t1, t2, t3]) p)) Q E := q
    cases e2 : isNon t3 with
    | true =>
      rw [e2, if_pos rfl] at qq
      refine if_yes rfl ?_
      refine ⟨_, rfl, 1, rfl, 3, rfl, a, _, rfl, ha, (by show ¬ (HT.sIx 4 0 (some 1) = 0 ∧ HT.sIx 4 4 (some 3) = 4); decide), fun r nr => ?_⟩
      have nG := Ck.Same.non sm nr
      refine ⟨_, rfl, F, S, upd G r (.tup [x1, x2]), r, [x1, x2], [t1, t2], p, rfl, Ck.Same.both sm, fr.new at0 nr, at0.new nr, ok.ok, lv, upd_same, (Ims.cons i1 (.cons i2 .nil)).mono (Ck.Same.new (fun _ _ z => z) nG), ?_⟩
      exact inc_to (keep_left nG) qq fun i H' y => ⟨_, _, rfl, rfl, y⟩
    | false =>
      rw [e2, if_neg Bool.false_ne_true] at qq
      refine if_no rfl ?_
      refine ⟨_, rfl, 1, rfl, a, _, rfl, ha, (by show ¬ (HT.sIx 4 0 (some 1) = 0 ∧ HT.sIx 4 4 none = 4); decide), fun r nr => ?_⟩
      have nG := Ck.Same.non sm nr
      refine ⟨_, rfl, F, S, upd G r (.tup [x1, x2, x3]), r, [x1, x2, x3], [t1, t2, t3], p, rfl, Ck.Same.both sm, fr.new at0 nr, at0.new nr, ok.ok, lv, upd_same, (Ims.cons i1 (.cons i2 (.cons i3 .nil))).mono (Ck.Same.new (fun _ _ z => z) nG), ?_⟩
      exact inc_to (keep_left nG) qq fun i H' y => ⟨_, _, rfl, rfl, y⟩
  · have e : act (ins n) .ife S ts p = .ok (0, S) := by
      rcases ts with _ | ⟨t0, _ | ⟨t1, _ | ⟨t2, _ | ⟨t3, _ | ⟨t4, r⟩⟩⟩⟩⟩ <;> first | rfl | exact absurd rfl (nt _ _ _ _)
    rw [e] at q
    exact if_yes (len_not c) (res0 q sm at0 ok.ok)

abbrev sWhi : Stmt := topS 38
theorem scWhi : FnScope ["check", "tree", "place", "size"] ["check", "tree", "place"] (defScope sWhi) := ⟨rfl, rfl, rfl, by decide +kernel, rfl, by decide +kernel, by decide +kernel⟩
theorem ok_Whi {n : Nat} {f : Addr} {fd : FuncData} (F0 : Fun K "size_of_while" "size_of_while" sWhi f fd) (M : Md K mg w dR dS adr) (Z : Mc P K mg C IP fI) {j : Nat} (GA : GInto P w K mg base C IP n j) : FnD P w K mg base (L2.CX P w) (j + 1) f fd ["check", "tree", "place"] (spAct K C IP n .whl) := by
  refine okXD F0 scWhi (fun vs H Q E h => ?_) (fun cdv A outer s H vs Q E hr h => ?_)
  · obtain ⟨_, _, _, _, _, _, _, rfl, _⟩ := h
    rfl
  obtain ⟨F, S, G, a, xs, ts, p, rfl, sm, fr, at0, ok, lv, ga, im, q⟩ := h
  have hu := hu_of hr.low
  have ha := sqt (K := K) (sm _ _ ga)

  refine ⟨_, pss_cons (ps_if (pt_cmpR op_ne (pe_callB call_len_seq rfl M.ml PySem.boot_len (pa_cons (pv 1) pa_nil)) pe_int (nomark _)) (pss_one (ps_ret pe_int)) pss_nil)
    (pss_cons (ps_fldaug (pv 0) pe_int in_add) (pss_cons (ps_set (i := 3) scWhi.nd rfl (.inl rfl) (pe_goD (E := E) GA hr (passes_call (takes_of rfl rfl rfl rfl) fun _ _ _ _ z => z) rfl (pa_cons (pv 0) (pa_cons (pe_slice sl_tup (pv 1) (po_some pe_int) po_none) (pa_cons (pv 2) pa_nil))))) (pss_cons (ps_fldaug (pv 0) pe_int in_sub) (pss_one (ps_ret (pe_op op_add pe_int (pv 3))))))), ?_⟩
  dsimp only [L2.tRet, L2.tRetN, tAndV, tOrV, tNotV, tCB, L2.tCons, L2.tNil, tC, tVar, L2.tOp, L2.tUn, tSeq, tAsg, gName, tIfS, tTest, tNext, tAnd, tOr, tNot, L2.tIf, tFld, sFld, sFldAug, tCall, tTup, tB, tAug, tDrop, L2.tSl, tPart, tNoPart, tBM, tBM0, tChain, gTup, gCons, gNil, tPar, tIs, List.set]
  refine ⟨_, rfl, a, xs, rfl, .inr ha, rfl, _, rfl, ?_⟩
  rcases three im with ⟨x0, x1, x2, t0, t1, t2, rfl, rfl, i0, i1, i2⟩ | ⟨c, nt⟩
  · refine if_no rfl ?_
    have at1 := at0.set (S' := { S with loops := S.loops + 1 }) put_loops rfl rfl rfl rfl
    have sm1 := Ck.Same.up (o := .ins C F.dx (putF "loops" (.int (S.loops + 1)) (flds F S))) sm fr.c
    have ha1 := sqt (K := K) (sm1 _ _ ga)
    refine ⟨_, rfl, F.c, C, F.dx, _, _, rfl, at0.c, Z.cl, Z.n7, get_loops, _, _, rfl, rfl, _, _, at0.c, few F S, ?_⟩
    refine ⟨_, rfl, _, rfl, 1, rfl, a, _, rfl, ha1, (by show ¬ (HT.sIx 3 0 (some 1) = 0 ∧ HT.sIx 3 3 none = 3); decide), fun r nr => ?_⟩
    have nG := Ck.Same.non sm1 nr
    refine ⟨_, rfl, F, { S with loops := S.loops + 1 }, upd G r (.tup [x1, x2]), r, [x1, x2], [t1, t2], p, rfl, Ck.Same.both sm1, fr.new at1 nr, at1.new nr, ⟨ok.lo, ok.hi, ok.ok.cm, ok.ok.va⟩, lv, upd_same, (.cons i1 (.cons i2 .nil) : Ims K G [x1, x2] [t1, t2]).mono (Ck.Same.new (fun _ _ z => z) nG), ?_⟩
    have qq : Res C IP F G S.places (inc (behind (fun S' => { S' with loops := S'.loops - 1 }) (ins n { S with loops := S.loops + 1 } [t1, t2] p))) Q E := q
    refine res_to (G := G) (pl := S.places) (Q := Q) (keep_left nG) (fun e r => ?_) (fun i S' r H2 sm2 at2 ok2 pl => ?_)
    · rw [r] at qq
      exact qq
    · rw [r] at qq
      have at3 := at2.set (S' := { S' with loops := S'.loops - 1 }) put_loops rfl rfl rfl rfl
      refine ⟨_, rfl, F.c, C, F.dx, _, _, rfl, at2.c, Z.cl, Z.n7, get_loops, _, _, rfl, rfl, _, _, at2.c, few F S', ?_⟩
      refine ⟨_, rfl, _, _, rfl, rfl, ?_⟩
      exact qq _ (Ck.Same.up (keep_left nG _ sm2) fr.c) at3 ⟨ok2.lo, ok2.hi, ok2.cm, ok2.va⟩ pl
  · have e : act (ins n) .whl S ts p = .ok (0, S) := by
      rcases ts with _ | ⟨t0, _ | ⟨t1, _ | ⟨t2, _ | ⟨t3, r⟩⟩⟩⟩ <;> first | rfl | exact absurd rfl (nt _ _ _)
    rw [e] at q
    exact if_yes (len_not c) (res0 q sm at0 ok.ok)

abbrev sTim : Stmt := topS 39
theorem scTim : FnScope ["check", "tree", "place", "size"] ["check", "tree", "place"] (defScope sTim) := ⟨rfl, rfl, rfl, by decide +kernel, rfl, by decide +kernel, by decide +kernel⟩
theorem ok_Tim {n : Nat} {f : Addr} {fd : FuncData} (F0 : Fun K "size_of_times" "size_of_times" sTim f fd) (M : Md K mg w dR dS adr) (Z : Mc P K mg C IP fI) {j : Nat} (hj : 1 ≤ j) (GW : GW P w K mg base) (GA : GInto P w K mg base C IP n j) : FnD P w K mg base (L2.CX P w) (j + 1) f fd ["check", "tree", "place"] (spAct K C IP n .times) := by
  refine okXD F0 scTim (fun vs H Q E h => ?_) (fun cdv A outer s H vs Q E hr h => ?_)
  · obtain ⟨_, _, _, _, _, _, _, rfl, _⟩ := h
    rfl
  obtain ⟨F, S, G, a, xs, ts, p, rfl, sm, fr, at0, ok, lv, ga, im, q⟩ := h
  have hu := hu_of hr.low
  have ha := sqt (K := K) (sm _ _ ga)

  obtain ⟨tg, mr⟩ := M.mr
  refine ⟨_, pss_cons (ps_if (PW.pt (pw_or (pt_cmpR op_ne (pe_callB call_len_seq rfl M.ml PySem.boot_len (pa_cons (pv 1) pa_nil)) pe_int (nomark _)) (pw_or1 (pt_not (pt_val (pe_go GW (hr.low.mono (by decide)) pass0 rfl (pa_cons (pe_ix ix_tup (pv 1) pe_int fun _ _ => rfl) (pa_cons pe_int (pa_cons (pe_glob (v := .int 1000) rfl mr ⟨_, rfl⟩) pa_nil))))))))) (pss_one (ps_ret pe_int)) pss_nil)
    (pss_cons (ps_fldaug (pv 0) pe_int in_add) (pss_cons (ps_set (i := 3) scTim.nd rfl (.inl rfl) (pe_goD (E := E) GA hr (passes_call (takes_of rfl rfl rfl rfl) fun _ _ _ _ z => z) rfl (pa_cons (pv 0) (pa_cons (pe_slice sl_tup (pv 1) (po_some pe_int) po_none) (pa_cons (pv 2) pa_nil))))) (pss_cons (ps_fldaug (pv 0) pe_int in_sub) (pss_one (ps_ret (pe_op op_add pe_int (pe_op op_mul (pe_ix ix_tup (pv 1) pe_int fun _ _ => rfl) (pv 3)))))))), ?_⟩
  dsimp only [L2.tRet, L2.tRetN, tAndV, tOrV, tNotV, tCB, L2.tCons, L2.tNil, tC, tVar, L2.tOp, L2.tUn, tSeq, tAsg, gName, tIfS, tTest, tNext, tAnd, tOr, tNot, L2.tIf, tFld, sFld, sFldAug, tCall, tTup, tB, tAug, tDrop, L2.tSl, tPart, tNoPart, tBM, tBM0, tChain, gTup, gCons, gNil, tPar, tIs, List.set]
  refine ⟨_, rfl, a, xs, rfl, .inr ha, rfl, _, rfl, ?_⟩
  rcases three im with ⟨x0, x1, x2, t0, t1, t2, rfl, rfl, i0, i1, i2⟩ | ⟨c, nt⟩
  · refine if_no rfl ?_
    refine ⟨_, rfl, a, _, _, _, rfl, rfl, ha, rfl, x1, t1, 0, 1000, rfl, i1.mono sm, _, rfl, ?_⟩
    cases e : within 0 1000 t1 with
    | false =>
      have z : act (ins n) .times S [t0, t1, t2] p = .ok (0, S) := by
        cases t1 <;> first | rfl | (show (if within 0 1000 _ = true then _ else _) = _; rw [e]; rfl)
      rw [z] at q
      exact if_yes rfl (res0 q sm at0 ok.ok)
    | true =>
    cases i1 with
    | int k =>
    refine if_no rfl ?_
    have at1 := at0.set (S' := { S with loops := S.loops + 1 }) put_loops rfl rfl rfl rfl
    have sm1 := Ck.Same.up (o := .ins C F.dx (putF "loops" (.int (S.loops + 1)) (flds F S))) sm fr.c
    have ha1 := sqt (K := K) (sm1 _ _ ga)
    refine ⟨_, rfl, F.c, C, F.dx, _, _, rfl, at0.c, Z.cl, Z.n7, get_loops, _, _, rfl, rfl, _, _, at0.c, few F S, ?_⟩
    refine ⟨_, rfl, _, rfl, 2, rfl, a, _, rfl, ha1, (by show ¬ (HT.sIx 3 0 (some 2) = 0 ∧ HT.sIx 3 3 none = 3); decide), fun r nr => ?_⟩
    have nG := Ck.Same.non sm1 nr
    refine ⟨_, rfl, F, { S with loops := S.loops + 1 }, upd G r (.tup [x2]), r, [x2], [t2], p, rfl, Ck.Same.both sm1, fr.new at1 nr, at1.new nr, ⟨ok.lo, ok.hi, ok.ok.cm, ok.ok.va⟩, lv, upd_same, (.cons i2 .nil : Ims K G [x2] [t2]).mono (Ck.Same.new (fun _ _ z => z) nG), ?_⟩
    have e2 : act (ins n) .times S [t0, .int k, t2] p = timed k (behind (fun S' => { S' with loops := S'.loops - 1 }) (ins n { S with loops := S.loops + 1 } [t2] p)) := by
      show (if within 0 1000 (.int k) = true then _ else _) = _
      rw [e]
      rfl
    rw [e2] at q
    have kb : 0 ≤ k ∧ k ≤ 1000 := by
      unfold within at e
      rw [Bool.and_eq_true] at e
      exact ⟨of_decide_eq_true e.1, of_decide_eq_true e.2⟩
    refine res_to (G := G) (pl := S.places) (Q := Q) (keep_left nG) (fun e r => ?_) (fun i S' r H2 sm2 at2 ok2 pl => ?_)
    · rw [r] at q
      exact q
    · rw [r] at q
      have at3 := at2.set (S' := { S' with loops := S'.loops - 1 }) put_loops rfl rfl rfl rfl
      have sm3 := Ck.Same.up (o := .ins C F.dx (putF "loops" (.int (S'.loops - 1)) (flds F S'))) (keep_left nG _ sm2) fr.c
      refine ⟨_, rfl, F.c, C, F.dx, _, _, rfl, at2.c, Z.cl, Z.n7, get_loops, _, _, rfl, rfl, _, _, at2.c, few F S', ?_⟩
      refine ⟨_, rfl, a, _, _, _, rfl, rfl, sqt (K := K) (sm3 _ _ ga), rfl, _, rfl, _, _, rfl, rfl, (.inl ⟨by omega, by omega⟩), _, _, rfl, rfl, ?_⟩
      exact q _ sm3 at3 ⟨ok2.lo, ok2.hi, ok2.cm, ok2.va⟩ pl
    | _ => simp [within] at e
  · have e : act (ins n) .times S ts p = .ok (0, S) := by
      rcases ts with _ | ⟨t0, _ | ⟨t1, _ | ⟨t2, _ | ⟨t3, r⟩⟩⟩⟩ <;> first | rfl | exact absurd rfl (nt _ _ _) | (cases t1 <;> rfl)
    rw [e] at q
    exact if_yes (len_not c) (if_yes rfl (res0 q sm at0 ok.ok))

end
end Ck

/-! Trees side by side. -/
namespace Ck
open PySem PySem.Spec PyProof.Rows L2 PySem.ErrKw
section
variable {P : Program} {w : World} {K : PySem.W.Frag} {mg : Str → Option Value} {base : Heap} {dR dS : Addr} {adr : Kind → Addr} {C IP fI : Addr}
abbrev sAll : Stmt := topS 21
theorem scAll : FnScope ["check", "trees", "place", "size", "tree", "inside", "action"] ["check", "trees", "place"] (defScope sAll) := ⟨rfl, rfl, rfl, by decide +kernel, rfl, by decide +kernel, by decide +kernel⟩
theorem many_cons (f : CS → Int → T → R) (S : CS) (d : T) (ds : List T) (p i : Int) : many f S (d :: ds) p i = if S.trees = 3000 then .error [] else match f { S with trees := S.trees + 1 } p d with
      | .error e => .error e
      | .ok (j, S') => if j = 0 then .error (S'.places ++ [p]) else many f S' ds (p + 1) (i + j) := by
  rw [many]
  all_goals
    by_cases c : S.trees = 3000
    · rw [if_pos c, if_pos c]
    · rw [if_neg c, if_neg c]
      cases f { S with trees := S.trees + 1 } p d with
      | error e => rfl
      | ok v => rfl
theorem ims_at {G : Hp} : ∀ {xs : List V} {ts : List T} {i : Nat} {x : V}, Ims K G xs ts → xs[i]? = some x → ∃ t, ts.drop i = t :: ts.drop (i + 1) ∧ Im K G x t
  | _, _, _, _, .nil, e => by simp at e
  | _, _, 0, _, .cons h r, e => by
    simp at e
    subst e
    exact ⟨_, rfl, h⟩
  | _, _, i + 1, _, .cons h r, e => by
    obtain ⟨t, a, b⟩ := ims_at (i := i) r (by simpa using e)
    exact ⟨t, by simpa using a, b⟩
theorem tup_of {H : Hp} {v : V} {t : T} (h : Im K H v t) (e : isTu t = true) : ∃ b ys ds, v = .ref b ∧ t = .tup ds ∧ H b = some (.tup ys) ∧ Ims K H ys ds := by
  cases h with
  | tup a r => exact ⟨_, _, _, rfl, rfl, a, r⟩
  | _ => simp [isTu] at e
/-- what is known between two trees -/
def Pv (C IP : Addr) (F : Foot) (G : Hp) (pl : List Int) (n : Nat) (a : Addr) (ts : List T) (p : Int) (Q : VK) (E : XK) : Nat → L2.St → Hp → Prop := fun i σ H => ∃ S acc v4 v5 v6, σ = [some (V.ref F.c), some (V.ref a), some (V.int (p + i)), some (V.int acc), v4, v5, v6] ∧ Same G H ∧ At C H F S ∧ Ok S ∧ S.places = pl ∧
  Res C IP F G pl (many (one (ins n)) S (ts.drop i) (p + i) acc) Q E
/-- the rest of a turn, when the inner size is known -/
def tTail (K : PySem.W.Frag) (IP : Addr) (E : XK) : TS := tSeq (tIfS (tTest (L2.tOp rEq (tVar 5) (tC (.int 0)))) (fun _ σ H => tTup (StX.tStar K (tFld K (tVar 0) "places") (L2.tCons (tVar 2) L2.tNil)) σ H fun v H1 => ∀ d, H1 d = none → E (.ref IP) (some d) (upd H1 d (.xd [("path", v)]))) tNext)
  (tSeq (tAug 3 (tVar 5) (ipI fun i j => i + j)) (tAug 2 (tC (.int 1)) (ipI fun i j => i + j)))
theorem tail_ok {F : Foot} {G H : Hp} {S : CS} {pl : List Int} {n i : Nat} {a : Addr} {ts : List T} {p acc k : Int} {Q : VK} {E : XK} {D : Ends} {v4 v6 : Option V} (Z : Mc P K mg C IP fI) (few59 : pl.length ≤ 59) (nx : D.nx = Pv C IP F G pl n a ts p Q E (i + 1)) (sm : Same G H) (at0 : At C H F S) (ok : Ok S) (e : S.places = pl)
    (q : Res C IP F G pl (if k = 0 then .error (S.places ++ [p + i]) else many (one (ins n)) S (ts.drop (i + 1)) (p + i + 1) (acc + k)) Q E) : tTail K IP E D [some (V.ref F.c), some (V.ref a), some (V.int (p + i)), some (V.int acc), v4, some (V.int k), v6] H := by
  unfold tTail
  dsimp only [L2.tRet, L2.tRetN, tAndV, tOrV, tNotV, tCB, L2.tCons, L2.tNil, tC, tVar, L2.tOp, L2.tUn, tSeq, tAsg, gName, tIfS, tTest, tNext, tAnd, tOr, tNot, L2.tIf, tFld, sFld, sFldAug, tCall, tTup, tB, tAug, tDrop, L2.tSl, tPart, tNoPart, tBM, tBM0, tChain, gTup, gCons, gNil, tPar, tIs, List.set, StX.tStar]
  refine ⟨_, rfl, rfl, _, rfl, ?_⟩
  by_cases c : k = 0
  · rw [if_pos c] at q
    refine if_yes (decide_eq_true (by rw [c])) ?_
    have sq : SqL K H F.dp (S.places.map V.int) := .inl (.inl at0.dp)
    refine ⟨_, rfl, F.c, C, F.dx, _, _, rfl, at0.c, Z.cl, Z.n6, get_places, F.dp, _, rfl, .inr sq, _, rfl, (by simp [sizeLine_eq, e]; omega), fun r nr d nd => ?_⟩
    refine q _ d r (Ck.Same.new (Ck.Same.new sm nr) nd) upd_same ?_
    rw [upd_ne (ne_of_none upd_same nd), upd_same, List.map_append]
    rfl
  · rw [if_neg c] at q
    refine if_no (decide_eq_false fun z => c (V.int.inj z)) ?_
    refine ⟨_, rfl, _, rfl, _, _, rfl, rfl, _, rfl, _, _, rfl, rfl, ?_⟩
    rw [nx]
    refine ⟨S, acc + k, v4, some (V.int k), v6, ?_, sm, at0, ok, e, ?_⟩
    · show [some (V.ref F.c), some (V.ref a), some (V.int (p + i + 1)), some (V.int (acc + k)), v4, some (V.int k), v6] = _
      have z : p + (i : Int) + 1 = p + ((i + 1 : Nat) : Int) := by omega
      rw [z]
    · have z : p + ((i + 1 : Nat) : Int) = p + (i : Int) + 1 := by omega
      rw [z]
      exact q
theorem ok_all {n j : Nat} {f : Addr} {fd : FuncData} (F0 : Fun K "size_of_all" "size_of_all" sAll f fd) (M : Md K mg w dR dS adr) (Z : Mc P K mg C IP fI) (hj : 1 ≤ j) (A0 : ∀ k, CallD P w K mg base (L2.CX P w) j (adr k) (spAct K C IP n k)) : FnD P w K mg base (L2.CX P w) (j + 1) f fd ["check", "trees", "place"] (spAll K C IP n) := by
  obtain ⟨tt, mt⟩ := M.mt
  obtain ⟨es, en, hD⟩ := M.kS
  refine okXD F0 scAll (fun vs H Q E h => ?_) (fun cdv A outer s H vs Q E hr h => ?_)
  · obtain ⟨_, _, _, _, _, _, _, rfl, _⟩ := h
    rfl
  obtain ⟨F, S, G, a, xs, ts, p, rfl, sm, fr, at0, ok, lv, ga, im, q⟩ := h
  have hu := hu_of hr.low
  have hr1 := hr.low.mono (j := 1) (by decide)
  refine ⟨_, pss_cons (ps_set (i := 3) scAll.nd rfl (.inl rfl) pe_int)
    (pss_cons (ps_for (passes_of rfl) rfl (pi_tup (pv 1)) (pg_name (i := 4) scAll.nd rfl (.inl rfl))
      (pss_cons (ps_if (pt_cmpR op_eq (pe_fld (pv 0) rfl) (pe_glob (v := .int 3000) rfl mt ⟨_, rfl⟩) (nomark _)) (pss_one (ps_raiseE rfl Z.er given_path hr1 (takes_of rfl rfl rfl rfl) (pe_tup pa_nil))) pss_nil)
      (pss_cons (ps_fldaug (pv 0) pe_int in_add)
      (pss_cons (ps_set (i := 5) scAll.nd rfl (.inl rfl) pe_int)
      (pss_cons (ps_if (PW.pt (pw_and (pt_val (pe_is (n := "tuple") M.mi M.mtup (by decide +kernel) rfl rfl (pv 4))) (pw_and (pt_truth (pv 4) (by intro _; rfl)) (pw_and (pt_val (pe_is (n := "str") M.mi M.mstr (by decide +kernel) rfl rfl (pe_ix ix_tup (pv 4) pe_int fun _ _ => rfl)))
          (pw_and1 (pt_cmpR (op_in_kd hD) (pe_ix ix_tup (pv 4) pe_int fun _ _ => rfl) (pe_glob (v := .ref dS) rfl M.gS rfl) (by rfl)))))))
        (pss_cons (ps_set (i := 6) scAll.nd rfl (.inl rfl) (pe_ix ix_kdict (pe_glob (v := .ref dS) rfl M.gS rfl) (pe_ix ix_tup (pv 4) pe_int fun _ _ => rfl) fun _ _ => rfl))
        (pss_one (ps_set (i := 5) scAll.nd rfl (.inl rfl) (pe_callTD (i := 6) (E := E) A0 hr rfl (.inl rfl) (passes_call (takes_of rfl rfl rfl rfl) fun _ _ _ _ z => z) (pa_cons (pv 0) (pa_cons (pv 4) (pa_cons (pv 2) pa_nil))))))) pss_nil)
      (pss_cons (ps_if (pt_cmpR op_eq (pv 5) pe_int (nomark _)) (pss_one (ps_raiseE rfl Z.er given_path hr1 (takes_of rfl rfl rfl rfl) (pe_tup (StX.pa_star (pe_fld (pv 0) rfl) (pa_cons (pv 2) pa_nil))))) pss_nil)
      (pss_cons (ps_aug (i := 3) scAll.nd rfl (.inl rfl) (pv 5) ip_add) (pss_one (ps_aug (i := 2) scAll.nd rfl (.inl rfl) pe_int ip_add)))))))))
    (pss_one (ps_ret (pv 3)))), ?_⟩
  dsimp only [L2.tRet, L2.tRetN, tAndV, tOrV, tNotV, tCB, L2.tCons, L2.tNil, tC, tVar, L2.tOp, L2.tUn, tSeq, tAsg, gName, tIfS, tTest, tNext, tAnd, tOr, tNot, L2.tIf, tFld, sFld, sFldAug, tCall, tTup, tB, tAug, tDrop, L2.tSl, tPart, tNoPart, tBM, tBM0, tChain, gTup, gCons, gNil, tPar, tIs, List.set, iTup, tCallT, StX.tStar]
  rw [all_eq] at q
  refine ⟨_, rfl, a, rfl, ⟨_, sqt (K := K) (sm _ _ ga)⟩, for_tup (K := K) (a := a) (xs := xs) (Pv C IP F G S.places n a ts p Q E) ?h0 ?hl ?hs ?hd⟩
  case h0 =>
    refine ⟨S, 0, none, none, none, by simp [L2.start], sm, at0, ok, rfl, ?_⟩
    show Res C IP F G S.places (many (one (ins n)) S (ts.drop 0) (p + (0 : Nat)) 0) Q E
    simpa using q
  case hl =>
    rintro i σ H' _ ⟨_, _, _, _, _, _, sm1, _⟩
    exact sqt (K := K) (sm1 _ _ ga)
  case hd =>
    rintro σ H' ⟨S1, acc, v4, v5, v6, rfl, sm1, at1, ok1, pl, q1⟩
    refine ⟨_, rfl, ?_⟩
    have e : ts.drop xs.length = [] := by rw [im.len, List.drop_length]
    rw [e] at q1
    exact q1 H' sm1 at1 ok1 pl
  case hs =>
    rintro i x σ H1 hx ⟨S1, acc, v4, v5, v6, rfl, sm1, at1, ok1, pl, q1⟩
    obtain ⟨t, et, it⟩ := ims_at im hx
    rw [et, many_cons] at q1
    refine ⟨_, rfl, F.c, C, F.dx, _, _, rfl, at1.c, Z.cl, Z.n1, get_trees, rfl, _, rfl, ?_⟩
    by_cases tr : S1.trees = 3000
    · rw [if_pos tr] at q1
      refine if_yes (decide_eq_true (by rw [tr])) ⟨by decide, fun r nr d nd => ?_⟩
      refine q1 _ d r (Ck.Same.new (Ck.Same.new sm1 nr) nd) upd_same ?_
      rw [upd_ne (ne_of_none upd_same nd), upd_same]
      rfl
    rw [if_neg tr] at q1
    refine if_no (decide_eq_false fun z => tr (V.int.inj z)) ?_
    have at2 := at1.set (S' := { S1 with trees := S1.trees + 1 }) put_trees rfl rfl rfl rfl
    have sm2 := Ck.Same.up (o := .ins C F.dx (putF "trees" (.int (S1.trees + 1)) (flds F S1))) sm1 fr.c
    have ok2 : Ok1 { S1 with trees := S1.trees + 1 } := ⟨by have := ok1.lo; show 0 ≤ S1.trees + 1; omega, by have := ok1.hi; show S1.trees + 1 ≤ 3000; omega, by have := ok1.cm; show (S1.cmds.length : Int) + 1 ≤ S1.trees + 1; omega, by have := ok1.va; show (S1.vars.length : Int) + 1 ≤ S1.trees + 1; omega⟩
    refine ⟨_, rfl, F.c, C, F.dx, _, _, rfl, at1.c, Z.cl, Z.n1, get_trees, _, _, rfl, rfl, _, _, at1.c, few F S1, ?_⟩
    have len59 : S.places.length ≤ 59 := by omega
    -- no inner size: nothing that the table knows
    have none0 : one (ins n) { S1 with trees := S1.trees + 1 } (p + i) t = .ok (0, { S1 with trees := S1.trees + 1 }) → tTail K IP E { nx := Pv C IP F G S.places n a ts p Q E (i + 1), rt := Q, bk := fun σ H' => tRet (tVar 3) { nx := fun _ H' => Q .non H', rt := Q } σ H', ct := Pv C IP F G S.places n a ts p Q E (i + 1) }
        [some (V.ref F.c), some (V.ref a), some (V.int (p + i)), some (V.int acc), some x, some (V.int 0), v6] (upd H1 F.c (.ins C F.dx (putF "trees" (.int (S1.trees + 1)) (flds F S1)))) := fun e0 => by
      rw [e0] at q1
      exact tail_ok Z len59 rfl sm2 at2 ok2.ok pl q1
    have i2 := it.mono sm2
    dsimp only [L2.tRet, L2.tRetN, tAndV, tOrV, tNotV, tCB, L2.tCons, L2.tNil, tC, tVar, L2.tOp, L2.tUn, tSeq, tAsg, gName, tIfS, tTest, tNext, tAnd, tOr, tNot, L2.tIf, tFld, sFld, sFldAug, tCall, tTup, tB, tAug, tDrop, L2.tSl, tPart, tNoPart, tBM, tBM0, tChain, gTup, gCons, gNil, tPar, tIs, List.set, tCallT, StX.tStar]
    refine ⟨_, rfl, is_tup i2 ⟨_, rfl, ?_⟩⟩
    cases c1 : isTu t with
    | false => exact if_no rfl (if_no rfl (none0 (by cases t <;> first | rfl | simp [isTu] at c1)))
    | true =>
    obtain ⟨b, ys, ds, rfl, rfl, hb, ip⟩ := tup_of it c1
    have hb2 := sqt (K := K) (sm2 _ _ hb)
    refine if_yes rfl ⟨_, rfl, _, .inr (.inl ⟨ys, hb2, rfl⟩), ?_⟩
    cases ip with
    | nil => exact if_no rfl (if_no rfl (none0 rfl))
    | @cons y0 ys d0 ds0 iy ir =>
    refine if_yes rfl ⟨_, rfl, b, _, _, _, rfl, rfl, hb2, atI_nat (j := 0) rfl, is_str (iy.mono sm2) ⟨_, rfl, ?_⟩⟩
    cases c2 : isSt d0 with
    | false => exact if_no rfl (if_no rfl (none0 (by cases d0 <;> first | rfl | simp [isSt] at c2)))
    | true =>
    obtain ⟨z, rfl, rfl⟩ := str_of iy c2
    refine if_yes rfl ⟨_, rfl, b, _, _, _, rfl, rfl, hb2, atI_nat (j := 0) rfl, z, _, rfl, rfl, M.inS z, _, rfl, ?_⟩
    cases kz : kindOf z with
    | none => exact if_no rfl (none0 (by show (match kindOf z with | some k => _ | none => _) = _; rw [kz]))
    | some k =>
    have e1 : one (ins n) { S1 with trees := S1.trees + 1 } (p + i) (.tup (.str z :: ds0)) = act (ins n) k { S1 with trees := S1.trees + 1 } (.str z :: ds0) (p + i) := by
      show (match kindOf z with | some k => _ | none => _) = _
      rw [kz]
    rw [e1] at q1
    refine if_yes rfl ?_
    have kd : KDct K w dS z (.ref (adr k)) := ⟨es, en, .ref (adr k), hD.at_, hD.lit, by rw [M.inS z, kz]; rfl, rfl⟩
    refine ⟨_, rfl, b, _, _, _, rfl, rfl, hb2, atI_nat (j := 0) rfl, dS, z, _, rfl, rfl, kd, k, rfl, _, rfl, _, rfl, _, rfl, F, { S1 with trees := S1.trees + 1 }, G, b, _, _, p + i, rfl, sm2, fr, at2, ok2, (by show S1.places.length + n = 59; rw [pl]; exact lv), hb, .cons iy ir, ?_⟩
    refine res_to (G := G) (pl := S.places) (Q := Q) (fun _ z => z) (fun e r => ?_) (fun m S' r H2 sm3 at3 ok3 pl3 => ?_)
    · rw [r] at q1
      exact q1
    · rw [r] at q1
      exact tail_ok (D := { nx := Pv C IP F G S.places n a ts p Q E (i + 1), rt := Q, bk := fun σ H' => tRet (tVar 3) { nx := fun _ H' => Q .non H', rt := Q } σ H', ct := Pv C IP F G S.places n a ts p Q E (i + 1) }) Z len59 rfl sm3 at3 ok3 (pl3.trans pl) q1

end
end Ck

/-! A program checked. -/
namespace Ck
open PySem PySem.Spec PyProof.Rows L2 PySem.ErrKw
section
variable {P : Program} {w : World} {K : PySem.W.Frag} {mg : Str → Option Value} {base : Heap} {dR dS : Addr} {adr : Kind → Addr} {C IP fI : Addr}
abbrev sInit : Stmt := inClass (topS 17) 0
abbrev sOutline : Stmt := topS 19
abbrev sEntry : Stmt := topS 20
abbrev sChecked : Stmt := topS 18
theorem scInit : FnScope ["self"] ["self"] (defScope sInit) := ⟨rfl, rfl, rfl, by decide +kernel, rfl, by decide +kernel, by decide +kernel⟩
theorem scOutline : FnScope ["program"] ["program"] (defScope sOutline) := ⟨rfl, rfl, rfl, by decide +kernel, rfl, by decide +kernel, by decide +kernel⟩
theorem scEntry : FnScope ["entry", "functions"] ["entry", "functions"] (defScope sEntry) := ⟨rfl, rfl, rfl, by decide +kernel, rfl, by decide +kernel, by decide +kernel⟩
theorem scChecked : FnScope ["program", "functions", "main", "check", "number", "entry", "name", "body"] ["program"] (defScope sChecked) := ⟨rfl, rfl, rfl, by decide +kernel, rfl, by decide +kernel, by decide +kernel⟩
def start0 : CS := ⟨0, [], [], 0, [], [], 0, false⟩
def spInit (C : Addr) : Sp := fun vs H Q _ => ∃ p dx, vs = [.ref p] ∧ H p = some (.ins C dx []) ∧ ∀ F H', Foot.c F = p → (∀ b o, H b = some o → b ≠ p → H' b = some o) → (∀ b o, H b = some o → b ≠ p → F.dc ≠ b ∧ F.dv ≠ b ∧ F.df ≠ b ∧ F.dp ≠ b) → At C H' F start0 → Q .non H'
theorem ok_init {f : Addr} {fd : FuncData} (F0 : Fun K "__init__" "Check.__init__" sInit f fd) (Z : Mc P K mg C IP fI) : FnOk P w K mg base CX0 1 f fd ["self"] (spInit C) := by
  refine F0.ok scInit (fun vs H Q E h => ?_) (fun cdv A outer s H vs Q E hr h => ?_)
  · obtain ⟨p, dx, rfl, _⟩ := h
    rfl
  obtain ⟨p, dx, rfl, hp, q⟩ := h
  refine ⟨_, pss_cons (ps_fld (pv 0) pe_int rfl) (pss_cons (ps_fld (pv 0) pe_dnewK rfl) (pss_cons (ps_fld (pv 0) pe_dnewK rfl) (pss_cons (ps_fld (pv 0) pe_int rfl) (pss_cons (ps_fld (pv 0) pe_dnewK rfl) (pss_cons (ps_fld (pv 0) (pe_lst pa_nil) rfl)
    (pss_cons (ps_fld (pv 0) pe_int rfl) (pss_one (ps_fld (pv 0) pe_bl rfl)))))))), ?_⟩
  dsimp only [L2.tRet, L2.tRetN, tAndV, tOrV, tNotV, tCB, L2.tCons, L2.tNil, tC, tVar, L2.tOp, L2.tUn, tSeq, tAsg, gName, tIfS, tTest, tNext, tAnd, tOr, tNot, L2.tIf, tFld, sFld, sFldAug, tCall, tTup, tB, tAug, tDrop, L2.tSl, tPart, tNoPart, tBM, tBM0, tChain, gTup, gCons, gNil, tPar, tIs, List.set, tDNewK, tLst]
  refine ⟨_, rfl, p, C, dx, [], rfl, hp, Z.cl, Z.n1, (by decide), fun d1 n1 => ?_⟩
  have e1 : ∀ {b : Addr}, (upd H p (.ins C dx (putF "trees" (.int 0) []))) b = none → b ≠ p := fun {b} n z => by rw [z, upd_same] at n; cases n
  have p1 := e1 n1
  refine ⟨_, rfl, p, C, dx, _, rfl, (by rw [upd_ne (Ne.symm p1), upd_same]), Z.cl, Z.n2, Nat.lt_of_sub_eq_succ rfl, fun d2 n2 => ?_⟩
  have p2 : d2 ≠ p := fun z => by rw [z, upd_same] at n2; cases n2
  have d21 : d2 ≠ d1 := fun z => by rw [z, upd_ne p1, upd_same] at n2; cases n2
  refine ⟨_, rfl, p, C, dx, _, rfl, (by rw [upd_ne (Ne.symm p2), upd_same]), Z.cl, Z.n3, Nat.lt_of_sub_eq_succ rfl, ?_⟩
  refine ⟨_, rfl, p, C, dx, _, rfl, upd_same, Z.cl, Z.n4, Nat.lt_of_sub_eq_succ rfl, fun d3 n3 => ?_⟩
  have p3 : d3 ≠ p := fun z => by rw [z, upd_same] at n3; cases n3
  have d32 : d3 ≠ d2 := fun z => by rw [z, upd_ne p2, upd_ne p2, upd_same] at n3; cases n3
  have d31 : d3 ≠ d1 := fun z => by rw [z, upd_ne p1, upd_ne p1, upd_ne (Ne.symm d21), upd_ne p1, upd_same] at n3; cases n3
  refine ⟨_, rfl, p, C, dx, _, rfl, (by rw [upd_ne (Ne.symm p3), upd_same]), Z.cl, Z.n5, Nat.lt_of_sub_eq_succ rfl, (by decide), fun d4 n4 => ?_⟩
  have p4 : d4 ≠ p := fun z => by rw [z, upd_same] at n4; cases n4
  have d43 : d4 ≠ d3 := fun z => by rw [z, upd_ne p3, upd_same] at n4; cases n4
  have d42 : d4 ≠ d2 := fun z => by rw [z, upd_ne p2, upd_ne (Ne.symm d32), upd_ne p2, upd_ne p2, upd_same] at n4; cases n4
  have d41 : d4 ≠ d1 := fun z => by rw [z, upd_ne p1, upd_ne (Ne.symm d31), upd_ne p1, upd_ne p1, upd_ne (Ne.symm d21), upd_ne p1, upd_same] at n4; cases n4
  refine ⟨_, rfl, p, C, dx, _, rfl, (by rw [upd_ne (Ne.symm p4), upd_same]), Z.cl, Z.n6, Nat.lt_of_sub_eq_succ rfl, ?_⟩
  refine ⟨_, rfl, p, C, dx, _, rfl, upd_same, Z.cl, Z.n7, Nat.lt_of_sub_eq_succ rfl, ?_⟩
  refine ⟨_, rfl, p, C, dx, _, rfl, upd_same, Z.cl, Z.n8, Nat.lt_of_sub_eq_succ rfl, ?_⟩
  have old : ∀ b o, H b = some o → b ≠ p → d1 ≠ b ∧ d2 ≠ b ∧ d3 ≠ b ∧ d4 ≠ b := fun b o hb nb => by
    have h1 : (upd H p (.ins C dx (putF "trees" (.int 0) []))) b = some o := by rw [upd_ne nb]; exact hb
    have b1 : d1 ≠ b := Ne.symm (ne_of_none h1 n1)
    have b2 : d2 ≠ b := fun z => by
      subst z
      rw [upd_ne nb, upd_ne (Ne.symm b1), h1] at n2
      cases n2
    have b3 : d3 ≠ b := fun z => by
      subst z
      rw [upd_ne nb, upd_ne nb, upd_ne (Ne.symm b2), upd_ne nb, upd_ne (Ne.symm b1), h1] at n3
      cases n3
    have b4 : d4 ≠ b := fun z => by
      subst z
      rw [upd_ne nb, upd_ne (Ne.symm b3), upd_ne nb, upd_ne nb, upd_ne (Ne.symm b2), upd_ne nb, upd_ne (Ne.symm b1), h1] at n4
      cases n4
    exact ⟨b1, b2, b3, b4⟩
  refine q ⟨p, dx, d1, d2, d3, d4⟩ _ rfl (fun b o hb nb => ?_) old ⟨?_, ?_, ?_, ?_, ?_, Ne.symm d21, Ne.symm d31, Ne.symm d32⟩
  · obtain ⟨b1, b2, b3, b4⟩ := old b o hb nb
    rw [upd_ne nb, upd_ne nb, upd_ne nb, upd_ne (Ne.symm b4), upd_ne nb, upd_ne (Ne.symm b3), upd_ne nb, upd_ne nb, upd_ne (Ne.symm b2), upd_ne nb, upd_ne (Ne.symm b1), upd_ne nb]
    exact hb
  · refine Eq.trans upd_same (congrArg (fun l => some (HO.ins C dx l)) ?_)
    with_unfolding_all rfl
  · show upd _ _ _ d1 = _
    rw [upd_ne p1, upd_ne p1, upd_ne p1, upd_ne (Ne.symm d41), upd_ne p1, upd_ne (Ne.symm d31), upd_ne p1, upd_ne p1, upd_ne (Ne.symm d21), upd_ne p1, upd_same]
    rfl
  · show upd _ _ _ d2 = _
    rw [upd_ne p2, upd_ne p2, upd_ne p2, upd_ne (Ne.symm d42), upd_ne p2, upd_ne (Ne.symm d32), upd_ne p2, upd_ne p2, upd_same]
    rfl
  · show upd _ _ _ d3 = _
    rw [upd_ne p3, upd_ne p3, upd_ne p3, upd_ne (Ne.symm d43), upd_ne p3, upd_same]
    rfl
  · show upd _ _ _ d4 = _
    rw [upd_ne p4, upd_ne p4, upd_ne p4, upd_same]
    rfl
def isOutline : T → Bool
  | .tup [.tup fs, _] => decide (fs.length ≤ 20)
  | _ => false
def spOutline (K : PySem.W.Frag) : Sp := fun vs H Q _ => ∃ v t, vs = [v] ∧ Im K H v t ∧ Q (.bl (isOutline t)) H
theorem ok_outline {f : Addr} {fd : FuncData} (F0 : Fun K "is_outline" "is_outline" sOutline f fd) (M : Md K mg w dR dS adr) : FnOk P w K mg base CX0 1 f fd ["program"] (spOutline K) := by
  obtain ⟨tf, mf⟩ := M.mf
  refine F0.ok scOutline (fun vs H Q E h => ?_) (fun cdv A outer s H vs Q E hr h => ?_)
  · obtain ⟨_, _, rfl, _⟩ := h
    rfl
  obtain ⟨v, t, rfl, im, q⟩ := h
  refine ⟨_, pss_cons (ps_if (PW.pt (pw_or (pt_not (pt_val (pe_is (n := "tuple") M.mi M.mtup (by decide +kernel) rfl rfl (pv 0)))) (pw_or1 (pt_cmpR op_ne (pe_callB call_len_seq rfl M.ml PySem.boot_len (pa_cons (pv 0) pa_nil)) pe_int (nomark _))))) (pss_one (ps_ret pe_bl)) pss_nil)
    (pss_one (ps_ret (pe_and (pe_is (n := "tuple") M.mi M.mtup (by decide +kernel) rfl rfl (pe_ix ix_tup (pv 0) pe_int fun _ _ => rfl)) (pe_one (pe_cmpR op_le (pe_callB call_len_seq rfl M.ml PySem.boot_len (pa_cons (pe_ix ix_tup (pv 0) pe_int fun _ _ => rfl) pa_nil)) (pe_glob (v := .int 20) rfl mf ⟨_, rfl⟩) (nomark _)))))), ?_⟩
  dsimp only [L2.tRet, L2.tRetN, tAndV, tOrV, tNotV, tCB, L2.tCons, L2.tNil, tC, tVar, L2.tOp, L2.tUn, tSeq, tAsg, gName, tIfS, tTest, tNext, tAnd, tOr, tNot, L2.tIf, tFld, sFld, sFldAug, tCall, tTup, tB, tAug, tDrop, L2.tSl, tPart, tNoPart, tBM, tBM0, tChain, gTup, gCons, gNil, tPar, tIs, List.set]
  refine ⟨_, rfl, is_tup im ⟨_, rfl, ?_⟩⟩
  cases c1 : isTu t with
  | false =>
    have z : isOutline t = false := by cases t <;> first | rfl | simp [isTu] at c1
    rw [z] at q
    exact if_yes rfl q
  | true =>
  obtain ⟨a, xs, ts, rfl, rfl, ha, im⟩ := tup_of im c1
  refine if_no rfl ⟨_, rfl, a, xs, rfl, .inr (sqt ha), rfl, _, rfl, ?_⟩
  rcases two im with ⟨x0, x1, t0, t1, rfl, rfl, i0, i1⟩ | ⟨c, nt⟩
  · refine if_no rfl ⟨_, rfl, a, _, _, _, rfl, rfl, sqt ha, atI_nat (j := 0) rfl, is_tup i0 ⟨_, rfl, ?_⟩⟩
    cases c2 : isTu t0 with
    | false =>
      have z : isOutline (.tup [t0, t1]) = false := by cases t0 <;> first | rfl | simp [isTu] at c2
      rw [z] at q
      exact if_no rfl q
    | true =>
    obtain ⟨b, ys, fs, rfl, rfl, hb, ip⟩ := tup_of i0 c2
    refine if_yes rfl ⟨_, rfl, a, _, _, _, rfl, rfl, sqt ha, atI_nat (j := 0) rfl, b, ys, rfl, .inr (sqt hb), _, _, rfl, rfl, ?_⟩
    have z : isOutline (.tup [.tup fs, t1]) = decide ((ys.length : Int) ≤ 20) := by
      show decide (fs.length ≤ 20) = _
      rw [ip.len]
      exact decide_eq_decide.mpr (by omega)
    rw [z] at q
    exact q
  · have z : isOutline (.tup ts) = false := by
      rcases ts with _ | ⟨t0, _ | ⟨t1, _ | ⟨t2, r⟩⟩⟩ <;> first | rfl | exact absurd rfl (nt _ _) | (cases t0 <;> rfl)
    rw [z] at q
    exact if_yes (len_not c) q
def isEntry (fs : List (Str × Int)) : T → Bool
  | .tup [.str z, _] => nameOk z && (fs.lookup z).isNone
  | _ => false
def spEntry (K : PySem.W.Frag) : Sp := fun vs H Q _ => ∃ v t d fs, vs = [v, .ref d] ∧ Im K H v t ∧ H d = some (.dK (ftab fs)) ∧ Q (.bl (isEntry fs t)) H
theorem ok_entry {f : Addr} {fd : FuncData} (F0 : Fun K "is_entry" "is_entry" sEntry f fd) (M : Md K mg w dR dS adr) (GN : GN P w K mg base) : FnOk P w K mg base CX0 2 f fd ["entry", "functions"] (spEntry K) := by
  refine F0.ok scEntry (fun vs H Q E h => ?_) (fun cdv A outer s H vs Q E hr h => ?_)
  · obtain ⟨_, _, _, _, rfl, _⟩ := h
    rfl
  obtain ⟨v, t, d, fs, rfl, im, hd, q⟩ := h
  have hu := hu_of hr
  refine ⟨_, pss_cons (ps_if (PW.pt (pw_or (pt_not (pt_val (pe_is (n := "tuple") M.mi M.mtup (by decide +kernel) rfl rfl (pv 0)))) (pw_or1 (pt_cmpR op_ne (pe_callB call_len_seq rfl M.ml PySem.boot_len (pa_cons (pv 0) pa_nil)) pe_int (nomark _))))) (pss_one (ps_ret pe_bl)) pss_nil)
    (pss_one (ps_ret (pe_and (pe_go GN hr pass0 rfl (pa_cons (pe_ix ix_tup (pv 0) pe_int fun _ _ => rfl) pa_nil)) (pe_one (pe_cmp (pc_dnotin hu (pe_ix ix_tup (pv 0) pe_int fun _ _ => rfl) (pv 1)) (by rfl)))))), ?_⟩
  dsimp only [L2.tRet, L2.tRetN, tAndV, tOrV, tNotV, tCB, L2.tCons, L2.tNil, tC, tVar, L2.tOp, L2.tUn, tSeq, tAsg, gName, tIfS, tTest, tNext, tAnd, tOr, tNot, L2.tIf, tFld, sFld, sFldAug, tCall, tTup, tB, tAug, tDrop, L2.tSl, tPart, tNoPart, tBM, tBM0, tChain, gTup, gCons, gNil, tPar, tIs, List.set, tDNotIn]
  refine ⟨_, rfl, is_tup im ⟨_, rfl, ?_⟩⟩
  cases c1 : isTu t with
  | false =>
    have z : isEntry fs t = false := by cases t <;> first | rfl | simp [isTu] at c1
    rw [z] at q
    exact if_yes rfl q
  | true =>
  obtain ⟨a, xs, ts, rfl, rfl, ha, im⟩ := tup_of im c1
  refine if_no rfl ⟨_, rfl, a, xs, rfl, .inr (sqt ha), rfl, _, rfl, ?_⟩
  rcases two im with ⟨x0, x1, t0, t1, rfl, rfl, i0, i1⟩ | ⟨c, nt⟩
  · refine if_no rfl ⟨_, rfl, a, _, _, _, rfl, rfl, sqt ha, atI_nat (j := 0) rfl, x0, t0, rfl, i0, _, rfl, ?_⟩
    cases c2 : isSt t0 with
    | false =>
      have z : isEntry fs (.tup [t0, t1]) = false := by cases t0 <;> first | rfl | simp [isSt] at c2
      have y : isName t0 = false := by cases t0 <;> first | rfl | simp [isSt] at c2
      rw [z] at q
      rw [y]
      exact if_no rfl q
    | true =>
    obtain ⟨z, rfl, rfl⟩ := str_of i0 c2
    have qq : Q (.bl (nameOk z && (fs.lookup z).isNone)) H := q
    show if nameOk z = true then _ else _
    cases m : nameOk z with
    | false =>
      rw [m, Bool.false_and] at qq
      exact if_no rfl qq
    | true =>
      rw [m, Bool.true_and] at qq
      have g : DGet H d (.str z) (valV (ftab fs) (.inr z)) := DGet.k (k := Sum.inr z) hd
      refine if_yes rfl ⟨_, rfl, a, _, _, _, rfl, rfl, sqt ha, atI_nat (j := 0) rfl, _, rfl, d, _, rfl, g, ?_⟩
      rw [valV_ftab]
      have y : (!((fs.lookup z).map V.int).isSome) = (fs.lookup z).isNone := by cases fs.lookup z <;> rfl
      rw [y]
      exact qq
  · have z : isEntry fs (.tup ts) = false := by
      rcases ts with _ | ⟨t0, _ | ⟨t1, _ | ⟨t2, r⟩⟩⟩ <;> first | rfl | exact absurd rfl (nt _ _) | (cases t0 <;> rfl)
    rw [z] at q
    exact if_yes (len_not c) q
end
end Ck

/-! What the check leaves as it was. -/
namespace Ck
open PySem L2
theorem inc_ok {r : R} {i : Int} {S : CS} (h : inc r = .ok (i, S)) : ∃ j, r = .ok (j, S) := by
  cases r with
  | error e => cases h
  | ok v =>
    obtain ⟨j, S'⟩ := v
    cases h
    exact ⟨_, rfl⟩
theorem timed_ok {r : R} {n i : Int} {S : CS} (h : timed n r = .ok (i, S)) : ∃ j, r = .ok (j, S) := by
  cases r with
  | error e => cases h
  | ok v =>
    obtain ⟨j, S'⟩ := v
    cases h
    exact ⟨_, rfl⟩
theorem behind_ok {r : R} {f : CS → CS} {i : Int} {S : CS} (h : behind f r = .ok (i, S)) : ∃ S', r = .ok (i, S') ∧ S = f S' := by
  cases r with
  | error e => cases h
  | ok v =>
    obtain ⟨j, S'⟩ := v
    cases h
    exact ⟨_, rfl, rfl⟩
/-- the functions stay -/
def Stays (f : CS → List T → Int → R) : Prop := ∀ S ps p i S', f S ps p = .ok (i, S') → S'.fns = S.fns
section
variable {inside : CS → List T → Int → R}
theorem bar_fns (hi : Stays inside) : Stays (barrier inside) := fun S ps p i S' h => by
  obtain ⟨S1, h1, rfl⟩ := behind_ok h
  have z := hi _ _ _ _ _ h1
  exact z
theorem loop_fns (hi : Stays inside) : Stays (looped inside) := fun S ps p i S' h => by
  obtain ⟨S1, h1, rfl⟩ := behind_ok h
  have z := hi _ _ _ _ _ h1
  exact z
theorem ok_fns {S S' : CS} {i j : Int} (h : (.ok (i, S) : R) = .ok (j, S')) : S'.fns = S.fns := by
  cases h
  rfl
theorem act_fns (hi : Stays inside) (k : Kind) (S : CS) (ds : List T) (p i : Int) (S' : CS) (h : act inside k S ds p = .ok (i, S')) : S'.fns = S.fns := by
  have hb := bar_fns hi
  have hl := loop_fns hi
  cases k <;> simp only [act, named, varied] at h <;> (repeat' split at h) <;>
    first
    | (cases h; rfl)
    | (obtain ⟨j, h⟩ := inc_ok h; first | exact hi _ _ _ _ _ h | exact hb _ _ _ _ _ h | exact hl _ _ _ _ _ h)
    | (obtain ⟨j, h⟩ := timed_ok h; exact hl _ _ _ _ _ h)
theorem one_fns (hi : Stays inside) (S : CS) (p : Int) (t : T) (i : Int) (S' : CS) (h : one inside S p t = .ok (i, S')) : S'.fns = S.fns := by
  unfold one at h
  split at h
  · split at h
    · exact act_fns hi _ _ _ _ _ _ h
    · cases h; rfl
  · cases h; rfl
end
theorem many_fns {f : CS → Int → T → R} (hf : ∀ S p t i S', f S p t = .ok (i, S') → S'.fns = S.fns) : ∀ (ts : List T) (S : CS) (p j i : Int) (S' : CS), many f S ts p j = .ok (i, S') → S'.fns = S.fns
  | [], S, p, j, i, S', h => by
    rw [many] at h
    cases h
    rfl
  | t :: ts, S, p, j, i, S', h => by
    rw [many] at h
    split at h
    · cases h
    · split at h
      · cases h
      · rename_i j1 S1 e1
        split at h
        · cases h
        · rw [many_fns hf ts _ _ _ _ _ h, hf _ _ _ _ _ e1]
theorem into_fns {g : CS → List T → Int → Int → R} (hg : ∀ S ts p j i S', g S ts p j = .ok (i, S') → S'.fns = S.fns) : Stays (into g) := fun S ps p i S' h => by
  unfold into at h
  split at h
  · cases h
  · obtain ⟨S1, h1, rfl⟩ := behind_ok h
    have z := hg _ _ _ _ _ _ h1
    exact z
theorem all_fns : ∀ (n : Nat) (S : CS) (ts : List T) (p j i : Int) (S' : CS), all n S ts p j = .ok (i, S') → S'.fns = S.fns
  | 0, S, ts, p, j, i, S', h => many_fns (one_fns (into_fns fun _ _ _ _ _ _ z => by cases z)) ts S p j i S' h
  | n + 1, S, ts, p, j, i, S', h => many_fns (one_fns (into_fns (all_fns n))) ts S p j i S' h
/-! ### the entries -/
def finish (m : T) : Except (List Int) CS → Except (List Int) CS
  | .error e => .error e
  | .ok S => match all 59 { S with rets := false } [m] (-1) 0 with
    | .error e => .error e
    | .ok (i, S') => if 40 < S'.vars.length ∨ 3000 < i then .error [] else .ok { S' with unf := i }
theorem check_tup (fs : List T) (m : T) : check (.tup [.tup fs, m]) = if fs.length ≤ 20 then finish m (entries start fs 0) else .error [] := by
  show (if fs.length ≤ 20 then _ else _) = _
  split
  · cases entries start fs 0 <;> rfl
  · rfl
theorem entries_nil (S : CS) (k : Int) : entries S [] k = .ok S := by rw [entries]
theorem entries_yes {S : CS} {z : Str} {b : T} {es : List T} {k : Int} (h : nameOk z = true) (l : S.fns.lookup z = none) : entries S (.tup [.str z, b] :: es) k = match all 59 S [b] k 0 with
    | .error e => .error e
    | .ok (i, S') => entries { S' with fns := S'.fns ++ [(z, if 3001 < i then 3001 else i)] } es (k + 1) := by
  rw [entries]
  rw [if_pos ⟨h, l⟩]
  all_goals
    cases all 59 S [b] k 0 with
    | error e => rfl
    | ok v => rfl
end Ck

/-! All defs of the check together; a program checked. -/
namespace Ck
open PySem PySem.Spec PyProof.Rows L2 PySem.ErrKw
/-- a def of the module -/
structure Def (K : PySem.W.Frag) (mg : Str → Option Value) (x : Str) (st : Stmt) (ps : List Str) : Prop where
  ex : ∃ f fd, Fun K x x st f fd ∧ mg x = some (.ref f) ∧ PySem.W.keepIn K (.ref f) = true ∧ Binds K fd ps []
def fnName : Kind → Str
  | .run => "size_of_run"
  | .status => "size_of_status"
  | .var => "size_with_variable"
  | .put => "size_of_put"
  | .option => "size_of_option"
  | .trap => "size_of_trap"
  | .seq => "size_of_seq"
  | .pipe => "size_of_pipe"
  | .andor => "size_of_and_or"
  | .not => "size_of_not"
  | .sub => "size_of_sub"
  | .ife => "size_of_if"
  | .whl => "size_of_while"
  | .times => "size_of_times"
  | .jump => "size_of_jump"
  | .call => "size_of_call"
  | .ret => "size_of_return"
  | .exit => "size_of_exit"
section
variable {P : Program} {w : World} {K : PySem.W.Frag} {mg : Str → Option Value} {base : Heap} {dR dS : Addr} {adr : Kind → Addr} {C IP fI : Addr}
theorem Def.go {CX : CXT} {x : Str} {st : Stmt} {ps : List Str} {sp : Sp} {n : Nat} (D : Def K mg x st ps) (h : ∀ f fd, Fun K x x st f fd → FnOk P w K mg base CX n f fd ps sp) : Go P w K mg base CX n x ps sp := by
  obtain ⟨f, fd, F, g, k, b⟩ := D.ex
  exact ⟨f, fd, h f fd F, g, k, b⟩
theorem Def.callT {CX : CXT} {x : Str} {st : Stmt} {ps : List Str} {sp : Sp} {n : Nat} {u : Addr} (D : Def K mg x st ps) (e : mg x = some (.ref u)) (h : ∀ f fd, Fun K x x st f fd → FnOk P w K mg base CX n f fd ps sp) : CallT P w K mg base CX n u sp := by
  obtain ⟨f, fd, F, g, k, b⟩ := D.ex
  have z := g.symm.trans e
  cases z
  exact ⟨fd, ps, h _ fd F, k, b⟩
theorem Def.goD {CX : CXT} {x : Str} {st : Stmt} {ps : List Str} {sp : Sp} {n : Nat} (D : Def K mg x st ps) (h : ∀ f fd, Fun K x x st f fd → FnD P w K mg base CX n f fd ps sp) : GoD P w K mg base CX n x ps sp := by
  obtain ⟨f, fd, F, g, k, b⟩ := D.ex
  exact ⟨f, fd, h f fd F, g, k, b⟩
theorem Def.callD {CX : CXT} {x : Str} {st : Stmt} {ps : List Str} {sp : Sp} {n : Nat} {u : Addr} (D : Def K mg x st ps) (e : mg x = some (.ref u)) (h : ∀ f fd, Fun K x x st f fd → FnD P w K mg base CX n f fd ps sp) : CallD P w K mg base CX n u sp := by
  obtain ⟨f, fd, F, g, k, b⟩ := D.ex
  have z := g.symm.trans e
  cases z
  exact ⟨fd, ps, h _ fd F, k, b⟩
abbrev PP : List Str := ["check", "tree", "place"]
structure Defs (K : PySem.W.Frag) (mg : Str → Option Value) (C fN : Addr) (adr : Kind → Addr) : Prop where
  isInt : Def K mg "is_integer" sIsInt ["value"]
  isWithin : Def K mg "is_integer_within" sIsWithin ["value", "least", "most"]
  isName : Def K mg "is_name" sIsName ["value"]
  isNew : Def K mg "is_new_name" sIsNew ["names", "value"]
  hasParts : Def K mg "has_parts" sHasParts ["tree"]
  outline : Def K mg "is_outline" sOutline ["program"]
  entry : Def K mg "is_entry" sEntry ["entry", "functions"]
  checked : Def K mg "checked" sChecked ["program"]
  all : Def K mg "size_of_all" sAll ["check", "trees", "place"]
  into : Def K mg "size_inside" sInto ["check", "parts", "place"]
  bar : Def K mg "size_behind_barrier" sBar ["check", "parts", "place"]
  run : Def K mg "size_of_run" sRun PP
  status : Def K mg "size_of_status" sSta PP
  var : Def K mg "size_with_variable" sVar PP
  put : Def K mg "size_of_put" sPut PP
  option : Def K mg "size_of_option" sOpt PP
  trap : Def K mg "size_of_trap" sTra PP
  seq : Def K mg "size_of_seq" sSeq PP
  pipe : Def K mg "size_of_pipe" sPip PP
  andor : Def K mg "size_of_and_or" sAnd PP
  not : Def K mg "size_of_not" sNot PP
  sub : Def K mg "size_of_sub" sSub PP
  ife : Def K mg "size_of_if" sIff PP
  whl : Def K mg "size_of_while" sWhi PP
  times : Def K mg "size_of_times" sTim PP
  jump : Def K mg "size_of_jump" sJmp PP
  call : Def K mg "size_of_call" sCal PP
  ret : Def K mg "size_of_return" sRet PP
  exit : Def K mg "size_of_exit" sExi PP
  table : ∀ k, mg (fnName k) = some (.ref (adr k))
  init : ∃ fd, Fun K "__init__" "Check.__init__" sInit fN fd ∧ Binds K fd ["self"] []
  mkk : Mk K C fN
  gC : mg "Check" = some (.ref C)
theorem gW (D : Defs K mg C fN adr) (M : Md K mg w dR dS adr) : GW P w K mg base := D.isWithin.go fun _ _ F => ok_isWithin F M
theorem gI (D : Defs K mg C fN adr) (M : Md K mg w dR dS adr) : GI P w K mg base := D.isInt.go fun _ _ F => ok_isInt F M
theorem gN (D : Defs K mg C fN adr) (M : Md K mg w dR dS adr) : GN P w K mg base := D.isName.go fun _ _ F => ok_isName F M
theorem gNew (D : Defs K mg C fN adr) (M : Md K mg w dR dS adr) : GNew P w K mg base := D.isNew.go fun _ _ F => ok_isNew F M (gN D M)
theorem gHp (D : Defs K mg C fN adr) (M : Md K mg w dR dS adr) : GHp P w K mg base := D.hasParts.go fun _ _ F => ok_hp F M
theorem gBar {n j : Nat} (D : Defs K mg C fN adr) (M : Md K mg w dR dS adr) (Z : Mc P K mg C IP fI) (G : GInto P w K mg base C IP n j) : GBar P w K mg base C IP n (j + 1) := D.bar.goD fun _ _ F => ok_bar F M Z G
theorem acts {n j : Nat} (D : Defs K mg C fN adr) (M : Md K mg w dR dS adr) (Z : Mc P K mg C IP fI) (hj : 2 ≤ j) (G : GInto P w K mg base C IP n j) (k : Kind) : CallD P w K mg base (L2.CX P w) (j + 2) (adr k) (spAct K C IP n k) := by
  have W : GW P w K mg base := gW D M
  have N : GNew P w K mg base := gNew D M
  have B : GBar P w K mg base C IP n (j + 1) := gBar D M Z G
  have Hp : GHp P w K mg base := gHp D M
  have X : GX P w K mg base C IP n 3 "size_of_exit" .exit := D.exit.go fun _ _ F => ok_Exi F M Z W
  have j1 : 1 ≤ j := by omega
  cases k with
  | run => exact D.run.callD (D.table .run) fun _ _ F => .of (ok_Run F M Z N) (by decide)
  | status => exact D.status.callD (D.table .status) fun _ _ F => .of (ok_Sta F M Z W) (by decide)
  | var => exact D.var.callD (D.table .var) fun _ _ F => .of (ok_Var F M Z N) (by decide)
  | put => exact D.put.callD (D.table .put) fun _ _ F => .of (ok_Put F M Z N W) (by decide)
  | option => exact D.option.callD (D.table .option) fun _ _ F => .of (ok_Opt F M Z) (by decide)
  | trap => exact D.trap.callD (D.table .trap) fun _ _ F => ok_Tra F M Z B
  | seq => exact D.seq.callD (D.table .seq) fun _ _ F => (ok_Seq F M Z j1 Hp G).mono (by omega)
  | pipe => exact D.pipe.callD (D.table .pipe) fun _ _ F => ok_Pip F M Z (by omega) Hp B
  | andor => exact D.andor.callD (D.table .andor) fun _ _ F => (ok_And F M Z j1 G).mono (by omega)
  | not => exact D.not.callD (D.table .not) fun _ _ F => (ok_Not F M Z j1 G).mono (by omega)
  | sub => exact D.sub.callD (D.table .sub) fun _ _ F => ok_Sub F M Z (by omega) B
  | ife => exact D.ife.callD (D.table .ife) fun _ _ F => (ok_Iff F M Z G).mono (by omega)
  | whl => exact D.whl.callD (D.table .whl) fun _ _ F => (ok_Whi F M Z G).mono (by omega)
  | times => exact D.times.callD (D.table .times) fun _ _ F => (ok_Tim F M Z j1 W G).mono (by omega)
  | jump => exact D.jump.callD (D.table .jump) fun _ _ F => .of (ok_Jmp F M Z (gI D M)) (by decide)
  | call => exact D.call.callD (D.table .call) fun _ _ F => .of (ok_Cal F M Z) (by decide)
  | ret => exact D.ret.callD (D.table .ret) fun _ _ F => .of (ok_Ret F M Z X) (by decide)
  | exit => exact D.exit.callD (D.table .exit) fun _ _ F => .of (ok_Exi F M Z W) (by decide)
theorem gAll_of {n j : Nat} (D : Defs K mg C fN adr) (M : Md K mg w dR dS adr) (Z : Mc P K mg C IP fI) (hj : 2 ≤ j) (G : GInto P w K mg base C IP n j) : GAll P w K mg base C IP n (j + 3) := D.all.goD fun _ _ F => ok_all F M Z (by omega) (acts D M Z hj G)
theorem gInto (D : Defs K mg C fN adr) (M : Md K mg w dR dS adr) (Z : Mc P K mg C IP fI) : ∀ n : Nat, GInto P w K mg base C IP n (4 * n + 2)
  | 0 => D.into.goD fun _ _ F => ok_into (j := 1) F M Z (Nat.le_refl _) fun h => absurd rfl h
  | n + 1 => D.into.goD fun _ _ F => ok_into (n := n + 1) (j := 4 * n + 2 + 3) F M Z (by omega) fun _ => gAll_of D M Z (by omega) (gInto D M Z n)
theorem gAll (D : Defs K mg C fN adr) (M : Md K mg w dR dS adr) (Z : Mc P K mg C IP fI) (n : Nat) : GAll P w K mg base C IP n (4 * n + 5) := gAll_of D M Z (by omega) (gInto D M Z n)
/-! ### checked -/
def ResC (C IP : Addr) (G : Hp) (r : Except (List Int) CS) (Q : VK) (E : XK) : Prop := match r with
  | .ok S => ∀ H' F, Same G H' → At C H' F S → Q (.ref (Foot.c F)) H'
  | .error path => ∀ H' d p, Same G H' → H' d = some (.xd [("path", .ref p)]) → H' p = some (.tup (path.map V.int)) → E (.ref IP) (some d) H'
def spChecked (K : PySem.W.Frag) (C IP : Addr) : Sp := fun vs H Q E => ∃ v t, vs = [v] ∧ Im K H v t ∧ ResC C IP H (check t) Q E
/-- between two entries -/
def Pe (K : PySem.W.Frag) (C IP : Addr) (F : Foot) (G : Hp) (v a m : V) (mt : T) (es : List T) (Q : VK) (E : XK) : Nat → L2.St → Hp → Prop := fun i σ H => ∃ S v5 v6 v7, σ = [some v, some a, some m, some (V.ref F.c), some (V.int i), v5, v6, v7] ∧ Same G H ∧ At C H F S ∧ Ok S ∧ S.places = [] ∧ S.fns.length ≤ i ∧
  ResC C IP G (finish mt (entries S (es.drop i) i)) Q E
theorem raise_ok {G H : Hp} {path : List Int} {Q : VK} {E : XK} (q : ResC C IP G (.error path) Q E) (sm : Same G H) (r : Addr) (nr : H r = none) (d : Addr) (nd : (upd H r (.tup (path.map V.int))) d = none) : E (.ref IP) (some d) (upd (upd H r (.tup (path.map V.int))) d (.xd [("path", .ref r)])) := by
  refine q _ d r (Ck.Same.new (Ck.Same.new sm nr) nd) upd_same ?_
  rw [upd_ne (ne_of_none upd_same nd), upd_same]
theorem putK_ftab {z : Str} {fs : List (Str × Int)} {i : Int} (h : fs.lookup z = none) : putK (ftab fs) (.inr z) (.int i) = ftab (fs ++ [(z, i)]) := by
  unfold putK
  have e : ((ftab fs).any fun kv => decide (kv.1 = (Sum.inr z : Key))) = false := by
    rw [valV_any, valV_ftab, h]
    rfl
  rw [e, if_neg Bool.false_ne_true]
  simp [ftab]
theorem entries_no {S : CS} {e : T} {es : List T} {k : Int} (h : isEntry S.fns e = false) : entries S (e :: es) k = .error [k] := by
  have out : (∀ a b, e = .tup [a, b] → False) → entries S (e :: es) k = .error [k] := fun n => by
    rw [entries]
    intro a b z
    exact n a b z
  cases e with
  | tup ts =>
    rcases ts with _ | ⟨a, _ | ⟨b, _ | ⟨c, r⟩⟩⟩
    · exact out fun _ _ z => by cases z
    · exact out fun _ _ z => by cases z
    · cases a with
      | str z =>
        rw [entries]
        have h2 : (nameOk z && (S.fns.lookup z).isNone) = false := h
        rw [if_neg]
        rintro ⟨h3, h4⟩
        rw [h3, h4] at h2
        cases h2
      | _ =>
        rw [entries]
        intro z y
        cases y
    · exact out fun _ _ z => by cases z
  | _ => exact out fun _ _ z => by cases z
theorem entry_yes {fs : List (Str × Int)} {H : Hp} {v : V} {e : T} (im : Im K H v e) (h : isEntry fs e = true) : ∃ a z b y, v = .ref a ∧ e = .tup [.str z, b] ∧ H a = some (.tup [.str z, y]) ∧ Im K H y b ∧ nameOk z = true ∧ fs.lookup z = none := by
  cases im with
  | @tup a xs ts ha ip =>
    rcases two ip with ⟨x0, x1, t0, t1, rfl, rfl, i0, i1⟩ | ⟨c, nt⟩
    · cases i0 with
      | str hz =>
        have h2 : (nameOk _ && (fs.lookup _).isNone) = true := h
        rw [Bool.and_eq_true] at h2
        exact ⟨_, _, _, _, rfl, rfl, ha, i1, h2.1, Option.isNone_iff_eq_none.mp h2.2⟩
      | _ => simp [isEntry] at h
    · exfalso
      rcases ts with _ | ⟨t0, _ | ⟨t1, _ | ⟨t2, r⟩⟩⟩ <;> first | (simp [isEntry] at h; done) | exact absurd rfl (nt _ _) | (cases t0 <;> simp [isEntry] at h)
  | _ => simp [isEntry] at h
abbrev NC : List Str := ["program", "functions", "main", "check", "number", "entry", "name", "body"]
theorem ok_checked {fN f : Addr} {fd : FuncData} (F0 : Fun K "checked" "checked" sChecked f fd) (D : Defs K mg C fN adr) (M : Md K mg w dR dS adr) (Z : Mc P K mg C IP fI) : FnD P w K mg base (L2.CX P w) 242 f fd ["program"] (spChecked K C IP) := by
  have GA : GAll P w K mg base C IP 59 241 := gAll D M Z 59
  have GO : Go P w K mg base CX0 1 "is_outline" ["program"] (spOutline K) := D.outline.go fun _ _ F => ok_outline F M
  have GE : Go P w K mg base CX0 2 "is_entry" ["entry", "functions"] (spEntry K) := D.entry.go fun _ _ F => ok_entry F M (gN D M)
  obtain ⟨fdI, FI, bI⟩ := D.init
  have GM : FnOk P w K mg base CX0 1 fN fdI ["self"] (spInit C) := ok_init FI Z
  obtain ⟨tv, mv⟩ := M.mv
  obtain ⟨tu, mu⟩ := M.mu
  refine okXD F0 scChecked (fun vs H Q E h => ?_) (fun cdv A outer s H vs Q E hr h => ?_)
  · obtain ⟨_, _, rfl, _⟩ := h
    rfl
  obtain ⟨v, t, rfl, im, q⟩ := h
  have hu := hu_of hr.low
  have hr1 := hr.low.mono (j := 1) (by decide)
  have hr2 := hr.low.mono (j := 2) (by decide)
  refine ⟨_, pss_cons (ps_if (pt_not (pt_val (pe_go GO hr1 pass0 rfl (pa_cons (pv 0) pa_nil)))) (pss_one (ps_raiseE rfl Z.er given_path hr1 (takes_of rfl rfl rfl rfl) (pe_tup pa_nil))) pss_nil)
    (pss_cons (ps_asg (pv 0) (pg_tup (by rfl) (pgs_cons (pg_name (i := 1) scChecked.nd rfl (.inl rfl)) (pgs_cons (pg_name (i := 2) scChecked.nd rfl (.inl rfl)) pgs_nil))))
    (pss_cons (ps_set (i := 3) scChecked.nd rfl (.inl rfl) (pe_make0 (E := E) D.mkk GM hr2 rfl D.gC bI .nil pass0))
    (pss_cons (ps_fld (pv 3) pe_bl rfl)
    (pss_cons (ps_set (i := 4) scChecked.nd rfl (.inl rfl) pe_int)
    (pss_cons (ps_for (passes_of rfl) rfl (pi_tup (pv 1)) (pg_name (i := 5) scChecked.nd rfl (.inl rfl))
      (pss_cons (ps_if (pt_not (pt_val (pe_go GE hr2 pass0 rfl (pa_cons (pv 5) (pa_cons (pe_fld (pv 3) rfl) pa_nil))))) (pss_one (ps_raiseE rfl Z.er given_path hr1 (takes_of rfl rfl rfl rfl) (pe_tup (pa_cons (pv 4) pa_nil)))) pss_nil)
      (pss_cons (ps_asg (pv 5) (pg_tup (by rfl) (pgs_cons (pg_name (i := 6) scChecked.nd rfl (.inl rfl)) (pgs_cons (pg_name (i := 7) scChecked.nd rfl (.inl rfl)) pgs_nil))))
      (pss_cons (ps_dput hu (pe_fld (pv 3) rfl) (pv 6) (pe_callB (call_min2 rfl) rfl M.mm (by decide +kernel) (pa_cons (pe_goD (E := E) GA hr (passes_call (takes_of rfl rfl rfl rfl) fun _ _ _ _ z => z) rfl (pa_cons (pv 3) (pa_cons (pe_tup (pa_cons (pv 7) pa_nil)) (pa_cons (pv 4) pa_nil))))
          (pa_cons (pe_op op_add (pe_glob (v := .int 3000) rfl mu ⟨_, rfl⟩) pe_int) pa_nil))) rfl)
      (pss_one (ps_aug (i := 4) scChecked.nd rfl (.inl rfl) pe_int ip_add))))))
    (pss_cons (ps_fld (pv 3) pe_bl rfl)
    (pss_cons (ps_fld (pv 3) (pe_goD (E := E) GA hr (passes_call (takes_of rfl rfl rfl rfl) fun _ _ _ _ z => z) rfl (pa_cons (pv 3) (pa_cons (pe_tup (pa_cons (pv 2) pa_nil)) (pa_cons (pe_un un_neg pe_int) pa_nil)))) rfl)
    (pss_cons (ps_if (PW.pt (pw_or (pt_cmpR op_gt (pe_callB call_lenD rfl M.ml PySem.boot_len (pa_cons (pe_fld (pv 3) rfl) pa_nil)) (pe_glob (v := .int 40) rfl mv ⟨_, rfl⟩) (nomark _)) (pw_or1 (pt_cmpR op_gt (pe_fld (pv 3) rfl) (pe_glob (v := .int 3000) rfl mu ⟨_, rfl⟩) (nomark _))))) (pss_one (ps_raiseE rfl Z.er given_path hr1 (takes_of rfl rfl rfl rfl) (pe_tup pa_nil))) pss_nil)
    (pss_one (ps_ret (pv 3))))))))))), ?_⟩
  dsimp only [L2.tRet, L2.tRetN, tAndV, tOrV, tNotV, tCB, L2.tCons, L2.tNil, tC, tVar, L2.tOp, L2.tUn, tSeq, tAsg, gName, tIfS, tTest, tNext, tAnd, tOr, tNot, L2.tIf, tFld, sFld, sFldAug, tCall, tTup, tB, tAug, tDrop, L2.tSl, tPart, tNoPart, tBM, tBM0, tChain, gTup, gCons, gNil, tPar, tIs, List.set, iTup, sDPut, tMake]
  refine ⟨_, rfl, v, t, rfl, im, _, rfl, ?_⟩
  cases co : isOutline t with
  | false =>
    have e : check t = .error [] := by
      rcases t with _ | b | i | z | ts | o
      · rfl
      · rfl
      · rfl
      · rfl
      · rcases ts with _ | ⟨t0, _ | ⟨t1, _ | ⟨t2, r⟩⟩⟩
        · rfl
        · cases t0 <;> rfl
        · cases t0 with
          | tup fs =>
            rw [check_tup, if_neg (of_decide_eq_false co)]
          | _ => rfl
        · cases t0 <;> rfl
      · rfl
    rw [e] at q
    exact if_yes rfl ⟨by decide, fun r nr d nd => raise_ok q (fun _ _ z => z) r nr d nd⟩
  | true =>
  refine if_no rfl ?_
  obtain ⟨a, b, x1, ys, fs, m, rfl, rfl, ha, hb, ifs, imm, few20⟩ : ∃ a b x1 ys fs m, v = .ref a ∧ t = .tup [.tup fs, m] ∧ H a = some (.tup [.ref b, x1]) ∧ H b = some (.tup ys) ∧ Ims K H ys fs ∧ Im K H x1 m ∧ fs.length ≤ 20 := by
    cases im with
    | @tup a xs ts ha ip =>
      rcases two ip with ⟨x0, x1, t0, t1, rfl, rfl, i0, i1⟩ | ⟨c, nt⟩
      · cases i0 with
        | tup hb ib => exact ⟨_, _, _, _, _, _, rfl, rfl, ha, hb, ib, i1, of_decide_eq_true co⟩
        | _ => simp [isOutline] at co
      · exfalso
        rcases ts with _ | ⟨t0, _ | ⟨t1, _ | ⟨t2, r⟩⟩⟩ <;> first | (simp [isOutline] at co; done) | exact absurd rfl (nt _ _) | (cases t0 <;> simp [isOutline] at co)
    | _ => simp [isOutline] at co
  rw [check_tup, if_pos few20] at q
  refine ⟨_, rfl, a, _, rfl, sqt ha, rfl, _, _, rfl, _, _, rfl, rfl, fun x dx nx ndx nxd => ?_⟩
  refine ⟨x, dx, rfl, upd_same, fun F H1 eF keep new at1 => ⟨rfl, ?_⟩⟩
  subst eF
  have sm1 : Same H H1 := fun b o z => keep b o (by rw [upd_ne (ne_of_none z nx), upd_ne (ne_of_none z ndx)]; exact z) (ne_of_none z nx)
  have fr : Free F H := by
    have n : ∀ {p : Addr}, (∀ b o, (upd (upd H dx (.own F.c)) F.c (.ins C dx [])) b = some o → b ≠ F.c → p ≠ b) → H p = none := fun {p} h => by
      cases e : H p with
      | none => rfl
      | some o => exact absurd rfl (h p o (by rw [upd_ne (ne_of_none e nx), upd_ne (ne_of_none e ndx)]; exact e) (ne_of_none e nx))
    exact ⟨nx, n fun b o z y => (new b o z y).1, n fun b o z y => (new b o z y).2.1, n fun b o z y => (new b o z y).2.2.1, n fun b o z y => (new b o z y).2.2.2⟩
  have at2 := at1.set (S' := start) put_rets rfl rfl rfl rfl
  refine ⟨_, rfl, F.c, C, F.dx, _, rfl, at1.c, Z.cl, Z.n8, few F _, ?_⟩
  have sm2 := Ck.Same.up (o := .ins C F.dx (putF "returns" (.bl true) (flds F start0))) sm1 fr.c
  refine ⟨_, rfl, b, rfl, ⟨_, sqt (K := K) (sm2 _ _ hb)⟩, for_tup (K := K) (a := b) (xs := ys) (Pe K C IP F H (.ref a) (.ref b) x1 m fs Q E) ?h0 ?hl ?hs ?hd⟩
  case h0 =>
    refine ⟨start, none, none, none, rfl, sm2, at2, ⟨by decide, by decide, by decide, by decide⟩, rfl, by decide, ?_⟩
    exact q
  case hl =>
    rintro i σ H' _ ⟨_, _, _, _, _, sm3, _⟩
    exact sqt (K := K) (sm3 _ _ hb)
  case hd =>
    rintro σ H3 ⟨S, v5, v6, v7, rfl, sm3, at3, ok3, pl, fn, q3⟩
    have e : fs.drop ys.length = [] := by rw [ifs.len, List.drop_length]
    rw [e, entries_nil] at q3
    have at4 := at3.set (S' := { S with rets := false }) put_rets rfl rfl rfl rfl
    have sm4 := Ck.Same.up (o := .ins C F.dx (putF "returns" (.bl false) (flds F S))) sm3 fr.c
    refine ⟨_, rfl, F.c, C, F.dx, _, rfl, at3.c, Z.cl, Z.n8, few F _, ?_⟩
    refine ⟨_, rfl, _, rfl, (by show 1 ≤ sizeLine; decide), fun r nr => ⟨1, rfl, ?_⟩⟩
    have nG := Ck.Same.non sm4 nr
    refine ⟨F, { S with rets := false }, upd H r (.tup [x1]), r, [x1], [m], -1, rfl, Ck.Same.both sm4, fr.new at4 nr, at4.new nr, ⟨ok3.lo, ok3.hi, ok3.cm, ok3.va⟩, (by show S.places.length + 59 = 59; rw [pl]; rfl), upd_same, (Ims.cons imm .nil).mono (Ck.Same.new (fun _ _ z => z) nG), ?_⟩
    have qf : ResC C IP H (match all 59 { S with rets := false } [m] (-1) 0 with
      | .error e => .error e
      | .ok (i, S') => if 40 < S'.vars.length ∨ 3000 < i then .error [] else .ok { S' with unf := i }) Q E := q3
    show Res C IP F _ S.places (all 59 { S with rets := false } [m] (-1) 0) _ E
    cases r5 : all 59 { S with rets := false } [m] (-1) 0 with
    | error path =>
      rw [r5] at qf
      exact fun H' d p y z u => qf H' d p (Ck.Same.left y nG) z u
    | ok v =>
      obtain ⟨i, S5⟩ := v
      rw [r5] at qf
      intro H5 sm5 at5 ok5 pl5
      have at6 := at5.set (S' := { S5 with unf := i }) put_unf rfl rfl rfl rfl
      have sm6 := Ck.Same.up (o := .ins C F.dx (putF "unfolded" (.int i) (flds F S5))) (Ck.Same.left sm5 nG) fr.c
      refine ⟨_, rfl, F.c, C, F.dx, _, rfl, at5.c, Z.cl, Z.n4, few F _, ?_⟩
      have q6 : ResC C IP H (if 40 < S5.vars.length ∨ 3000 < i then .error [] else .ok { S5 with unf := i }) Q E := qf
      refine ⟨_, rfl, F.c, C, F.dx, _, _, rfl, at6.c, Z.cl, Z.n3, get_vars, F.dv, _, rfl, at6.dv, _, _, rfl, rfl, _, rfl, ?_⟩
      have ln : (tab S5.vars).length = S5.vars.length := by simp [tab]
      by_cases c1 : 40 < S5.vars.length
      · rw [if_pos (.inl c1)] at q6
        exact if_yes (decide_eq_true (by show ((tab S5.vars).length : Int) > 40; rw [ln]; omega)) (if_yes rfl ⟨by decide, fun r nr d nd => raise_ok q6 sm6 r nr d nd⟩)
      · refine if_no (decide_eq_false (by show ¬ ((tab S5.vars).length : Int) > 40; rw [ln]; omega)) ?_
        refine ⟨_, rfl, F.c, C, F.dx, _, _, rfl, at6.c, Z.cl, Z.n4, get_unf, _, _, rfl, rfl, _, rfl, ?_⟩
        by_cases c2 : 3000 < i
        · rw [if_pos (.inr c2)] at q6
          exact if_yes (decide_eq_true (by show i > 3000; omega)) ⟨by decide, fun r nr d nd => raise_ok q6 sm6 r nr d nd⟩
        · rw [if_neg (by omega)] at q6
          exact if_no (decide_eq_false (by show ¬ i > 3000; omega)) ⟨_, rfl, q6 _ F sm6 at6⟩
  case hs =>
    rintro i x σ H3 hx ⟨S, v5, v6, v7, rfl, sm3, at3, ok3, pl, fn, q3⟩
    obtain ⟨e, et, ie⟩ := ims_at ifs hx
    have i20 : i < 20 := by
      have z := (List.getElem?_eq_some_iff.mp hx).1
      rw [ifs.len] at z
      omega
    rw [et] at q3
    refine ⟨_, rfl, _, rfl, F.c, C, F.dx, _, _, rfl, at3.c, Z.cl, Z.n5, get_fns, x, e, F.df, S.fns, rfl, ie.mono sm3, at3.df, _, rfl, ?_⟩
    cases c1 : isEntry S.fns e with
    | false =>
      rw [entries_no c1] at q3
      exact if_yes rfl ⟨_, rfl, (by show 1 ≤ sizeLine; decide), fun r nr d nd => raise_ok (path := [(i : Int)]) q3 sm3 r nr d nd⟩
    | true =>
    obtain ⟨a2, z, bd, y, rfl, rfl, ha2, ib, nok, lk⟩ := entry_yes ie c1
    rw [entries_yes nok lk] at q3
    refine if_no rfl ⟨_, rfl, a2, _, rfl, sqt (sm3 _ _ ha2), rfl, _, _, rfl, _, _, rfl, rfl, ?_⟩
    refine ⟨_, rfl, _, rfl, (by show 1 ≤ sizeLine; decide), fun r nr => ⟨_, rfl, ?_⟩⟩
    have nG := Ck.Same.non sm3 nr
    refine ⟨F, S, upd H r (.tup [y]), r, [y], [bd], (i : Int), rfl, Ck.Same.both sm3, fr.new at3 nr, at3.new nr, ok3, (by rw [pl]; rfl), upd_same, (Ims.cons ib .nil).mono (Ck.Same.new (fun _ _ z => z) nG), ?_⟩
    cases r5 : all 59 S [bd] (i : Int) 0 with
    | error path =>
      rw [r5] at q3
      exact fun H' d p y z u => q3 H' d p (Ck.Same.left y nG) z u
    | ok v =>
      obtain ⟨k, S5⟩ := v
      rw [r5] at q3
      intro H5 sm5 at5 ok5 pl5
      have fn5 : S5.fns = S.fns := all_fns _ _ _ _ _ _ _ r5
      have sm6 := Ck.Same.left sm5 nG
      refine ⟨_, _, rfl, rfl, k, _, rfl, ?_⟩
      have at6 := at5.fns (S5.fns ++ [(z, if (3000 + 1 : Int) < k then 3000 + 1 else k)])
      rw [← putK_ftab (by rw [fn5]; exact lk)] at at6
      refine ⟨_, rfl, F.c, C, F.dx, _, _, rfl, at5.c, Z.cl, Z.n5, get_fns, _, rfl, F.df, _, rfl, DPut.k (k := Sum.inr z) at5.df (by unfold ftab; rw [List.length_map, fn5, sizeLine_eq]; omega), ?_⟩
      refine ⟨_, rfl, _, _, rfl, rfl, ?_⟩
      refine ⟨{ S5 with fns := S5.fns ++ [(z, if (3000 + 1 : Int) < k then 3000 + 1 else k)] }, some (V.ref a2), some (V.str z), some y, ?_, Ck.Same.up sm6 fr.df, at6, ⟨ok5.lo, ok5.hi, ok5.cm, ok5.va⟩, pl5.trans pl, ?_, q3⟩
      · show [some (V.ref a), some (V.ref b), some x1, some (V.ref F.c), some (V.int (i + 1)), some (V.ref a2), some (V.str z), some y] = _
        rfl
      · show (S5.fns ++ [_]).length ≤ i + 1
        rw [List.length_append, fn5]
        simp
        exact fn
end
end Ck

/-! A try whose first clause, 'except x as n', takes every exception of its body; more clauses may follow. -/
namespace L2
open PySem PySem.Spec PyProof.Rows
/-- what the first clause wishes: the class is its own -/
def wFst (K : PySem.W.Frag) (c : Value) (i : Nat) (ts : Addr → Value → Option Addr → TS) (D : Ends) : WX := fun k d τ G =>
  PySem.W.exmOne K k c = some true ∧ ∀ a, G a = none → ts a k d { nx := fun τ' G' => D.nx (τ'.set i none) G', rt := D.rt, bk := fun τ' G' => D.bk (τ'.set i none) G', ct := fun τ' G' => D.ct (τ'.set i none) G' } (τ.set i (some (.ref a))) G
section
variable {X : Cx} {x n : Str} {c : Value} {i : Nat} {body suite : List Stmt} {b0 : Stmt} {np pos pos' : Pos} {more : List ExceptHandler} {tb : WX → TS} {ts : Addr → Value → Option Addr → TS}
theorem ps_try_fst (hs : X.stack = X.env :: X.outer) (hf : X.env.frame = some X.env.locals) (nd : X.N.Nodup) (hi : X.N[i]? = some n) (kl : X.env.kindOf n = some .local) (hc : Names X x c)
    (bd : ∀ (W : WX) (pn : List (Addr × Obj)) (xe : Value → Shared → Prop), Takes (X.tr pn xe) W → PassesOwn (model X.prog X.w) X.A X.env xe → PSs (X.tr pn xe) body (tb W))
    (su : ∀ (a : Addr) (oe : Obj) (k : Value) (d : Option Addr) (pn : List (Addr × Obj)), Zc k d oe → (∃ vs, oe.data = .fields vs) → PSs (X.suite a ((a, oe) :: pn)) (b0 :: suite) (ts a k d)) :
    PS X (.Try body (.ExceptHandler (some (.Name x np)) (some n) (b0 :: suite) pos' :: more) [] [] pos) (fun D τ G => tb (wFst X.K c i ts D) D τ G) := by
  refine ⟨fun pins s τ G D J0 h => ?_⟩
  have ok := J0.ok
  have fra : X.A.frames = some (X.env :: X.outer) := by rw [ok.frames, hs]
  have lc : Loc X.env.scope n := .inl kl
  refine wpAny_Try_except ?_
  refine wpAny_mono ((bd (wFst X.K c i ts D) (X.pn ++ pins) (fun e u1 => wpAny (model X.prog X.w) X.A (noteFrame e X.env) (fun _ u2 => wpAny (model X.prog X.w) X.A (setFlight e none) (fun _ u3 =>
    wpAny (model X.prog X.w) X.A (handleBy e X.env (.ExceptHandler (some (.Name x np)) (some n) (b0 :: suite) pos' :: more)) (SP X pins D) X.xe u3) X.xe u2) X.xe u1) (fun u s' got => ?_) PassesOwn.looking).run [] s τ G D (J0.toTry _) h) (fun fl s1 sp => ?_) (fun _ _ z => z)
  · obtain ⟨a, B, sI, ps2, τ', G', k, d, rfl, Jx, nb, up, sky, na, os, ag, yes, go⟩ := got
    have J : Inv X pins τ' G' sI := Jx.ofTry ok
    have sk : Sky B (X.env :: X.outer) a (Zc k d) X.env.locals s'.heap := by rw [← hs]; exact sky
    show wpAny (model X.prog X.w) X.A (noteFrame (.ref a) X.env) _ _ _
    refine Sky.land Zc.steady fra hf sk fun g3 f3 u3 => ?_
    have J3 : Inv X pins τ' G' { s' with heap := g3 } := J.landed nb f3.1 (up.trans u3) os ag
    obtain ⟨o3, v3, at3, z3, d3⟩ := f3.there
    have apart : a ∉ frs (X.env :: X.outer) := fun m => by
      obtain ⟨_, o2, e2, nf⟩ := f3.2.2.1.mem m
      rw [at3] at e2
      cases e2
      exact nf _ d3
    have aL : a ≠ X.env.locals := fun z => apart (List.mem_filterMap.mpr ⟨X.env, List.mem_cons_self, by rw [hf, z]⟩)
    have aF : a ∉ X.fs := fun m => by
      obtain ⟨e, he, q⟩ := List.mem_filterMap.mp m
      exact apart (List.mem_filterMap.mpr ⟨e, List.mem_cons_of_mem _ he, q⟩)
    have S3 := J3.suite at3 d3 na aL aF
    refine wpAny_handleBy_cons (codeAny_handlers_test ?_) (by intro q; cases q)
    have LT : PySem.W.Looks (model X.prog X.w) g3 (typeOf (.ref a)) k := fun A Q E s kp q => wpAny_typeOf_ref (kp _ _ at3) (by rw [z3.1]; exact q)
    have LM := PySem.W.exm_one (M := model X.prog X.w) J3.kIn LT yes
    have tst : ∀ {Q : Value → Shared → Prop} {E : Value → Shared → Prop}, Q c { s' with heap := g3 } → wpAny (model X.prog X.w) (X.A.mark (some (.ref a))) (eval (.Name x np) X.env) Q E { s' with heap := g3 } := fun {Q E} q => by
      obtain ⟨gx, dx, m1 | ⟨m1, m2, m3⟩⟩ := hc
      · exact ld_glob (X := X.suite a ((a, o3) :: (X.pn ++ pins))) S3 gx m1 q dx
      · exact ld_blt (X := X.suite a ((a, o3) :: (X.pn ++ pins))) S3 gx m1 m2 q m3 dx
    refine tst (LM.here ?_)
    refine codeAny_handlers_suite_as ?_
    refine HandSPX.lands_againZ f3 fun g4 f4 u4 => ?_
    have J4 : Inv X pins τ' G' { s' with heap := g4 } := J.landed nb f4.1 ((up.trans u3).trans u4) os ag
    obtain ⟨o4, v4, at4, z4, d4⟩ := f4.there
    have S4 := J4.suite at4 d4 na aL aF
    refine store_ok (X := X.suite a ((a, o4) :: (X.pn ++ pins))) (v := .ref a) S4 nd hi lc rfl (fun s5 S5 => ?_) (.inr kl)
    have off : ∀ {τ6 : St} {G6 : Hp} {s6 : Shared} {Q : Shared → Prop}, Inv (X.suite a ((a, o4) :: (X.pn ++ pins))) [] τ6 G6 s6 → (∀ s7, Inv X pins (τ6.set i none) G6 s7 → Q s7) →
        wpAny (model X.prog X.w) X.A (do bindName X.env n .none; unbindBehindTheSuite X.env n pos') (fun _ s7 => Q s7) X.xe s6 := fun S6 hq => gone_ok (S6.unsuite ok) nd hi kl hq
    refine wpAny_mono ((su a o4 k d (X.pn ++ pins) z4 ⟨_, d4⟩).run [] s5 _ G' _ S5 (go a na)) (fun fl s6 sp => ?_) (fun _ _ z => False.elim z)
    cases fl with
    | next =>
      obtain ⟨τ6, G6, S6, q6⟩ := sp
      exact off S6 fun s7 J7 => ⟨_, _, J7, q6⟩
    | brk =>
      obtain ⟨τ6, G6, S6, q6⟩ := sp
      exact off S6 fun s7 J7 => ⟨_, _, J7, q6⟩
    | cont =>
      obtain ⟨τ6, G6, S6, q6⟩ := sp
      exact off S6 fun s7 J7 => ⟨_, _, J7, q6⟩
    | ret u =>
      obtain ⟨v6, τ6, G6, S6, r6, q6⟩ := sp
      exact off S6 fun s7 J7 => ⟨_, _, _, J7, r6, q6⟩
  · cases fl with
    | next =>
      obtain ⟨τ', G', J1, q⟩ := sp
      exact wpAny_execs_nil ⟨τ', G', J1.ofTry ok, q⟩
    | brk =>
      obtain ⟨τ', G', J1, q⟩ := sp
      exact ⟨τ', G', J1.ofTry ok, q⟩
    | cont =>
      obtain ⟨τ', G', J1, q⟩ := sp
      exact ⟨τ', G', J1.ofTry ok, q⟩
    | ret u =>
      obtain ⟨v, τ', G', J1, r, q⟩ := sp
      exact ⟨v, τ', G', J1.ofTry ok, r, q⟩
end
end L2

/-! The two defs that the law asks, and what it makes of them. -/
namespace Ck
open PySem PySem.Spec PyProof.Rows L2 PySem.ErrKw
mutual
def toD : T → PyData
  | .non => .none
  | .bl b => .bool b
  | .int i => .int i
  | .str z => .str z
  | .tup ts => .tuple (toDs ts)
  | .odd _ => .none
def toDs : List T → List PyData
  | [] => []
  | t :: ts => toD t :: toDs ts
end
mutual
def flatT : T → Bool
  | .non => true
  | .bl _ => true
  | .int _ => true
  | .str _ => true
  | .tup ts => flatTs ts
  | .odd _ => false
def flatTs : List T → Bool
  | [] => true
  | t :: ts => flatT t && flatTs ts
end
section
variable {P : Program} {w : World} {K : PySem.W.Frag} {mg : Str → Option Value} {base : Heap} {dR dS : Addr} {adr : Kind → Addr} {C IP fI fN : Addr}
mutual
theorem Im.dp {H : Hp} : ∀ {v : V} {t : T}, Im K H v t → flatT t = true → Dp K H v (toD t)
  | _, _, .non, _ => .non
  | _, _, .bl b, _ => .bl b
  | _, _, .int i, _ => .int i
  | _, _, .str _, _ => .str _
  | _, _, .tup e r, h => .tup (sqt e) (Ims.dp r (by simpa [flatT] using h))
  | _, _, .odd _ _ _ _ _ _, h => by simp [flatT] at h
theorem Ims.dp {H : Hp} : ∀ {vs : List V} {ts : List T}, Ims K H vs ts → flatTs ts = true → DpAll K H vs (toDs ts)
  | _, _, .nil, _ => .nil
  | _ :: _, t :: ts, .cons a r, h => by
    have h2 : flatT t = true ∧ flatTs ts = true := by simpa [flatTs] using h
    exact .cons (Im.dp a h2.1) (Ims.dp r h2.2)
end
def saidT : Except (List Int) CS → T
  | .ok S => .tup [.str "sizes", .tup [.int S.trees, .int S.unf]]
  | .error path => .tup [.str "fault", .tup (path.map T.int)]
theorem flat_ints : ∀ path : List Int, flatTs (path.map T.int) = true
  | [] => rfl
  | i :: r => by rw [List.map_cons, flatTs, flatT, flat_ints r]; rfl
theorem flat_said (r : Except (List Int) CS) : flatT (saidT r) = true := by
  cases r with
  | ok S => rfl
  | error path =>
    show (true && (flatTs (path.map T.int) && true)) = true
    rw [flat_ints]
    rfl
theorem canLay_ints : ∀ path : List Int, PyData.canLayAll0 (toDs (path.map T.int)) = true
  | [] => rfl
  | i :: r => by rw [List.map_cons, toDs, PyData.canLayAll0, canLay_ints r]; rfl
theorem depth_ints : ∀ path : List Int, PyData.depthAll (toDs (path.map T.int)) = 0
  | [] => rfl
  | i :: r => by rw [List.map_cons, toDs, PyData.depthAll, depth_ints r]; rfl
theorem shaped_said (r : Except (List Int) CS) : SeqAt.shaped (toD (saidT r)) = true := by
  have s1 : PyData.canLay0 (.str "sizes") = true := by decide +kernel
  have s2 : PyData.canLay0 (.str "fault") = true := by decide +kernel
  unfold SeqAt.shaped
  rw [Bool.and_eq_true]
  cases r with
  | ok S =>
    constructor
    · simp only [saidT, toD, toDs, PyData.canLay0, PyData.canLayAll0] at s1 ⊢
      rw [s1]
      rfl
    · simp [saidT, toD, toDs, PyData.depth, PyData.depthAll]
  | error path =>
    constructor
    · simp only [saidT, toD, toDs, PyData.canLay0, PyData.canLayAll0] at s2 ⊢
      rw [s2, canLay_ints]
      rfl
    · simp [saidT, toD, toDs, PyData.depth, PyData.depthAll, depth_ints]
theorem ims_ints {H : Hp} : ∀ path : List Int, Ims K H (path.map V.int) (path.map T.int)
  | [] => .nil
  | i :: r => .cons (.int i) (ims_ints r)
/-- two that are the same are not unlike -/
theorem same_ne {H : Hp} {v u : V} {r : Except (List Int) CS} {Q : VK} (h1 : Im K H v (saidT r)) (h2 : Im K H u (saidT r)) (q : Q (.bl false) H) : rNeD K v u H Q := by
  refine ⟨_, _, h1.dp (flat_said r), h2.dp (flat_said r), shaped_said r, shaped_said r, ?_⟩
  rw [SeqAt.eqv_refl _ (SeqAt.canLay_of_shaped (shaped_said r))]
  exact q
theorem same_eq {H : Hp} {v u : V} {r : Except (List Int) CS} {Q : VK} (h1 : Im K H v (saidT r)) (h2 : Im K H u (saidT r)) (q : Q (.bl true) H) : rEqD K v u H Q := by
  refine ⟨_, _, h1.dp (flat_said r), h2.dp (flat_said r), shaped_said r, shaped_said r, ?_⟩
  rw [SeqAt.eqv_refl _ (SeqAt.canLay_of_shaped (shaped_said r))]
  exact q
/-! ### check_program, program_size -/
abbrev sCheckP : Stmt := topS 46
abbrev sSize : Stmt := topS 47
abbrev sSaid : Stmt := topS 53
theorem scCheckP : FnScope ["program"] ["program"] (defScope sCheckP) := ⟨rfl, rfl, rfl, by decide +kernel, rfl, by decide +kernel, by decide +kernel⟩
theorem scSize : FnScope ["program", "check"] ["program"] (defScope sSize) := ⟨rfl, rfl, rfl, by decide +kernel, rfl, by decide +kernel, by decide +kernel⟩
theorem scSaid : FnScope ["_law_plan", "error"] ["_law_plan"] (defScope sSaid) := ⟨rfl, rfl, rfl, by decide +kernel, rfl, by decide +kernel, by decide +kernel⟩
def spCheckP (K : PySem.W.Frag) (IP : Addr) : Sp := fun vs H Q E => ∃ v t, vs = [v] ∧ Im K H v t ∧ (match check t with
  | .ok _ => ∀ H', Same H H' → Q .non H'
  | .error path => ∀ H' d p, Same H H' → H' d = some (.xd [("path", .ref p)]) → H' p = some (.tup (path.map V.int)) → E (.ref IP) (some d) H')
def spSize (K : PySem.W.Frag) (IP : Addr) : Sp := fun vs H Q E => ∃ v t, vs = [v] ∧ Im K H v t ∧ (match check t with
  | .ok S => ∀ H' p, Same H H' → H' p = some (.tup [.int S.trees, .int S.unf]) → Q (.ref p) H'
  | .error path => ∀ H' d p, Same H H' → H' d = some (.xd [("path", .ref p)]) → H' p = some (.tup (path.map V.int)) → E (.ref IP) (some d) H')
abbrev GCk (P : Program) (w : World) (K : PySem.W.Frag) (mg : Str → Option Value) (base : Heap) (C IP : Addr) : Prop := Go P w K mg base (L2.CX P w) 86 "checked" ["program"] (spChecked K C IP)
theorem ok_checkP {f : Addr} {fd : FuncData} (F0 : Fun K "check_program" "check_program" sCheckP f fd) (GC : GCk P w K mg base C IP) : FnOk P w K mg base (L2.CX P w) 87 f fd ["program"] (spCheckP K IP) := by
  refine F0.okX scCheckP (fun vs H Q E h => ?_) (fun cdv A outer s H vs Q E hr h => ?_)
  · obtain ⟨_, _, rfl, _⟩ := h
    rfl
  obtain ⟨v, t, rfl, im, q⟩ := h
  refine ⟨_, pss_one (ps_expr (pe_go (E := E) GC hr (passes_call (takes_of rfl rfl rfl rfl) fun _ _ _ _ z => z) rfl (pa_cons (pv 0) pa_nil))), ?_⟩
  dsimp only [L2.tRet, L2.tRetN, tAndV, tOrV, tNotV, tCB, L2.tCons, L2.tNil, tC, tVar, L2.tOp, L2.tUn, tSeq, tAsg, gName, tIfS, tTest, tNext, tAnd, tOr, tNot, L2.tIf, tFld, sFld, sFldAug, tCall, tTup, tB, tAug, tDrop, L2.tSl, tPart, tNoPart, tBM, tBM0, tChain, gTup, gCons, gNil, tPar, tIs, List.set]
  refine ⟨_, rfl, v, t, rfl, im, ?_⟩
  cases r : check t with
  | ok S =>
    rw [r] at q
    exact fun H' F a _ => q H' a
  | error path =>
    rw [r] at q
    exact q
theorem ok_size {f : Addr} {fd : FuncData} (F0 : Fun K "program_size" "program_size" sSize f fd) (Z : Mc P K mg C IP fI) (GC : GCk P w K mg base C IP) : FnOk P w K mg base (L2.CX P w) 87 f fd ["program"] (spSize K IP) := by
  refine F0.okX scSize (fun vs H Q E h => ?_) (fun cdv A outer s H vs Q E hr h => ?_)
  · obtain ⟨_, _, rfl, _⟩ := h
    rfl
  obtain ⟨v, t, rfl, im, q⟩ := h
  refine ⟨_, pss_cons (ps_set (i := 1) scSize.nd rfl (.inl rfl) (pe_go (E := E) GC hr (passes_call (takes_of rfl rfl rfl rfl) fun _ _ _ _ z => z) rfl (pa_cons (pv 0) pa_nil)))
    (pss_one (ps_ret (pe_tup (pa_cons (pe_fld (pv 1) rfl) (pa_cons (pe_fld (pv 1) rfl) pa_nil))))), ?_⟩
  dsimp only [L2.tRet, L2.tRetN, tAndV, tOrV, tNotV, tCB, L2.tCons, L2.tNil, tC, tVar, L2.tOp, L2.tUn, tSeq, tAsg, gName, tIfS, tTest, tNext, tAnd, tOr, tNot, L2.tIf, tFld, sFld, sFldAug, tCall, tTup, tB, tAug, tDrop, L2.tSl, tPart, tNoPart, tBM, tBM0, tChain, gTup, gCons, gNil, tPar, tIs, List.set]
  refine ⟨_, rfl, v, t, rfl, im, ?_⟩
  cases r : check t with
  | ok S =>
    rw [r] at q
    intro H' F a at1
    refine ⟨_, rfl, F.c, C, F.dx, _, _, rfl, at1.c, Z.cl, Z.n1, get_trees, _, rfl, F.c, C, F.dx, _, _, rfl, at1.c, Z.cl, Z.n4, get_unf, (by show 2 ≤ sizeLine; decide), fun p np => ?_⟩
    exact q _ p (Ck.Same.new a np) upd_same
  | error path =>
    rw [r] at q
    exact q
/-! ### what is said -/
def spSaid (K : PySem.W.Frag) : Sp := fun vs H Q _ => ∃ v t, vs = [v] ∧ Im K H v t ∧ ∀ H' p, Same H H' → Im K H' (.ref p) (saidT (check t)) → Q (.ref p) H'
abbrev GCp (P : Program) (w : World) (K : PySem.W.Frag) (mg : Str → Option Value) (base : Heap) (IP : Addr) : Prop := Go P w K mg base (L2.CX P w) 87 "check_program" ["program"] (spCheckP K IP)
abbrev GSz (P : Program) (w : World) (K : PySem.W.Frag) (mg : Str → Option Value) (base : Heap) (IP : Addr) : Prop := Go P w K mg base (L2.CX P w) 87 "program_size" ["program"] (spSize K IP)
def tBody (K : PySem.W.Frag) (IP : Addr) : WX → TS := fun W => tSeq (tDrop (tCallS (spCheckP K IP) (WE W) (L2.tCons (tVar 0) L2.tNil))) (L2.tRet (tTup (L2.tCons (tC (.str "sizes")) (L2.tCons (tCallS (spSize K IP) (WE W) (L2.tCons (tVar 0) L2.tNil)) L2.tNil))))
def tSuite (IP : Addr) : Addr → Value → Option Addr → TS := fun a cls d => L2.tRet (tTup (L2.tCons (tC (.str "fault")) (L2.tCons (tXf a cls d IP "path" (tVar 1)) L2.tNil)))
theorem str_few {z : Str} (h : z.length ≤ 100) : z.length ≤ sizeLine := by rw [sizeLine_eq]; omega
theorem ok_said {f : Addr} {fd : FuncData} (F0 : Fun K "_law_said" "_law_said" sSaid f fd) (Z : Mc P K mg C IP fI) (GC : GCp P w K mg base IP) (GS : GSz P w K mg base IP) : FnOk P w K mg base CX0 88 f fd ["_law_plan"] (spSaid K) := by
  refine F0.ok scSaid (fun vs H Q E h => ?_) (fun cdv A outer s H vs Q E hr h => ?_)
  · obtain ⟨_, _, rfl, _⟩ := h
    rfl
  obtain ⟨v, t, rfl, im, q⟩ := h
  obtain ⟨f1, d1, F1, g1, k1, b1⟩ := GC.ex
  obtain ⟨f2, d2, F2, g2, k2, b2⟩ := GS.ex
  have XF : XfC K IP := ⟨Z.er.c.ga, Z.er.c.gg, Z.er.c.exC, Z.er.c.hdC⟩
  refine ⟨_, pss_one (ps_try_fst (i := 1) (tb := tBody K IP) (ts := tSuite IP) rfl rfl scSaid.nd rfl rfl ⟨rfl, by decide, .inl Z.er.c.gC⟩
    (fun W pn xe tk _ => pss_cons (ps_expr (pe_callS F1 hr rfl g1 k1 b1 (fun σ => passAt tk σ) (pa_cons (pv 0) pa_nil))) (pss_one (ps_ret (pe_tup (pa_cons pe_str (pa_cons (pe_callS F2 hr rfl g2 k2 b2 (fun σ => passAt tk σ) (pa_cons (pv 0) pa_nil)) pa_nil))))))
    (fun a oe cls d pn hz hf => pss_one (ps_ret (pe_tup (pa_cons pe_str (pa_cons (pe_xf XF Z.er.c.own.no hz hf (pv 1)) pa_nil)))))), ?_⟩
  dsimp only [L2.tRet, L2.tRetN, tAndV, tOrV, tNotV, tCB, L2.tCons, L2.tNil, tC, tVar, L2.tOp, L2.tUn, tSeq, tAsg, gName, tIfS, tTest, tNext, tAnd, tOr, tNot, L2.tIf, tFld, sFld, sFldAug, tCall, tTup, tB, tAug, tDrop, L2.tSl, tPart, tNoPart, tBM, tBM0, tChain, gTup, gCons, gNil, tPar, tIs, List.set, tBody, tSuite, tCallS, tXf, WE]
  refine ⟨_, rfl, v, t, rfl, im, ?_⟩
  cases r : check t with
  | ok S =>
    rw [r] at q
    intro H1 s1
    refine ⟨_, rfl, v, t, rfl, im.mono s1, ?_⟩
    rw [r]
    intro H2 p2 s2 h2
    refine ⟨(by show 2 ≤ sizeLine; decide), fun p np => ?_⟩
    have e2 : p2 ≠ p := ne_of_none h2 np
    refine q _ p (Ck.Same.new (s1.trans s2) np) (.tup upd_same (.cons (.str (str_few (by decide +kernel))) (.cons (.tup (by rw [upd_ne e2]; exact h2) (.cons (.int _) (.cons (.int _) .nil))) .nil)))
  | error path =>
    rw [r] at q
    intro H1 d p s1 hd hp
    refine ⟨Z.er.te, fun a na => ?_⟩
    refine ⟨_, rfl, rfl, rfl, d, _, _, rfl, hd, (by simp [List.lookup]; rfl), (by show 2 ≤ sizeLine; decide), fun p3 np => ?_⟩
    have e2 : p ≠ p3 := ne_of_none hp np
    exact q _ p3 (Ck.Same.new s1 np) (.tup upd_same (.cons (.str (str_few (by decide +kernel))) (.cons (.tup (by rw [upd_ne e2]; exact hp) (ims_ints path)) .nil)))
end
end Ck

/-! The draws. -/
namespace Ck
open PySem PySem.Spec PyProof.Rows L2
section
variable {P : Program} {w : World} {K : PySem.W.Frag} {mg : Str → Option Value} {base : Heap}
abbrev sMixed : Stmt := topS 49
abbrev sSource : Stmt := topS 50
abbrev sTake : Stmt := topS 51
abbrev NM : List Str := ["_law_cell", "_law_draw", "_law_figure"]
abbrev NO : List Str := ["_law_cell"]
abbrev NT : List Str := ["_law_source_here", "_law_bound", "_law_drawn"]
theorem scMx : FnScope NM ["_law_cell", "_law_draw"] (defScope sMixed) := ⟨rfl, rfl, rfl, by decide +kernel, rfl, by decide +kernel, by decide +kernel⟩
theorem scSo : FnScope NO ["_law_cell"] (defScope sSource) := ⟨rfl, rfl, rfl, by decide +kernel, rfl, by decide +kernel, by decide +kernel⟩
theorem scTk : FnScope NT ["_law_source_here", "_law_bound"] (defScope sTake) := ⟨rfl, rfl, rfl, by decide +kernel, rfl, by decide +kernel, by decide +kernel⟩
def rIn : List V → Hp → VK → Prop := fun xs H Q => (∃ i, xs = [.int i] ∧ Q (.int i) H) ∨ ∃ k, xs = [.bl k] ∧ Q (.int (if k then 1 else 0)) H
abbrev tInt (te : TE) : TE := tCB rIn (tCons te tNil)
abbrev rMo : R2 := rI (fun _ j => 0 < j) fun i j => .int (i % j)
abbrev rMu : R2 := rI CMul fun i j => .int (i * j)
abbrev rAd : R2 := rI0 fun i j => .int (i + j)
abbrev rSu : R2 := rI0 fun i j => .int (i - j)
abbrev rDi : R2 := rI CDivW fun i j => .int (i / j)
abbrev rPo : R2 := rI CPow fun i j => .int (i ^ j.toNat)
abbrev cI (i : Int) : TE := tC (.int i)
theorem pe_intc {X : Cx} {e : Expr} {te : TE} {p pos : Pos} (mi : X.mg "int" = none) (hg : Gl X "int") (he : PE X e te) (h1 : starEach [e] X.env = (false, eval e X.env) :: starEach [] X.env := by rfl) : PE X (.Call (.Name "int" p) [e] [] pos) (tInt te) :=
  pe_callTy call_int1 hg mi boot_int (pa_cons he pa_nil h1) (by decide) (by decide) h1
def spMixed : Sp := fun vs H Q _ => ∃ c d : Int, vs = [.int c, .int d] ∧ ∀ r : Int, Q (.int r) H
def tMixed : TS :=
  tSeq (tAsg (tOp rMo (tInt (tOp rMu (tOp rAd (tOp rMo (tInt (tVar 0)) (cI 2147483646)) (cI 1)) (tOp rAd (tOp rMu (tVar 1) (cI 7919)) (cI 104729)))) (cI 2147483647)) (gName 2))
  (tSeq (tAsg (tOp rMo (tInt (tOp rMu (tOp rAd (tVar 2) (tOp rMu (tOp rMo (tInt (tOp rDi (tVar 0) (cI 2147483646))) (cI 1000003)) (tOp rAd (tVar 1) (cI 31)))) (cI 48271))) (cI 2147483629)) (gName 2))
  (tSeq (tAsg (tOp rMo (tInt (tOp rMu (tVar 2) (tOp rAd (tOp rAd (tOp rDi (tVar 2) (cI 1013)) (cI 69621)) (tVar 1)))) (cI 2147483587)) (gName 2))
  (tRet (tOp rMo (tInt (tOp rMu (tVar 2) (tOp rAd (tOp rDi (tVar 2) (cI 2003)) (cI 40692)))) (cI 2147483563)))))
theorem mul_left {i j : Int} (h0 : 0 ≤ i) (h : i < 4294967296) : CMul i j := by
  left
  constructor <;> omega
theorem body_mixed (mi : mg "int" = none) (f : Addr) (cdv : Value) (A : Around) (outer : List Env) (st : Shared) (H : Hp) (E : XK) :
    PSs (cxOf CX0 P w K mg base NM "_law_mixed" (defScope sMixed) f cdv A outer st H E).nox (defBody sMixed) tMixed := by
  unfold tMixed
  refine pss_cons (ps_set (i := 2) scMx.nd rfl (.inl rfl) ?a) (pss_cons (ps_set (i := 2) scMx.nd rfl (.inl rfl) ?b) (pss_cons (ps_set (i := 2) scMx.nd rfl (.inl rfl) ?c) (pss_one (ps_ret ?d))))
  case a => exact pe_op op_mod (pe_intc mi rfl (pe_op op_mul (pe_op op_add (pe_op op_mod (pe_intc mi rfl (pv 0)) pe_int) pe_int) (pe_op op_add (pe_op op_mul (pv 1) pe_int) pe_int))) pe_int
  case b => exact pe_op op_mod (pe_intc mi rfl (pe_op op_mul (pe_op op_add (pv 2) (pe_op op_mul (pe_op op_mod (pe_intc mi rfl (pe_op op_fdivW (pv 0) pe_int)) pe_int) (pe_op op_add (pv 1) pe_int))) pe_int)) pe_int
  case c => exact pe_op op_mod (pe_intc mi rfl (pe_op op_mul (pv 2) (pe_op op_add (pe_op op_add (pe_op op_fdivW (pv 2) pe_int) pe_int) (pv 1)))) pe_int
  case d => exact pe_op op_mod (pe_intc mi rfl (pe_op op_mul (pv 2) (pe_op op_add (pe_op op_fdivW (pv 2) pe_int) pe_int))) pe_int
theorem wd {i j : Int} (h : 0 < j) (hb : j < 4294967296) : CDivW i j := wide_div (b := 32) h (by omega) (by decide) (by decide)
theorem pure_mixed (vs : List V) (H : Hp) (Q : VK) (E : XK) (h : spMixed vs H Q E) : tMixed { nx := fun _ H' => Q .non H', rt := Q } (L2.start NM vs) H := by
  obtain ⟨c, d, rfl, k⟩ := h
  unfold tMixed
  dsimp only [tSeq, tAsg, gName, tRet, L2.tOp, tInt, tCB, L2.tCons, L2.tNil, tVar, tC, cI]
  have m1 : ∀ (x m : Int), 0 < m → 0 ≤ x % m ∧ x % m < m := fun x m hm => ⟨Int.emod_nonneg _ (by omega), Int.emod_lt_of_pos _ hm⟩
  refine ⟨_, rfl, Or.inl ⟨_, rfl, _, _, rfl, rfl, (by show (0 : Int) < _; decide), _, _, rfl, rfl, _, rfl, _, _, rfl, rfl, (Or.inr ⟨by decide, by decide⟩), _, _, rfl, rfl, _, _, rfl, rfl, ?_, Or.inl ⟨_, rfl, _, _, rfl, rfl, (by show (0 : Int) < _; decide), ?_⟩⟩⟩
  · have z := m1 c 2147483646 (by decide)
    exact mul_left (by omega) (by omega)
  generalize hf : ((c % 2147483646 + 1) * (d * 7919 + 104729)) % 2147483647 = g1
  refine ⟨_, rfl, _, rfl, _, _, rfl, rfl, wd (by decide) (by decide), Or.inl ⟨_, rfl, _, _, rfl, rfl, (by show (0 : Int) < _; decide), _, rfl, _, _, rfl, rfl, _, _, rfl, rfl, ?_, _, _, rfl, rfl, _, _, rfl, rfl, (Or.inr ⟨by decide, by decide⟩), Or.inl ⟨_, rfl, _, _, rfl, rfl, (by show (0 : Int) < _; decide), ?_⟩⟩⟩
  · have z := m1 (c / 2147483646) 1000003 (by decide)
    exact mul_left (by omega) (by omega)
  generalize hg : ((g1 + c / 2147483646 % 1000003 * (d + 31)) * 48271) % 2147483629 = g2
  have b2 := m1 ((g1 + c / 2147483646 % 1000003 * (d + 31)) * 48271) 2147483629 (by decide)
  rw [hg] at b2
  refine ⟨_, rfl, _, rfl, _, _, rfl, rfl, wd (by decide) (by decide), _, _, rfl, rfl, _, rfl, _, _, rfl, rfl, _, _, rfl, rfl, mul_left (by omega) (by omega), Or.inl ⟨_, rfl, _, _, rfl, rfl, (by show (0 : Int) < _; decide), ?_⟩⟩
  generalize hh : (g2 * (g2 / 1013 + 69621 + d)) % 2147483587 = g3
  have b3 := m1 (g2 * (g2 / 1013 + 69621 + d)) 2147483587 (by decide)
  rw [hh] at b3
  exact ⟨_, rfl, _, rfl, _, _, rfl, rfl, wd (by decide) (by decide), _, _, rfl, rfl, _, _, rfl, rfl, mul_left (by omega) (by omega), Or.inl ⟨_, rfl, _, _, rfl, rfl, (by show (0 : Int) < _; decide), k _⟩⟩
theorem ok_mixed {f : Addr} {fd : FuncData} (F : Fun K "_law_mixed" "_law_mixed" sMixed f fd) (mi : mg "int" = none) : FnOk P w K mg base CX0 1 f fd ["_law_cell", "_law_draw"] spMixed := by
  refine F.ok scMx (fun vs H Q E h => ?_) (fun cdv A outer s H vs Q E hr h => ⟨tMixed, body_mixed mi f cdv A outer s H E, pure_mixed vs H Q E h⟩)
  obtain ⟨_, _, rfl, _⟩ := h
  rfl
def spSource : Sp := fun vs H Q _ => ∃ c : Int, vs = [.int c] ∧ ∀ p, H p = none → Q (.ref p) (upd H p (.lst [.int c, .int c, .int 0]))
def tSource : TS := tRet (tLst (tCons (tVar 0) (tCons (tVar 0) (tCons (cI 0) tNil))))
theorem ok_source {f : Addr} {fd : FuncData} (F : Fun K "_law_source" "_law_source" sSource f fd) : FnOk P w K mg base CX0 1 f fd ["_law_cell"] spSource := by
  refine F.ok scSo (fun vs H Q E h => ?_) (fun cdv A outer s H vs Q E hr h => ⟨tSource, pss_one (ps_ret (pe_lst (pa_cons (pv 0) (pa_cons (pv 0) (pa_cons pe_int pa_nil))))), ?_⟩)
  · obtain ⟨_, rfl, _⟩ := h
    rfl
  · obtain ⟨c, rfl, k⟩ := h
    exact ⟨_, rfl, _, rfl, (show 3 ≤ sizeLine by rw [sizeLine_eq]; decide), k⟩
def spTake : Sp := fun vs H Q _ => ∃ (l : Addr) (a c n b : Int), vs = [.ref l, .int b] ∧ 0 < b ∧ b < 4294967296 ∧ H l = some (.lst [.int a, .int c, .int n]) ∧ ∀ r a' n' : Int, 0 ≤ r → r < b → Q (.int r) (upd H l (.lst [.int a', .int c, .int n']))
abbrev tAt (K : PySem.W.Frag) (i : Int) : TE := tOp (rIxL K) (tVar 0) (cI i)
def tTake (K : PySem.W.Frag) : TS :=
  tSeq (tIfS (tTest (tOp (rI0 fun i j => .bl (decide (j ≤ i))) (tAt K 0) (tOp rPo (cI 10) (cI 18))))
    (tSeq (tAsg (tOp rMo (tInt (tAt K 0)) (tVar 1)) (gName 2)) (tSeq (tAsg (tOp rDi (tAt K 0) (tVar 1)) (gSub (tVar 0) (cI 0) rSetL)) (tRet (tVar 2)))) tNext)
  (tSeq (tAsg (tOp rAd (tAt K 2) (cI 1)) (gSub (tVar 0) (cI 2) rSetL))
  (tRet (tOp rMo (tInt (tCall spMixed [] (fun _ _ _ => False) (tCons (tAt K 1) (tCons (tAt K 2) tNil)))) (tVar 1))))
theorem body_take {fM : Addr} {fdM : FuncData} (FM : FnOk P w K mg base CX0 1 fM fdM ["_law_cell", "_law_draw"] spMixed) (gM : mg "_law_mixed" = some (.ref fM)) (kM : PySem.W.keepIn K (.ref fM) = true) (bM : Binds K fdM ["_law_cell", "_law_draw"] []) (mi : mg "int" = none)
    (f : Addr) (cdv : Value) (A : Around) (outer : List Env) (st : Shared) (H : Hp) (E : XK) (hr : Room 1 (A.deeper (envOfC "_law_take" (defScope sTake) st.heap.objs.size f cdv))) :
    PSs (cxOf CX0 P w K mg base NT "_law_take" (defScope sTake) f cdv A outer st H E).nox (defBody sTake) (tTake K) := by
  unfold tTake
  refine pss_cons (ps_if (pt_cmpR op_ge (pe_ix ix_list (pv 0) pe_int fun _ _ => rfl) (pe_op op_pow pe_int pe_int) rfl) ?t pss_nil) (pss_cons (ps_asg (pe_op op_add (pe_ix ix_list (pv 0) pe_int fun _ _ => rfl) pe_int) (pg_sub (pv 0) pe_int set_list)) (pss_one (ps_ret ?r)))
  case t => exact pss_cons (ps_set (i := 2) scTk.nd rfl (.inl rfl) (pe_op op_mod (pe_intc mi rfl (pe_ix ix_list (pv 0) pe_int fun _ _ => rfl)) (pv 1))) (pss_cons (ps_asg (pe_op op_fdivW (pe_ix ix_list (pv 0) pe_int fun _ _ => rfl) (pv 1)) (pg_sub (pv 0) pe_int set_list)) (pss_one (ps_ret (pv 2))))
  case r => exact pe_op op_mod (pe_intc mi rfl (pe_call FM hr rfl gM kM bM .nil pass0 (pa_cons (pe_ix ix_list (pv 0) pe_int fun _ _ => rfl) (pa_cons (pe_ix ix_list (pv 0) pe_int fun _ _ => rfl) pa_nil)))) (pv 1)
theorem pure_take (vs : List V) (H : Hp) (Q : VK) (E : XK) (h : spTake vs H Q E) : tTake K { nx := fun _ H' => Q .non H', rt := Q } (L2.start NT vs) H := by
  obtain ⟨l, a, c, n, b, rfl, b0, b1, hl, k⟩ := h
  unfold tTake
  have sq : SqL K H l [.int a, .int c, .int n] := Or.inl (Or.inl hl)
  have m1 : ∀ x : Int, 0 ≤ x % b ∧ x % b < b := fun x => ⟨Int.emod_nonneg _ (by omega), Int.emod_lt_of_pos _ b0⟩
  refine ⟨_, rfl, l, _, _, _, rfl, rfl, sq, rfl, _, _, rfl, rfl, ⟨by decide, by decide, by decide⟩, _, _, rfl, rfl, _, rfl, ?_⟩
  by_cases big : (10 : Int) ^ (18 : Int).toNat ≤ a
  · refine if_yes (decide_eq_true big) ?_
    refine ⟨_, rfl, l, _, _, _, rfl, rfl, sq, rfl, Or.inl ⟨_, rfl, _, rfl, _, _, rfl, rfl, (by show (0 : Int) < _; exact b0), ?_⟩⟩
    refine ⟨_, rfl, l, _, _, _, rfl, rfl, sq, rfl, _, rfl, _, _, rfl, rfl, wd b0 b1, ?_⟩
    refine ⟨_, rfl, l, _, _, _, rfl, rfl, hl, rfl, ?_⟩
    exact ⟨_, rfl, k _ _ _ (m1 a).1 (m1 a).2⟩
  · refine if_no (decide_eq_false big) ?_
    refine ⟨_, rfl, l, _, _, _, rfl, rfl, sq, rfl, _, _, rfl, rfl, ?_⟩
    refine ⟨_, rfl, l, _, _, _, rfl, rfl, hl, rfl, ?_⟩
    have sq2 : SqL K (upd H l (.lst ([V.int a, .int c, .int n].set 2 (.int (n + 1))))) l [.int a, .int c, .int (n + 1)] := Or.inl (Or.inl upd_same)
    refine ⟨_, rfl, l, _, _, _, rfl, rfl, sq2, rfl, _, rfl, l, _, _, _, rfl, rfl, sq2, rfl, c, n + 1, rfl, fun r => ?_⟩
    exact Or.inl ⟨_, rfl, _, rfl, _, _, rfl, rfl, (by show (0 : Int) < _; exact b0), k _ _ _ (m1 r).1 (m1 r).2⟩
theorem ok_take {f fM : Addr} {fd fdM : FuncData} (F : Fun K "_law_take" "_law_take" sTake f fd) (FM : FnOk P w K mg base CX0 1 fM fdM ["_law_cell", "_law_draw"] spMixed) (gM : mg "_law_mixed" = some (.ref fM)) (kM : PySem.W.keepIn K (.ref fM) = true) (bM : Binds K fdM ["_law_cell", "_law_draw"] []) (mi : mg "int" = none) :
    FnOk P w K mg base CX0 2 f fd ["_law_source_here", "_law_bound"] spTake := by
  refine F.ok scTk (fun vs H Q E h => ?_) (fun cdv A outer s H vs Q E hr h => ⟨tTake K, body_take FM gM kM bM mi f cdv A outer s H E hr, pure_take vs H Q E h⟩)
  obtain ⟨_, _, _, _, _, rfl, _⟩ := h
  rfl

end
end Ck

/-! A tuple, times any small number: none, one and the same, many. -/
namespace L2
open PySem PySem.Spec PyProof.Rows
theorem tuple_once (l : Addr) (its : Array Value) (n : Nat) (dd : Option Addr) (sl : Array (Option Value)) (u : Tok) :
    Meets (Builtin.«tuple.__mul__» ⟨[.ref l, .int 1 u], []⟩) (fun _ R s => s.heap.get? l = some { cls := .type "tuple", dict := dd, data := .seq its n, slots := sl } ∧ R (.ok (.ret (Value.ref l))) s) :=
  .of_wp fun prog w A R s h => by
    obtain ⟨hp, g, d, tk, os⟩ := s
    obtain ⟨at0, h⟩ := h
    have f1 := AutoSeq1.idx_int
    wp_walk using wpAny_loadPart' at0
    exact ⟨_, rfl, h⟩
theorem tuple_never (l : Addr) (its : Array Value) (n : Nat) (dd : Option Addr) (sl : Array (Option Value)) (u : Tok) (ne : its.isEmpty = false) :
    Meets (Builtin.«tuple.__mul__» ⟨[.ref l, .int 0 u], []⟩) (fun _ R s => s.heap.get? l = some { cls := .type "tuple", dict := dd, data := .seq its n, slots := sl } ∧ R (.ok (.ret (Value.ref s.heap.objs.size))) { s with heap := s.heap.push { cls := Value.type "tuple", data := Data.seq #[] }, toks := s.toks }) :=
  .of_wp fun prog w A R s h => by
    obtain ⟨hp, g, d, tk, os⟩ := s
    obtain ⟨at0, h⟩ := h
    have f1 := AutoSeq1.idx_int
    wp_walk using wpAny_loadPart' at0
    exact ⟨_, rfl, h⟩
/-- t * k, k from 0 on -/
def rRepA (K : PySem.W.Frag) : R2 := fun x y H Q => ∃ l k xs, x = .ref l ∧ y = .int k ∧ SqT K H l xs ∧ xs ≠ [] ∧ 0 ≤ k ∧ k ≤ 10000 ∧ xs.length ≤ 100 ∧ (k = 1 → Q (.ref l) H) ∧ (k ≠ 1 → ∀ p, H p = none → Q (.ref p) (upd H p (.tup (List.replicate k.toNat xs).flatten)))
section
variable {X : Cx}
theorem op_repA : OpR X (binaryOp .Mult) (rRepA X.K) := by
  intro pins s σ H x y v u Q I rx ry h
  obtain ⟨l, k, xs, rfl, rfl, hT, hne, k0, kb, xb, q1, q2⟩ := h
  cases rx
  obtain ⟨t, rfl⟩ := ry
  obtain ⟨its, r, ⟨⟨cls, dd, data, sl⟩, ho, hc, n, hd⟩, hs⟩ := I.tuple hT
  simp only at hc hd
  subst hc hd
  have le : its.length = xs.length := r.length.symm
  have ne : its.toArray.isEmpty = false := by
    cases its with
    | nil => exact absurd (List.eq_nil_of_length_eq_zero le.symm) hne
    | cons a b => rfl
  have s0 : its.toArray.size = xs.length := by rw [List.size_toArray, le]
  have room : k.toNat * xs.length ≤ 10000 * 100 := Nat.mul_le_mul (by omega) xb
  have lm : (List.replicate k.toNat its).flatten.length ≤ sizeLine := by
    rw [PyProof.Rows.lm_len_rep_flat, le, sizeLine_eq]
    omega
  refine wpAny_binaryOp_repeat_ref (T := "tuple") (U := "int") (by decide) ⟨_, ho, rfl⟩ (fun s' => typeIs_int s' k t) noFill_tuple_mul F.fills_int_mul F.slot_int_rmul repeat_tuple F.slot_int_index.lookup
    (call_meets F.slot_int_rmul (typeIs_int s k t) F.entry_int_rmul (F.args_int_rmul_2 _ _) (int_rmul_tuple k t l its.toArray n dd sl) ⟨ho, rfl, ⟨_, ho, rfl⟩, ?_⟩)
  by_cases c1 : k = 1
  · subst c1
    exact call_meets F.slot_tuple_mul ⟨_, ho, rfl⟩ F.entry_tuple_mul (F.args_tuple_mul_2 _ _) (tuple_once l its.toArray n dd sl t) ⟨ho, ⟨.ref l, H, I, rfl, q1 rfl⟩⟩
  have new : ∀ (zs : List V) (ws : List Value), Vals zs ws → zs.length ≤ sizeLine → (∀ p, H p = none → Q (.ref p) (upd H p (.tup zs))) →
      EP X pins σ Q (.ref s.heap.objs.size) { s with heap := s.heap.push { cls := .type "tuple", data := .seq ws.toArray }, toks := s.toks } := fun zs ws rz lz q =>
    ⟨.ref s.heap.objs.size, _, I.laid (t' := s.toks) (o := .tup zs) (fun b ob y => Heap.get?_push_of_some _ y) (Nat.le_refl _) ⟨lz, _, rz, IsTup.new _ _⟩, rfl, q _ (I.hok.fresh (Nat.le_refl _))⟩
  by_cases c0 : k = 0
  · subst c0
    exact call_meets F.slot_tuple_mul ⟨_, ho, rfl⟩ F.entry_tuple_mul (F.args_tuple_mul_2 _ _) (tuple_never l its.toArray n dd sl t ne) ⟨ho, new [] [] .nil (Nat.zero_le _) (q2 (by decide))⟩
  have big : ((its.toArray.size : Nat) : Int) * k ≤ 1000000 := by
    rw [s0]
    have z : ((k.toNat * xs.length : Nat) : Int) ≤ ((10000 * 100 : Nat) : Int) := Int.ofNat_le.mpr room
    rw [Int.natCast_mul, Int.toNat_of_nonneg k0, Int.mul_comm] at z
    omega
  refine call_meets F.slot_tuple_mul ⟨_, ho, rfl⟩ F.entry_tuple_mul (F.args_tuple_mul_2 _ _) (tuple_mulW l its.toArray n dd sl k t ?_ ?_ ?_ (by omega) ?_ (by rw [size_rep, List.size_toArray]; exact lm)) ⟨ho, ?_⟩
  · rw [decide_eq_false (by omega), decide_eq_false (by omega)] <;> rfl
  · rw [ne, Bool.false_or]
    exact beq_eq_false_iff_ne.mpr c1
  · rw [ne, Bool.or_false]
    exact decide_eq_false (by omega)
  · unfold Builtin.Tuple.tupleTooMany
    rw [sizeLine_eq]
    exact decide_eq_false (by omega)
  · rw [size_rep]
    exact new _ _ (r.rep k.toNat) (by rw [PyProof.Rows.lm_len_rep_flat, sizeLine_eq]; omega) (q2 c1)
end
end L2

/-! What the check says of the law's own programs. -/
namespace Ck
open PySem L2
abbrev Ins := CS → List T → Int → R
/-- a tree without trees in it, of size 1 -/
def Leaf (f : Ins) (t : T) : Prop := ∀ S p, ∃ c, one f S p t = .ok (1, { S with cmds := c })
theorem many_leaves {f : Ins} : ∀ (ts : List T) (S : CS) (rest : List T) (p i : Int), (∀ t ∈ ts, Leaf f t) → S.trees + ts.length ≤ 3000 → ∃ c, many (one f) S (ts ++ rest) p i = many (one f) { S with cmds := c, trees := S.trees + ts.length } rest (p + ts.length) (i + ts.length)
  | [], S, rest, p, i, _, _ => ⟨S.cmds, by simp⟩
  | t :: ts, S, rest, p, i, h, fit => by
    have l : ((t :: ts).length : Int) = ts.length + 1 := by simp
    rw [l] at fit ⊢
    obtain ⟨c, e⟩ := h t List.mem_cons_self { S with trees := S.trees + 1 } p
    have ne : ¬ S.trees = 3000 := by omega
    obtain ⟨c2, e2⟩ := many_leaves ts { S with trees := S.trees + 1, cmds := c } rest (p + 1) (i + 1) (fun x hx => h x (List.mem_cons_of_mem _ hx)) (by show S.trees + 1 + ts.length ≤ 3000; omega)
    refine ⟨c2, ?_⟩
    rw [List.cons_append, many, if_neg ne, e]
    show (if (1 : Int) = 0 then _ else _) = _
    rw [if_neg (by decide), e2]
    have a1 : S.trees + 1 + (ts.length : Int) = S.trees + (ts.length + 1) := by omega
    have a2 : p + 1 + (ts.length : Int) = p + (ts.length + 1) := by omega
    have a3 : i + 1 + (ts.length : Int) = i + (ts.length + 1) := by omega
    rw [a2, a3]
    show many (one f) { S with cmds := c2, trees := S.trees + 1 + (ts.length : Int) } _ _ _ = _
    rw [a1]
theorem many_over {f : Ins} : ∀ (ts : List T) (S : CS) (rest : List T) (p i : Int), (∀ t ∈ ts, Leaf f t) → S.trees ≤ 3000 → 3000 < S.trees + ts.length → many (one f) S (ts ++ rest) p i = .error []
  | [], S, rest, p, i, _, h1, h2 => by
    simp at h2
    omega
  | t :: ts, S, rest, p, i, h, h1, h2 => by
    have l : ((t :: ts).length : Int) = ts.length + 1 := by simp
    rw [l] at h2
    rw [List.cons_append, many]
    by_cases c : S.trees = 3000
    · rw [if_pos c]
    · rw [if_neg c]
      obtain ⟨c, e⟩ := h t List.mem_cons_self { S with trees := S.trees + 1 } p
      rw [e]
      show (if (1 : Int) = 0 then _ else _) = _
      rw [if_neg (by decide)]
      exact many_over ts _ rest _ _ (fun x hx => h x (List.mem_cons_of_mem _ hx)) (by show S.trees + 1 ≤ 3000; omega) (by show 3000 < S.trees + 1 + (ts.length : Int); omega)
theorem many_nil {f : CS → Int → T → R} (S : CS) (p i : Int) : many f S [] p i = .ok (i, S) := by rw [many]
/-- a thing that is no tree -/
def Bad (f : Ins) (t : T) : Prop := ∀ S p, ∃ S', one f S p t = .ok (0, S') ∧ S'.places = S.places
theorem many_bad {f : Ins} {t : T} (h : Bad f t) {S : CS} (fit : S.trees < 3000) (rest : List T) (p i : Int) : many (one f) S (t :: rest) p i = .error (S.places ++ [p]) := by
  obtain ⟨S', e, pl⟩ := h { S with trees := S.trees + 1 } p
  rw [many, if_neg (by omega), e]
  show (if (0 : Int) = 0 then _ else _) = _
  rw [if_pos rfl, pl]
theorem many_full {f : CS → Int → T → R} {t : T} {S : CS} (full : S.trees = 3000) (rest : List T) (p i : Int) : many f S (t :: rest) p i = .error [] := by rw [many, if_pos full]
/-- one tree after another -/
theorem many_one {f : CS → Int → T → R} {t : T} {S S' : CS} {j : Int} {p i : Int} (fit : S.trees < 3000) (e : f { S with trees := S.trees + 1 } p t = .ok (j, S')) (pos : j ≠ 0) (rest : List T) : many f S (t :: rest) p i = many f S' rest (p + 1) (i + j) := by
  rw [many, if_neg (by omega), e]
  show (if j = 0 then _ else _) = _
  rw [if_neg pos]
theorem many_err {f : CS → Int → T → R} {t : T} {S : CS} {e : List Int} {p i : Int} (fit : S.trees < 3000) (h : f { S with trees := S.trees + 1 } p t = .error e) (rest : List T) : many f S (t :: rest) p i = .error e := by
  rw [many, if_neg (by omega), h]
theorem into_in {g : CS → List T → Int → Int → R} {S : CS} (h : S.places.length < 59) (ps : List T) (p : Int) : into g S ps p = behind (fun S' => { S' with places := S'.places.dropLast }) (g { S with places := S.places ++ [p] } ps 0 0) := by
  unfold into
  rw [if_neg (by omega)]
theorem into_out {g : CS → List T → Int → Int → R} {S : CS} (h : S.places.length = 59) (ps : List T) (p : Int) : into g S ps p = .error (if S.trees = 3000 then [] else S.places ++ [p] ++ [0]) := by
  unfold into
  rw [if_pos (by omega)]
/-! ### leaves -/
theorem name_a : nameOk "a" = true := by decide +kernel
abbrev rA : T := .tup [.str "run", .str "a"]
theorem new_true {ns : List Str} {z : Str} (h : nameOk z = true) : (newName ns (.str z)).1 = true := by
  show (if ns.contains z = true then (true, ns) else if nameOk z = true then (true, ns ++ [z]) else (false, ns)).1 = true
  split
  · rfl
  · first
    | rfl
    | rw [if_pos h]
theorem kind_run : kindOf "run" = some .run := by decide +kernel
theorem kind_status : kindOf "status" = some .status := by decide +kernel
theorem kind_seq : kindOf "seq" = some .seq := by decide +kernel
theorem kind_not : kindOf "not" = some .not := by decide +kernel
theorem kind_and : kindOf "and" = some .andor := by decide +kernel
theorem kind_sub : kindOf "sub" = some .sub := by decide +kernel
theorem kind_pipe : kindOf "pipe" = some .pipe := by decide +kernel
theorem kind_times : kindOf "times" = some .times := by decide +kernel
theorem kind_call : kindOf "call" = some .call := by decide +kernel
theorem kind_give : kindOf "give" = some .var := by decide +kernel
theorem kind_zero : kindOf "zero" = some .var := by decide +kernel
theorem kind_keep : kindOf "keep" = some .var := by decide +kernel
theorem one_kind {f : Ins} {S : CS} {p : Int} {z : Str} {k : Kind} (ds : List T) (h : kindOf z = some k) : one f S p (.tup (.str z :: ds)) = act f k S (.str z :: ds) p := by
  show (match kindOf z with | some k => _ | none => _) = _
  rw [h]
theorem leaf_run {f : Ins} {z : Str} (h : nameOk z = true) : Leaf f (.tup [.str "run", .str z]) := fun S p => by
  refine ⟨(newName S.cmds (.str z)).2, (one_kind _ kind_run).trans ?_⟩
  show (.ok (b2 (newName S.cmds (.str z)).1, _) : R) = _
  rw [new_true h]
  rfl
theorem leaf_status {f : Ins} {i : Int} (h0 : 0 ≤ i) (h : i ≤ 255) : Leaf f (.tup [.str "status", .int i]) := fun S p => by
  refine ⟨S.cmds, (one_kind _ kind_status).trans ?_⟩
  show (.ok (b2 (decide (0 ≤ i) && decide (i ≤ 255)), S) : R) = _
  rw [decide_eq_true h0, decide_eq_true h]
  rfl
theorem bad_run {f : Ins} : Bad f (.tup [.str "run", .int 5]) := fun S p => ⟨_, one_kind _ kind_run, rfl⟩
theorem bad_non {f : Ins} : Bad f .non := fun S p => ⟨_, rfl, rfl⟩
/-! ### lists -/
theorem seq_is {f : Ins} {S : CS} {p : Int} {ps : List T} (h : 2 ≤ ps.length) : one f S p (.tup [.str "seq", .tup ps]) = inc (f S ps p) := by
  rw [one_kind _ kind_seq]
  show (if 2 ≤ ps.length then _ else _) = _
  rw [if_pos h]
/-- a list of leaves that fits -/
theorem seq_leaves {n : Nat} {S : CS} {p : Int} {ps : List T} (h : 2 ≤ ps.length) (lv : S.places.length < 59) (hl : ∀ f, ∀ t ∈ ps, Leaf f t) (fit : S.trees + ps.length ≤ 3000) : ∃ c, one (ins (n + 1)) S p (.tup [.str "seq", .tup ps]) = .ok (1 + ps.length, { S with cmds := c, trees := S.trees + ps.length }) := by
  obtain ⟨c, e⟩ := many_leaves (f := ins n) ps { S with places := S.places ++ [p] } [] 0 0 (hl _) fit
  rw [List.append_nil, many_nil] at e
  refine ⟨c, ?_⟩
  rw [seq_is h]
  show inc (into (all n) S ps p) = _
  rw [into_in lv, all_eq, e]
  show (.ok (1 + (0 + (ps.length : Int)), { S with cmds := c, trees := S.trees + (ps.length : Int), places := (S.places ++ [p]).dropLast }) : R) = _
  rw [List.dropLast_concat, Int.zero_add]
theorem seq_over {n : Nat} {S : CS} {p : Int} {ps : List T} (h : 2 ≤ ps.length) (lv : S.places.length < 59) (hl : ∀ f, ∀ t ∈ ps, Leaf f t) (le : S.trees ≤ 3000) (over : 3000 < S.trees + ps.length) : one (ins (n + 1)) S p (.tup [.str "seq", .tup ps]) = .error [] := by
  rw [seq_is h]
  show inc (into (all n) S ps p) = _
  have e := many_over (f := ins n) ps { S with places := S.places ++ [p] } [] 0 0 (hl _) le over
  rw [List.append_nil] at e
  rw [into_in lv, all_eq, e]
  rfl
/-! ### whole programs -/
/-- main alone -/
theorem check_main {m : T} {j : Int} {S : CS} (e : one (ins 59) { start with rets := false, trees := 1 } (-1) m = .ok (j, S)) (j0 : j ≠ 0) (v : S.vars.length ≤ 40) (b : j ≤ 3000) : check (.tup [.tup [], m]) = .ok { S with unf := j } := by
  rw [check_tup, if_pos (by decide), entries_nil]
  show (match all 59 { start with rets := false } [m] (-1) 0 with
    | .error e => (.error e : Except (List Int) CS)
    | .ok (i, S') => if 40 < S'.vars.length ∨ 3000 < i then .error [] else .ok { S' with unf := i }) = _
  rw [all_eq, many_one (S' := S) (j := j) (by decide) e j0, many_nil]
  show (if 40 < S.vars.length ∨ 3000 < 0 + j then _ else _) = _
  rw [Int.zero_add, if_neg (by omega)]
theorem check_large {m : T} {j : Int} {S : CS} (e : one (ins 59) { start with rets := false, trees := 1 } (-1) m = .ok (j, S)) (j0 : j ≠ 0) (b : 40 < S.vars.length ∨ 3000 < j) : check (.tup [.tup [], m]) = .error [] := by
  rw [check_tup, if_pos (by decide), entries_nil]
  show (match all 59 { start with rets := false } [m] (-1) 0 with
    | .error e => (.error e : Except (List Int) CS)
    | .ok (i, S') => if 40 < S'.vars.length ∨ 3000 < i then .error [] else .ok { S' with unf := i }) = _
  rw [all_eq, many_one (S' := S) (j := j) (by decide) e j0, many_nil]
  show (if 40 < S.vars.length ∨ 3000 < 0 + j then _ else _) = _
  rw [Int.zero_add, if_pos b]
theorem check_error {m : T} {e : List Int} (h : one (ins 59) { start with rets := false, trees := 1 } (-1) m = .error e) : check (.tup [.tup [], m]) = .error e := by
  rw [check_tup, if_pos (by decide), entries_nil]
  show (match all 59 { start with rets := false } [m] (-1) 0 with
    | .error e => (.error e : Except (List Int) CS)
    | .ok (i, S') => if 40 < S'.vars.length ∨ 3000 < i then .error [] else .ok { S' with unf := i }) = _
  rw [all_eq, many_err (by decide) h]
end Ck

/-! What is said of each of the law's programs. -/
namespace Ck
open PySem L2
def szT (a b : Int) : T := .tup [.str "sizes", .tup [.int a, .int b]]
def flT (e : List Int) : T := .tup [.str "fault", .tup (e.map T.int)]
def isErr (e : List Int) : Except (List Int) CS → Bool
  | .error p => decide (p = e)
  | _ => false
def isSz (a b : Int) : Except (List Int) CS → Bool
  | .ok S => decide (S.trees = a) && decide (S.unf = b)
  | _ => false
theorem said_err {e : List Int} {r : Except (List Int) CS} (h : isErr e r = true) : saidT r = flT e := by
  cases r with
  | error p => have z := of_decide_eq_true (p := p = e) h; subst z; rfl
  | ok S => exact absurd h (by intro z; cases z)
theorem said_sz {a b : Int} {r : Except (List Int) CS} (h : isSz a b r = true) : saidT r = szT a b := by
  cases r with
  | error p => exact absurd h (by intro z; cases z)
  | ok S =>
    have z := Bool.and_eq_true _ _ ▸ h
    have z1 := of_decide_eq_true z.1
    have z2 := of_decide_eq_true z.2
    show T.tup [.str "sizes", .tup [.int S.trees, .int S.unf]] = _
    rw [z1, z2]
    rfl
abbrev said (t : T) : T := saidT (check t)
abbrev prog (fs : List T) (m : T) : T := .tup [.tup fs, m]
abbrev sq (ts : List T) : T := .tup [.str "seq", .tup ts]
abbrev un (z : Str) (t : T) : T := .tup [.str z, t]
abbrev r5 : T := .tup [.str "run", .int 5]
abbrev st (i : Int) : T := .tup [.str "status", .int i]
abbrev S1 : CS := { start with rets := false, trees := 1 }
/-! ### many runs -/
theorem leaf_rep {f : Ins} {M : Nat} : ∀ t ∈ List.replicate M rA, Leaf f t := fun t h => by
  rw [List.eq_of_mem_replicate h]
  exact leaf_run name_a
theorem said_seq {M : Nat} (h2 : 2 ≤ M) (h : M < 3000) : said (prog [] (sq (List.replicate M rA))) = szT (M + 1) (M + 1) := by
  obtain ⟨c, e⟩ := seq_leaves (n := 58) (S := S1) (p := -1) (ps := List.replicate M rA) (by rw [List.length_replicate]; exact h2) (by decide) (fun f => leaf_rep) (by rw [List.length_replicate]; show (1 : Int) + M ≤ 3000; omega)
  rw [List.length_replicate] at e
  show saidT (check _) = _
  rw [check_main e (by omega) (by show (0 : Nat) ≤ 40; decide) (by omega)]
  show T.tup [.str "sizes", .tup [.int (1 + (M : Int)), .int (1 + (M : Int))]] = _
  rw [Int.add_comm 1]
  rfl
theorem said_seq_over {M : Nat} (h : 3000 ≤ M) : said (prog [] (sq (List.replicate M rA))) = flT [] := by
  have e := seq_over (n := 58) (S := S1) (p := -1) (ps := List.replicate M rA) (by rw [List.length_replicate]; omega) (by decide) (fun f => leaf_rep) (by decide) (by rw [List.length_replicate]; show (3000 : Int) < 1 + M; omega)
  show saidT (check _) = _
  rw [check_error e]
  rfl
theorem set_rep {M at' : Nat} (h : at' < M) (x y : T) : (List.replicate M x).set at' y = List.replicate at' x ++ y :: List.replicate (M - at' - 1) x := by
  have e : M = at' + (1 + (M - at' - 1)) := by omega
  conv => lhs; rw [e]
  rw [← List.replicate_append_replicate, List.set_append_right _ _ (by rw [List.length_replicate]; exact Nat.le_refl _), List.length_replicate, Nat.sub_self, ← List.replicate_append_replicate]
  rfl
theorem said_set {M at' : Nat} (h2 : 2 ≤ M) (h : at' < M) (hM : M ≤ 3000) : said (prog [] (sq ((List.replicate M rA).set at' r5))) = flT (if at' < 2999 then [-1, (at' : Int)] else []) := by
  show saidT (check _) = _
  have len : ((List.replicate M rA).set at' r5).length = M := by rw [List.length_set, List.length_replicate]
  have e : one (ins 59) S1 (-1) (sq ((List.replicate M rA).set at' r5)) = .error (if at' < 2999 then [-1, (at' : Int)] else []) := by
    rw [seq_is (by rw [len]; exact h2)]
    show inc (into (all 58) S1 _ (-1)) = _
    rw [into_in (by decide), all_eq, set_rep h]
    obtain ⟨c, e⟩ := many_leaves (f := ins 58) (List.replicate at' rA) { S1 with places := S1.places ++ [-1] } (r5 :: List.replicate (M - at' - 1) rA) 0 0 leaf_rep (by rw [List.length_replicate]; show (1 : Int) + at' ≤ 3000; omega)
    rw [e, List.length_replicate]
    split
    · rw [many_bad bad_run (by show (1 : Int) + at' < 3000; omega)]
      show (Except.error [-1, 0 + (at' : Int)] : R) = _
      rw [Int.zero_add]
    · rw [many_full (by show (1 : Int) + at' = 3000; omega)]
      rfl
  rw [check_error e]
  split <;> rfl
abbrev half : T := sq (List.replicate 1499 rA)
def eachOk (l : List (Bool)) : Bool := l.all id
theorem said_half : said (prog [un "f" half] half) = szT 3000 1500 := said_sz (by decide +kernel)
theorem said_half_not : said (prog [un "f" half] (un "not" half)) = flT [] := said_err (by decide +kernel)
/-! ### deep ones -/
def pile (z : Str) : Nat → T → T
  | 0, t => t
  | n + 1, t => un z (pile z n t)
def sh : Nat → T
  | 0 => rA
  | n + 1 => .tup [.str "and", sh n, sh n]
abbrev sharp : T := pile "not" 59 rA
abbrev zeros (n : Nat) : List Int := List.replicate n 0
theorem said_sharp : said (prog [] sharp) = szT 60 60 := said_sz (by decide +kernel)
theorem said_sub_sharp : said (prog [] (un "sub" sharp)) = flT (-1 :: zeros 60) := said_err (by decide +kernel)
theorem said_f_sharp : said (prog [un "f" (un "sub" sharp)] .non) = flT (0 :: zeros 60) := said_err (by decide +kernel)
theorem said_tall : said (prog [] (pile "sub" 1200 rA)) = flT (-1 :: zeros 60) := said_err (by decide +kernel)
abbrev deep (k : Nat) : T := un "pipe" (.tup (List.replicate k (st 0) ++ [un "not" sharp] ++ [r5, r5]))
theorem said_deep {k : Nat} (h : k < 3) : said (prog [] (deep k)) = flT (-1 :: (k : Int) :: zeros 59) := said_err (by
  have z : ∀ k : Fin 3, isErr (-1 :: ((k : Nat) : Int) :: zeros 59) (check (prog [] (deep k))) = true := by decide +kernel
  exact z ⟨k, h⟩)
theorem and_is {f : Ins} {S : CS} {p : Int} {a b : T} : one f S p (.tup [.str "and", a, b]) = inc (f S [a, b] p) := one_kind _ kind_and
def sz : Nat → Nat
  | 0 => 1
  | n + 1 => 1 + sz n + sz n
theorem shared_said : ∀ (k n : Nat) (S : CS) (p : Int), k ≤ n → S.places.length + k ≤ 59 → S.trees ≤ 3000 →
    (S.trees + sz k ≤ 3001 → ∃ c, one (ins n) S p (sh k) = .ok ((sz k : Int), { S with cmds := c, trees := S.trees + sz k - 1 })) ∧ (3001 < S.trees + sz k → one (ins n) S p (sh k) = .error [])
  | 0, n, S, p, _, _, lt => by
    have ez : (sz 0 : Int) = 1 := rfl
    rw [ez]
    constructor
    · intro _
      obtain ⟨c, e⟩ := leaf_run (f := ins n) name_a S p
      refine ⟨c, ?_⟩
      show one (ins n) S p rA = _
      rw [e]
      have a1 : S.trees + 1 - 1 = S.trees := by omega
      rw [a1]
    · intro z
      omega
  | k + 1, 0, S, p, h, _, _ => absurd h (by omega)
  | k + 1, n + 1, S, p, hk, hp, lt => by
    have ez : (sz (k + 1) : Int) = 1 + sz k + sz k := by
      show ((1 + sz k + sz k : Nat) : Int) = _
      omega
    have sp : (1 : Int) ≤ sz k := by
      cases k with
      | zero => exact Int.le_refl _
      | succ m =>
        show (1 : Int) ≤ ((1 + sz m + sz m : Nat) : Int)
        omega
    rw [ez]
    have ei : one (ins (n + 1)) S p (sh (k + 1)) = inc (behind (fun S' => { S' with places := S'.places.dropLast }) (many (one (ins n)) { S with places := S.places ++ [p] } [sh k, sh k] 0 0)) := by
      show one (ins (n + 1)) S p (.tup [.str "and", sh k, sh k]) = _
      rw [and_is]
      show inc (into (all n) S _ p) = _
      rw [into_in (by omega), all_eq]
    rw [ei]
    have pl : ∀ (x : CS) , x.places = S.places ++ [p] → x.places.length + k ≤ 59 := fun x e => by
      rw [e, List.length_append]
      show S.places.length + 1 + k ≤ 59
      omega
    by_cases full : S.trees = 3000
    · constructor
      · intro z
        omega
      · intro _
        rw [many_full (by exact full)]
        rfl
    have lt' : S.trees < 3000 := by omega
    obtain ⟨i1, i2⟩ := shared_said k n { S with places := S.places ++ [p], trees := S.trees + 1 } 0 (by omega) (pl _ rfl) (by show S.trees + 1 ≤ 3000; omega)
    by_cases c1 : S.trees + 1 + sz k ≤ 3001
    · obtain ⟨c, e⟩ := i1 c1
      rw [many_one (j := sz k) (by exact lt') e (by omega)]
      by_cases full2 : S.trees + 1 + (sz k : Int) - 1 = 3000
      · constructor
        · intro z
          omega
        · intro _
          rw [many_full (by exact full2)]
          rfl
      obtain ⟨j1, j2⟩ := shared_said k n { S with places := S.places ++ [p], cmds := c, trees := S.trees + 1 + sz k - 1 + 1 } (0 + 1) (by omega) (pl _ rfl) (by show S.trees + 1 + (sz k : Int) - 1 + 1 ≤ 3000; omega)
      constructor
      · intro z
        obtain ⟨c2, e2⟩ := j1 (by show S.trees + 1 + (sz k : Int) - 1 + 1 + sz k ≤ 3001; omega)
        refine ⟨c2, ?_⟩
        rw [many_one (j := sz k) (by show S.trees + 1 + (sz k : Int) - 1 < 3000; omega) e2 (by omega), many_nil]
        show (.ok (1 + (0 + (sz k : Int) + sz k), { S with cmds := c2, trees := S.trees + 1 + (sz k : Int) - 1 + 1 + sz k - 1, places := (S.places ++ [p]).dropLast }) : R) = _
        rw [List.dropLast_concat]
        have a1 : 1 + (0 + (sz k : Int) + sz k) = 1 + sz k + sz k := by omega
        have a2 : S.trees + 1 + (sz k : Int) - 1 + 1 + sz k - 1 = S.trees + (1 + sz k + sz k) - 1 := by omega
        rw [a1, a2]
      · intro z
        rw [many_err (by show S.trees + 1 + (sz k : Int) - 1 < 3000; omega) (j2 (by show 3001 < S.trees + 1 + (sz k : Int) - 1 + 1 + sz k; omega))]
        rfl
    · constructor
      · intro z
        omega
      · intro _
        rw [many_err (by exact lt') (i2 (by show 3001 < S.trees + 1 + (sz k : Int); omega))]
        rfl
theorem sz_pow : ∀ n, sz n + 1 = 2 ^ (n + 1)
  | 0 => rfl
  | n + 1 => by
    have z := sz_pow n
    rw [Nat.pow_succ, ← z]
    show 1 + sz n + sz n + 1 = _
    omega
theorem said_shared : said (prog [] (sh 59)) = flT [] := by
  show saidT (check _) = _
  rw [check_error ((shared_said 59 59 S1 (-1) (Nat.le_refl _) (Nat.le_refl _) (by decide)).2 (by
    show (3001 : Int) < 1 + sz 59
    have z := sz_pow 59
    have z2 : (2 : Nat) ^ (59 + 1) = 1152921504606846976 := by decide +kernel
    rw [z2] at z
    omega))]
  rfl
/-! ### rounds -/
abbrev body (j : Nat) : T := sq (List.replicate (j + 1) (st 0))
abbrev tms (m : Int) (t : T) : T := .tup [.str "times", .int m, t]
theorem times_is {n : Nat} {S : CS} {p : Int} {m : Int} {t : T} (h0 : 0 ≤ m) (h1 : m ≤ 1000) : one (ins (n + 1)) S p (tms m t) = timed m (looped (ins (n + 1)) S [t] p) := by
  rw [one_kind _ kind_times]
  show (if (decide (0 ≤ m) && decide (m ≤ 1000)) = true then _ else _) = _
  rw [decide_eq_true h0, decide_eq_true h1]
  rfl
theorem body_ok (S : CS) (p : Int) (n j : Nat) (h1 : 1 ≤ j) (lv : S.places.length < 59) (h : S.trees + (j + 1) ≤ 3000) : ∃ c, one (ins (n + 1)) S p (body j) = .ok (1 + ((j : Int) + 1), { S with cmds := c, trees := S.trees + (j + 1) }) := by
  have len : ((List.replicate (j + 1) (st 0)).length : Int) = (j : Int) + 1 := by
    rw [List.length_replicate]
    omega
  obtain ⟨c, e⟩ := seq_leaves (n := n) (S := S) (p := p) (ps := List.replicate (j + 1) (st 0)) (by rw [List.length_replicate]; omega) lv (fun f t h => by rw [List.eq_of_mem_replicate h]; exact leaf_status (by decide) (by decide)) (by rw [len]; exact h)
  rw [len] at e
  exact ⟨c, e⟩
theorem times_ok (j : Nat) (m : Int) (h1 : 1 ≤ j) (h9 : j ≤ 100) (h0 : 0 ≤ m) (hm : m ≤ 1000) : ∃ S, one (ins 59) S1 (-1) (tms m (body j)) = .ok (1 + m * (j + 2), S) ∧ S.trees = j + 3 ∧ S.vars = [] := by
  rw [times_is h0 hm]
  obtain ⟨c, e⟩ := body_ok { S1 with loops := S1.loops + 1, places := S1.places ++ [-1], trees := 2 } 0 57 j h1 (by decide) (by show (2 : Int) + (j + 1) ≤ 3000; omega)
  refine ⟨{ S1 with cmds := c, trees := 2 + ((j : Int) + 1) }, ?_, by show (2 : Int) + (j + 1) = _; omega, rfl⟩
  show timed m (behind _ (into (all 58) { S1 with loops := S1.loops + 1 } [body j] (-1))) = _
  rw [into_in (by decide), all_eq, many_one (by decide) e (by omega), many_nil]
  show (.ok (1 + m * (0 + (1 + ((j : Int) + 1))), _) : R) = _
  have a1 : (0 + (1 + ((j : Int) + 1))) = (j : Int) + 2 := by omega
  rw [a1]
  rfl
theorem said_times {j : Nat} {m : Int} (h1 : 1 ≤ j) (h9 : j ≤ 100) (h0 : 0 ≤ m) (hm : m ≤ 1000) : said (prog [] (tms m (body j))) = if 1 + m * (j + 2) ≤ 3000 then szT (j + 3) (1 + m * (j + 2)) else flT [] := by
  obtain ⟨S, e, e2, e3⟩ := times_ok j m h1 h9 h0 hm
  have pos : 0 ≤ m * ((j : Int) + 2) := Int.mul_nonneg h0 (by omega)
  show saidT (check _) = _
  split
  · rename_i h
    rw [check_main e (by omega) (by rw [e3]; exact Nat.zero_le _) h]
    show T.tup [.str "sizes", .tup [.int S.trees, .int _]] = _
    rw [e2]
    rfl
  · rename_i h
    rw [check_large e (by omega) (.inr (by omega))]
    rfl
theorem said_thousands {j : Nat} (h1 : 1 ≤ j) (h : j < 10) : said (prog [] (tms 1000 (tms 1000 (tms 0 (body j))))) = flT [] := said_err (by
  have z : ∀ k : Fin 10, 1 ≤ (k : Nat) → isErr [] (check (prog [] (tms 1000 (tms 1000 (tms 0 (body k)))))) = true := by decide +kernel
  exact z ⟨j, h⟩ h1)
abbrev callf (m : Int) : T := prog [un "f" (un "not" (st 1))] (tms m (un "call" (.str "f")))
theorem said_call_1000 : said (callf 1000) = flT [] := said_err (by decide +kernel)
theorem said_call_999 : said (callf 999) = szT 4 2998 := said_sz (by decide +kernel)
/-! ### names -/
def abc : Str := "abcdefghijklmnopqrstuvwxyz"
def chr (k : Nat) : Str := ⟨#[97 + k % 26]⟩
def nm (k : Nat) : Str := "v" ++ chr (k / 26) ++ chr k
def kinds : List Str := ["give", "zero", "keep"]
def wd3 (k : Nat) : Str := kinds.getD (k % 3) "give"
abbrev vr (k : Nat) : T := .tup [.str (wd3 k), .str (nm k)]
def vrs (M : Nat) : List T := (List.range M).map vr
def add (ns : List Str) (z : Str) : List Str := if ns.contains z then ns else ns ++ [z]
def nms (M : Nat) : List Str := (List.range M).map nm
theorem wd3_kind (k : Nat) : kindOf (wd3 k) = some .var := by
  have z : ∀ i : Fin 3, kindOf (kinds.getD i "give") = some .var := by decide +kernel
  exact z ⟨k % 3, Nat.mod_lt _ (by decide)⟩
theorem nm_ok {k : Nat} (h : k < 62) : nameOk (nm k) = true := by
  have z : ∀ i : Fin 62, nameOk (nm i) = true := by decide +kernel
  exact z ⟨k, h⟩
def VLeaf (t : T) (z : Str) : Prop := ∀ (f : Ins) S p, one f S p t = .ok (1, { S with vars := add S.vars z })
theorem vleaf {k : Nat} (h : k < 62) : VLeaf (vr k) (nm k) := fun f S p => by
  rw [one_kind _ (wd3_kind k)]
  show varied S (.str (nm k)) = _
  have e : newName S.vars (.str (nm k)) = (true, add S.vars (nm k)) := by
    show (if S.vars.contains (nm k) = true then (true, S.vars) else if nameOk (nm k) = true then (true, S.vars ++ [nm k]) else (false, S.vars)) = _
    unfold add
    split
    · rfl
    · rw [if_pos (nm_ok h)]
  unfold varied
  rw [e]
  rfl
theorem many_vars {f : Ins} : ∀ (ks : List Nat) (S : CS) (rest : List T) (p i : Int), (∀ k ∈ ks, k < 62) → S.trees + ks.length ≤ 3000 → many (one f) S (ks.map vr ++ rest) p i = many (one f) { S with vars := (ks.map nm).foldl add S.vars, trees := S.trees + ks.length } rest (p + ks.length) (i + ks.length)
  | [], S, rest, p, i, _, _ => by simp
  | k :: ks, S, rest, p, i, h, fit => by
    have l : ((k :: ks).length : Int) = ks.length + 1 := by simp
    rw [l] at fit ⊢
    rw [List.map_cons, List.cons_append, many_one (by omega) (vleaf (h k List.mem_cons_self) f _ p) (by decide), many_vars ks _ rest _ _ (fun x hx => h x (List.mem_cons_of_mem _ hx)) (by show S.trees + 1 + (ks.length : Int) ≤ 3000; omega)]
    have a1 : S.trees + 1 + (ks.length : Int) = S.trees + (ks.length + 1) := by omega
    have a2 : p + 1 + (ks.length : Int) = p + (ks.length + 1) := by omega
    have a3 : i + 1 + (ks.length : Int) = i + (ks.length + 1) := by omega
    rw [a2, a3, List.map_cons, List.foldl_cons]
    show many (one f) { S with vars := _, trees := S.trees + 1 + (ks.length : Int) } _ _ _ = _
    rw [a1]
theorem rb_leaf : ∀ t ∈ [un "run" (.str "b"), un "run" (.str "b")], ∀ f, Leaf f t := fun t h f => by
  have e : t = un "run" (.str "b") := by
    simp at h
    exact h
  rw [e]
  exact leaf_run (by decide +kernel)
abbrev rb : T := un "run" (.str "b")
/-- what the check of the program with many variables says -/
theorem vars_said (ks : List Nat) (cut : Nat) (h2 : 2 ≤ cut) (hc : cut ≤ ks.length) (hb : ∀ k ∈ ks, k < 62) (hl : ks.length ≤ 200) :
    ∃ a b, said (prog [un "f" (sq ((ks.take cut).map vr))] (sq ((ks.drop cut).map vr ++ [rb, rb]))) = if 40 < ((ks.map nm).foldl add []).length then flT [] else szT a b := by
  have l1 : (ks.take cut).length = cut := by rw [List.length_take]; omega
  have l2 : (ks.drop cut).length = ks.length - cut := List.length_drop
  have e1 : one (ins 59) { start with trees := 1 } 0 (sq ((ks.take cut).map vr)) = .ok (1 + cut, { start with trees := 1 + cut, vars := ((ks.take cut).map nm).foldl add [] }) := by
    rw [seq_is (by rw [List.length_map, l1]; exact h2)]
    show inc (into (all 58) _ _ 0) = _
    have z := many_vars (f := ins 58) (ks.take cut) { start with trees := 1, places := [0] } [] 0 0 (fun x hx => hb x (List.mem_of_mem_take hx)) (by rw [l1]; show (1 : Int) + cut ≤ 3000; omega)
    rw [List.append_nil, many_nil, l1] at z
    rw [into_in (by decide), all_eq]
    show inc (behind _ (many (one (ins 58)) { start with trees := 1, places := [0] } _ 0 0)) = _
    rw [z]
    show (.ok (1 + (0 + (cut : Int)), _) : R) = _
    rw [Int.zero_add]
    rfl
  obtain ⟨c, e2⟩ : ∃ c, one (ins 59) { start with trees := 1 + cut + 1, vars := ((ks.take cut).map nm).foldl add [], fns := [(("f" : Str), 1 + (cut : Int))], rets := false } (-1) (sq ((ks.drop cut).map vr ++ [rb, rb])) = .ok (1 + (((ks.length - cut : Nat) : Int) + 2), { start with trees := 1 + cut + 1 + ((ks.length - cut : Nat) : Int) + 2, cmds := c, vars := (ks.map nm).foldl add [], fns := [(("f" : Str), 1 + (cut : Int))], rets := false }) := by
    obtain ⟨c, z2⟩ := many_leaves (f := ins 58) [rb, rb] { start with trees := 1 + cut + 1 + ((ks.length - cut : Nat) : Int), places := [-1], vars := ((ks.drop cut).map nm).foldl add (((ks.take cut).map nm).foldl add []), fns := [(("f" : Str), 1 + (cut : Int))], rets := false } [] ((ks.length - cut : Nat) : Int) ((ks.length - cut : Nat) : Int) (fun t ht => rb_leaf t ht _) (by show (1 : Int) + cut + 1 + ((ks.length - cut : Nat) : Int) + 2 ≤ 3000; omega)
    refine ⟨c, ?_⟩
    rw [seq_is (by rw [List.length_append]; show 2 ≤ _ + 2; omega)]
    show inc (into (all 58) _ _ (-1)) = _
    have z := many_vars (f := ins 58) (ks.drop cut) { start with trees := 1 + cut + 1, places := [-1], vars := ((ks.take cut).map nm).foldl add [], fns := [(("f" : Str), 1 + (cut : Int))], rets := false } [rb, rb] 0 0 (fun x hx => hb x (List.mem_of_mem_drop hx)) (by rw [l2]; show (1 : Int) + cut + 1 + ((ks.length - cut : Nat) : Int) ≤ 3000; omega)
    rw [l2, Int.zero_add] at z
    rw [into_in (by show (0 : Nat) < 59; decide), all_eq]
    show inc (behind _ (many (one (ins 58)) { start with trees := 1 + cut + 1, places := [-1], vars := ((ks.take cut).map nm).foldl add [], fns := [(("f" : Str), 1 + (cut : Int))], rets := false } _ 0 0)) = _
    rw [z]
    rw [List.append_nil, many_nil] at z2
    rw [show ([rb, rb] : List T) = [rb, rb] from rfl]
    rw [z2]
    have fe : ((ks.drop cut).map nm).foldl add (((ks.take cut).map nm).foldl add []) = (ks.map nm).foldl add [] := by
      rw [← List.foldl_append, ← List.map_append, List.take_append_drop]
    rw [fe]
    rfl
  refine ⟨1 + cut + 1 + ((ks.length - cut : Nat) : Int) + 2, 1 + (((ks.length - cut : Nat) : Int) + 2), ?_⟩
  show saidT (check _) = _
  have ce : entries start [un "f" (sq ((ks.take cut).map vr))] 0 = .ok { start with trees := 1 + cut, vars := ((ks.take cut).map nm).foldl add [], fns := [(("f" : Str), 1 + (cut : Int))] } := by
    rw [show entries start [un "f" (sq ((ks.take cut).map vr))] 0 = (if nameOk "f" = true ∧ start.fns.lookup ("f" : Str) = none then (match all 59 start [sq ((ks.take cut).map vr)] 0 0 with | .error e => .error e | .ok (i, S') => entries { S' with fns := S'.fns ++ [(("f" : Str), if 3001 < i then 3001 else i)] } [] (0 + 1)) else .error [0]) from rfl]
    rw [if_pos (⟨by decide +kernel, rfl⟩), all_eq, many_one (by decide) e1 (by omega), many_nil]
    show entries { start with trees := 1 + (cut : Int), vars := ((ks.take cut).map nm).foldl add [], fns := [(("f" : Str), if 3001 < 0 + (1 + (cut : Int)) then 3001 else 0 + (1 + (cut : Int)))] } [] (0 + 1) = _
    rw [if_neg (by omega), Int.zero_add]
    rfl
  rw [check_tup, if_pos (by show (1 : Nat) ≤ 20; decide), ce]
  show saidT (match all 59 { start with trees := 1 + cut, vars := ((ks.take cut).map nm).foldl add [], fns := [(("f" : Str), 1 + (cut : Int))], rets := false } [_] (-1) 0 with
    | .error e => (.error e : Except (List Int) CS)
    | .ok (i, S') => if 40 < S'.vars.length ∨ 3000 < i then .error [] else .ok { S' with unf := i }) = _
  rw [all_eq, many_one (by show (1 : Int) + cut < 3000; omega) e2 (by omega), many_nil]
  show saidT (if 40 < ((ks.map nm).foldl add []).length ∨ 3000 < 0 + (1 + (((ks.length - cut : Nat) : Int) + 2)) then _ else _) = _
  by_cases h40 : 40 < ((ks.map nm).foldl add []).length
  · rw [if_pos (.inl h40), if_pos h40]
    rfl
  · rw [if_neg (by omega), if_neg h40]
    rw [Int.zero_add]
    rfl
theorem names_count {M : Nat} (h : M < 62) : ((((List.range M) ++ List.range M).map nm).foldl add []).length = M := by
  have z : ∀ i : Fin 62, ((((List.range i) ++ List.range i).map nm).foldl add []).length = i := by decide +kernel
  exact z ⟨M, h⟩
/-! ### functions -/
def fnm (k : Nat) : Str := "f" ++ nm k
def row (k : Nat) : T := un (fnm k) (if 0 < k then un "call" (.str (fnm (k - 1))) else rA)
def rows (n : Nat) : List T := (List.range n).map row
theorem said_rows20 : said (prog (rows 20) (un "call" (.str (fnm 19)))) = szT 21 21 := said_sz (by decide +kernel)
theorem said_rows21 : said (prog (rows 21) r5) = flT [] := said_err (by decide +kernel)
abbrev tail : T := sq [un "run" (.str "abcdefghijkl"), tms 1000 (un "break" (.int 1)), un "exit" (.int 255), .tup [.str "put", .str "z", .int 255]]
theorem said_tail : said (prog [] tail) = szT 6 1005 := said_sz (by decide +kernel)
end Ck

namespace Ck
open PySem PySem.Spec PyProof.Rows L2
section
variable {P : Program} {w : World} {K : PySem.W.Frag} {mg : Str → Option Value} {base : Heap}
abbrev sLetters : Stmt := topS 54
theorem scLe : FnScope ["_law_number", "_law_letters_here"] ["_law_number"] (defScope sLetters) := ⟨rfl, rfl, rfl, by decide +kernel, rfl, by decide +kernel, by decide +kernel⟩
def spLetters : Sp := fun vs H Q _ => ∃ k : Nat, vs = [.int k] ∧ Q (.str (nm k)) H
theorem at_abc {k : Nat} : atI abc.cps.toList ((k : Int) % 26) = some (97 + k % 26) := by
  have z : ∀ j : Fin 26, atI abc.cps.toList ((j : Nat) : Int) = some (97 + (j : Nat)) := by decide +kernel
  have e : (k : Int) % 26 = ((k % 26 : Nat) : Int) := by omega
  rw [e]
  exact z ⟨k % 26, Nat.mod_lt _ (by decide)⟩
theorem ok_letters {f : Addr} {fd : FuncData} (F : Fun K "_law_letters" "_law_letters" sLetters f fd) (mi : mg "int" = none) : FnOk P w K mg base CX0 1 f fd ["_law_number"] spLetters := by
  refine F.ok scLe (fun vs H Q E h => ?_) (fun cdv A outer s H vs Q E hr h => ?_)
  · obtain ⟨_, rfl, _⟩ := h
    rfl
  obtain ⟨k, rfl, q⟩ := h
  refine ⟨_, pss_cons (ps_set (i := 1) scLe.nd rfl (.inl rfl) pe_str) (pss_one (ps_ret (pe_op op_add_str (pe_op op_add_str pe_str (pe_ix ix_str (pv 1) (pe_op op_mod (pe_intc mi rfl (pe_op op_fdivW (pv 0) pe_int)) pe_int) fun _ _ => rfl)) (pe_ix ix_str (pv 1) (pe_op op_mod (pe_intc mi rfl (pv 0)) pe_int) fun _ _ => rfl)))), ?_⟩
  dsimp only [L2.tRet, L2.tRetN, tAndV, tOrV, tNotV, tCB, L2.tCons, L2.tNil, tC, tVar, L2.tOp, L2.tUn, tSeq, tAsg, gName, tIfS, tTest, tNext, tAnd, tOr, tNot, L2.tIf, tFld, sFld, sFldAug, tCall, tTup, tB, tAug, tDrop, L2.tSl, tPart, tNoPart, tBM, tBM0, tChain, gTup, gCons, gNil, tPar, tIs, List.set, tInt]
  have la : abc.length ≤ sizeLine := by rw [sizeLine_eq]; decide +kernel
  have l3 : ∀ i : Nat, i ≤ 100 → i ≤ sizeLine := fun i h => by rw [sizeLine_eq]; omega
  have e : (k : Int) / 26 = ((k / 26 : Nat) : Int) := by omega
  refine ⟨_, rfl, _, rfl, _, _, rfl, rfl, wd (by decide) (by decide), Or.inl ⟨_, rfl, _, _, rfl, rfl, (by show (0 : Int) < 26; decide), abc, _, _, rfl, rfl, la, (by rw [e]; exact at_abc), _, _, rfl, rfl, ?_, _, rfl, _, rfl, Or.inl ⟨_, rfl, _, _, rfl, rfl, (by show (0 : Int) < 26; decide), abc, _, _, rfl, rfl, la, at_abc, _, _, rfl, rfl, ?_, q⟩⟩⟩
  · exact l3 _ (by show 1 + 1 ≤ 100; decide)
  · exact l3 _ (by show 2 + 1 ≤ 100; decide)
end
end Ck

/-! Loops whose turns stay folded. -/
namespace L2
open PySem
def tLoop (g : TG) (tb : TS) (D : Ends) (σ : St) : It → Hp → Prop := fun J H1 =>
  ∃ W : Nat → Nat → St → Hp → Prop, (∃ m, W 0 m σ H1) ∧ ∀ i m σ H, W i m σ H → (J.stop i H ∧ D.nx σ H) ∨ (J.go i H ∧ ∃ N : St → Hp → Prop, (∀ σ' H', N σ' H' → ∃ m', m' < m ∧ W (i + 1) m' σ' H') ∧ ∀ x H', J.yld i H x H' → g x σ H' fun σ2 H2 => tb { nx := N, rt := D.rt, bk := D.nx, ct := N } σ2 H2)
theorem loop_in {wi : TI} {g : TG} {tb : TS} {D : Ends} {σ : St} {H : Hp} (h : wi σ H (tLoop g tb D σ)) : tFor wi g tb D σ H := h
theorem loop_tup {K : PySem.W.Frag} {a : Addr} {xs : List V} {g : TG} {tb : TS} {D : Ends} {σ : St} {H : Hp} (Pv : Nat → St → Hp → Prop) (h0 : Pv 0 σ H) (hl : ∀ i σ H, i ≤ xs.length → Pv i σ H → SqT K H a xs)
    (hs : ∀ i x σ H, xs[i]? = some x → Pv i σ H → g x σ H fun σ2 H2 => tb { nx := Pv (i + 1), rt := D.rt, bk := D.nx, ct := Pv (i + 1) } σ2 H2) (hd : ∀ σ H, Pv xs.length σ H → D.nx σ H) : tLoop g tb D σ (Itt K a) H := for_tup Pv h0 hl hs hd
theorem loop_list {K : PySem.W.Frag} {a : Addr} {xs : List V} {g : TG} {tb : TS} {D : Ends} {σ : St} {H : Hp} (Pv : Nat → St → Hp → Prop) (h0 : Pv 0 σ H) (hl : ∀ i σ H, i ≤ xs.length → Pv i σ H → SqL K H a xs)
    (hs : ∀ i x σ H, xs[i]? = some x → Pv i σ H → g x σ H fun σ2 H2 => tb { nx := Pv (i + 1), rt := D.rt, bk := D.nx, ct := Pv (i + 1) } σ2 H2) (hd : ∀ σ H, Pv xs.length σ H → D.nx σ H) : tLoop g tb D σ (Itl K a) H := for_list Pv h0 hl hs hd
theorem loop_range {lo : Int} {n : Nat} {g : TG} {tb : TS} {D : Ends} {σ : St} {H : Hp} (Pv : Nat → St → Hp → Prop) (h0 : Pv 0 σ H)
    (hs : ∀ i σ H, i < n → Pv i σ H → g (.int (lo + i)) σ H fun σ2 H2 => tb { nx := Pv (i + 1), rt := D.rt, bk := D.nx, ct := Pv (i + 1) } σ2 H2) (hd : ∀ σ H, Pv n σ H → D.nx σ H) : tLoop g tb D σ (Itr lo n) H := for_range Pv h0 hs hd
def tLcL (g : TG) (tt : TT) (te : TE) (vs : List Nat) (σ : St) (Q : VK) : It → Hp → Prop := fun J H1 => ∀ D, H1 D = none → ∃ W : Nat → Nat → Hp → Prop, (∃ m, W 0 m (upd H1 D (.lst []))) ∧ ∀ i m H, W i m H → (J.stop i H ∧ Q (.ref D) H) ∨ (J.go i H ∧ ∃ Nx : Hp → Prop, (∀ H', Nx H' → ∃ m', m' < m ∧ W (i + 1) m' H') ∧
  ∀ x H', J.yld i H x H' → g x (wipe σ vs) H' fun σ2 H2 => wipe σ2 vs = wipe σ vs ∧ tt σ2 H2 fun b H3 => if b = true then te σ2 H3 fun y H4 => ∃ acc, H4 D = some (.lst acc) ∧ acc.length < sizeLine ∧ Nx (upd H4 D (.lst (acc ++ [y]))) else Nx H3)
theorem lc_in {wi : TI} {g : TG} {tt : TT} {te : TE} {vs : List Nat} {σ : St} {H : Hp} {Q : VK} (h : wi σ H (tLcL g tt te vs σ Q)) : tLc wi g tt te vs σ H Q := h
theorem lcl_range {lo : Int} {n : Nat} {g : TG} {tt : TT} {te : TE} {vs : List Nat} {σ : St} {H1 : Hp} {Q : VK} (Pv : Addr → Nat → Hp → Prop) (h0 : ∀ D, H1 D = none → Pv D 0 (upd H1 D (.lst [])))
    (hs : ∀ D, H1 D = none → ∀ i H, i < n → Pv D i H → g (.int (lo + i)) (wipe σ vs) H fun σ2 H2 => wipe σ2 vs = wipe σ vs ∧ tt σ2 H2 fun b H3 => if b = true then te σ2 H3 fun y H4 => ∃ acc, H4 D = some (.lst acc) ∧ acc.length < sizeLine ∧ Pv D (i + 1) (upd H4 D (.lst (acc ++ [y]))) else Pv D (i + 1) H3)
    (hd : ∀ D, H1 D = none → ∀ H, Pv D n H → Q (.ref D) H) : tLcL g tt te vs σ Q (Itr lo n) H1 := fun D nD => lc_range (D := D) (Pv D) (h0 D nD) (hs D nD) (hd D nD)
end L2
/-! Data that has no strange things in it. -/
namespace Ck
open PySem PySem.Spec PyProof.Rows L2
section
variable {P : Program} {w : World} {K : PySem.W.Frag} {mg : Str → Option Value} {base : Heap} {H H1 H2 : Hp}
/-- tuples stay -/
def Stay (H H' : Hp) : Prop := ∀ b xs, H b = some (.tup xs) → H' b = some (.tup xs)
theorem flatTs_cons {t : T} {ts : List T} (f : flatTs (t :: ts) = true) : flatT t = true ∧ flatTs ts = true := by simpa [flatTs] using f
theorem same_stay (h : Same H H1) : Stay H H1 := fun b xs z => h b _ z
theorem stay_lst {l : Addr} {xs : List V} {o : HO} (h : H l = some (.lst xs)) : Stay H (upd H l o) := fun b ys z => by
  rw [upd_ne (ne_of z h (by intro z; cases z))]
  exact z
theorem Stay.trans (h : Stay H H1) (h2 : Stay H1 H2) : Stay H H2 := fun b xs z => h2 b xs (h b xs z)
mutual
theorem im_stay (s : Stay H H1) : ∀ {v : V} {t : T}, flatT t = true → Im K H v t → Im K H1 v t
  | _, _, _, .non => .non
  | _, _, _, .bl b => .bl b
  | _, _, _, .int i => .int i
  | _, _, _, .str z => .str z
  | _, _, f, .tup e r => .tup (s _ _ e) (ims_stay s (by simpa [flatT] using f) r)
  | _, _, f, .odd _ _ _ _ _ _ => by simp [flatT] at f
theorem ims_stay (s : Stay H H1) : ∀ {vs : List V} {ts : List T}, flatTs ts = true → Ims K H vs ts → Ims K H1 vs ts
  | _, _, _, .nil => .nil
  | _ :: _, _ :: _, f, .cons a r => by
    have f2 := flatTs_cons f
    exact .cons (im_stay s f2.1 a) (ims_stay s f2.2 r)
end
structure Dat (K : PySem.W.Frag) (H : Hp) (v : V) (t : T) : Prop where
  im : Im K H v t
  fl : flatT t = true
structure Dats (K : PySem.W.Frag) (H : Hp) (vs : List V) (ts : List T) : Prop where
  im : Ims K H vs ts
  fl : flatTs ts = true
theorem Dat.up {v : V} {t : T} (d : Dat K H v t) (s : Stay H H1) : Dat K H1 v t := ⟨im_stay s d.fl d.im, d.fl⟩
theorem Dats.up {v : List V} {t : List T} (d : Dats K H v t) (s : Stay H H1) : Dats K H1 v t := ⟨ims_stay s d.fl d.im, d.fl⟩
theorem Dat.int (i : Int) : Dat K H (.int i) (.int i) := ⟨.int i, rfl⟩
theorem Dat.non : Dat K H .non .non := ⟨.non, rfl⟩
theorem Dat.str {z : Str} (h : z.length ≤ 100) : Dat K H (.str z) (.str z) := ⟨.str (str_few h), rfl⟩
theorem Dats.nil : Dats K H [] [] := ⟨.nil, rfl⟩
theorem Dats.cons {v : V} {t : T} {vs : List V} {ts : List T} (d : Dat K H v t) (r : Dats K H vs ts) : Dats K H (v :: vs) (t :: ts) := ⟨.cons d.im r.im, by rw [flatTs, d.fl, r.fl]; rfl⟩
theorem Dats.tup {vs : List V} {ts : List T} (r : Dats K H vs ts) {a : Addr} (h : H a = some (.tup vs)) : Dat K H (.ref a) (.tup ts) := ⟨.tup h r.im, by rw [flatT]; exact r.fl⟩
theorem Dats.app {vs us : List V} {ts ss : List T} : Dats K H vs ts → Dats K H us ss → Dats K H (vs ++ us) (ts ++ ss) := fun a b => by
  obtain ⟨im, fl⟩ := a
  induction vs generalizing ts with
  | nil => cases im; exact b
  | cons v vs ih =>
    cases im with
    | cons x r =>
      have f2 := flatTs_cons fl
      exact Dats.cons ⟨x, f2.1⟩ (ih r f2.2)
theorem Dats.rep {v : V} {t : T} (d : Dat K H v t) : ∀ n : Nat, Dats K H (List.replicate n v) (List.replicate n t)
  | 0 => .nil
  | n + 1 => by rw [List.replicate_succ, List.replicate_succ]; exact .cons d (Dats.rep d n)
theorem Dats.len {vs : List V} {ts : List T} (d : Dats K H vs ts) : vs.length = ts.length := by
  obtain ⟨im, fl⟩ := d
  clear fl
  induction vs generalizing ts with
  | nil => cases im; rfl
  | cons v vs ih =>
    cases im with
    | cons x r => rw [List.length_cons, List.length_cons, ih r]
theorem grow {p : Addr} {xs : List V} {ts : List T} (n : H p = none) (ds : Dats K H xs ts) : ∃ H1, upd H p (.tup xs) = H1 ∧ Same H H1 ∧ Dat K H1 (.ref p) (.tup ts) ∧ H1 p = some (.tup xs) := by
  have s : Same H (upd H p (.tup xs)) := Ck.Same.new (fun _ _ z => z) n
  exact ⟨_, rfl, s, (ds.up (same_stay s)).tup upd_same, upd_same⟩
theorem flat_rep {α : Type} (n : Nat) (x : α) : (List.replicate n [x]).flatten = List.replicate n x := by
  induction n with
  | zero => rfl
  | succ n ih => rw [List.replicate_succ, List.flatten_cons, ih, List.replicate_succ]; rfl
/-- where a source of draws stands -/
def Sr (l : Addr) (H : Hp) : Prop := ∃ a c n : Int, H l = some (.lst [.int a, .int c, .int n])
theorem Sr.up {l : Addr} (h : Sr l H) (s : Same H H1) : Sr l H1 := by
  obtain ⟨a, c, n, e⟩ := h
  exact ⟨a, c, n, s _ _ e⟩
/-- a draw, as the others use it -/
theorem take_use {l : Addr} {b : Int} {Q : VK} {E : XK} (h : Sr l H) (b0 : 0 < b) (b1 : b < 4294967296) (q : ∀ (r : Int) H1, 0 ≤ r → r < b → Stay H H1 → (∀ p, p ≠ l → H1 p = H p) → Sr l H1 → Q (.int r) H1) : spTake [.ref l, .int b] H Q E := by
  obtain ⟨a, c, n, e⟩ := h
  exact ⟨l, a, c, n, b, rfl, b0, b1, e, fun r a' n' r0 r1 => q r _ r0 r1 (stay_lst e) (fun p z => upd_ne z) ⟨_, _, _, upd_same⟩⟩
/-- what is said of data -/
theorem said_use {v : V} {t s : T} {Q : VK} {E : XK} (d : Dat K H v t) (e : said t = s) (q : ∀ p H1, Same H H1 → Dat K H1 (.ref p) s → Q (.ref p) H1) : spSaid K [v] H Q E :=
  ⟨v, t, rfl, d.im, fun H1 p s1 im => q p H1 s1 (e ▸ ⟨im, flat_said _⟩)⟩
theorem shaped_dat {a b : Int} : SeqAt.shaped (toD (szT a b)) = true := by
  have z := shaped_said (.ok { start with trees := a, unf := b })
  exact z
theorem shaped_fl (e : List Int) : SeqAt.shaped (toD (flT e)) = true := shaped_said (.error e)
theorem dat_ne {v u : V} {s : T} {Q : VK} (sh : SeqAt.shaped (toD s) = true) (h1 : Dat K H v s) (h2 : Dat K H u s) (q : Q (.bl false) H) : rNeD K v u H Q := by
  refine ⟨_, _, h1.im.dp h1.fl, h2.im.dp h2.fl, sh, sh, ?_⟩
  rw [SeqAt.eqv_refl _ (SeqAt.canLay_of_shaped sh)]
  exact q
theorem dat_eq {v u : V} {s : T} {Q : VK} (sh : SeqAt.shaped (toD s) = true) (h1 : Dat K H v s) (h2 : Dat K H u s) (q : Q (.bl true) H) : rEqD K v u H Q := by
  refine ⟨_, _, h1.im.dp h1.fl, h2.im.dp h2.fl, sh, sh, ?_⟩
  rw [SeqAt.eqv_refl _ (SeqAt.canLay_of_shaped sh)]
  exact q
theorem sl {n : Nat} (h : n ≤ 1000000) : n ≤ sizeLine := by rw [sizeLine_eq]; omega
abbrev GTk (P : Program) (w : World) (K : PySem.W.Frag) (mg : Str → Option Value) (base : Heap) : Prop := Go P w K mg base CX0 88 "_law_take" ["_law_source_here", "_law_bound"] spTake
abbrev GSd (P : Program) (w : World) (K : PySem.W.Frag) (mg : Str → Option Value) (base : Heap) : Prop := Go P w K mg base CX0 88 "_law_said" ["_law_plan"] (spSaid K)
end
end Ck

/-! Expressions that are data: what they give, as a value of the check. -/
namespace Ck
open PySem PySem.Spec PyProof.Rows L2
abbrev CD := L2.St → Hp → T → Prop
abbrev CDs := L2.St → Hp → List T → Prop
def tDat (K : PySem.W.Frag) (C : CD) : TE := fun σ H Q => ∃ t, C σ H t ∧ ∀ v H', Same H H' → Dat K H' v t → Q v H'
def tDats (K : PySem.W.Frag) (C : CDs) : TA := fun σ H Q => ∃ ts, C σ H ts ∧ ∀ vs H', Same H H' → Dats K H' vs ts → Q vs H'
/-- a list of data at an address -/
def LD (K : PySem.W.Frag) (H : Hp) (a : Addr) (ts : List T) : Prop := ∃ xs, H a = some (.lst xs) ∧ Dats K H xs ts
def tLDat (K : PySem.W.Frag) (C : CDs) : TE := fun σ H Q => ∃ ts, C σ H ts ∧ ∀ a H', Same H H' → LD K H' a ts → Q (.ref a) H'
section
variable {X : Cx} {P : Program} {w : World} {K : PySem.W.Frag} {mg : Str → Option Value} {base : Heap} {H H1 H2 : Hp}
theorem pe_imp {e : Expr} {t t' : TE} (p : PE X e t) (h : ∀ σ H Q, t' σ H Q → t σ H Q) : PE X e t' := ⟨fun pins s σ H Q I z => p.run pins s σ H Q I (h σ H Q z)⟩
theorem pa_imp {e : List Expr} {t t' : TA} (p : PA X e t) (h : ∀ σ H Q, t' σ H Q → t σ H Q) : PA X e t' := ⟨fun ps pins s σ H Q I z => p.run ps pins s σ H Q I (h σ H Q z)⟩
theorem pt_imp {e : Expr} {t t' : TT} (p : PT X e t) (h : ∀ σ H Q, t' σ H Q → t σ H Q) : PT X e t' := ⟨fun pins s σ H Q I z => p.run pins s σ H Q I (h σ H Q z)⟩
theorem same_id : Same H H := fun _ _ z => z
theorem same_new {p : Addr} {o : HO} (n : H p = none) : Same H (upd H p o) := Ck.Same.new same_id n
structure PD (X : Cx) (e : Expr) (C : CD) : Prop where
  pe : PE X e (tDat X.K C)
  up : ∀ σ H H' t, Same H H' → C σ H t → C σ H' t
structure PDs (X : Cx) (es : List Expr) (C : CDs) : Prop where
  pa : PA X es (tDats X.K C)
  up : ∀ σ H H' t, Same H H' → C σ H t → C σ H' t
structure PLd (X : Cx) (e : Expr) (C : CDs) : Prop where
  pe : PE X e (tLDat X.K C)
  up : ∀ σ H H' t, Same H H' → C σ H t → C σ H' t
theorem LD.up {a : Addr} {ts : List T} (h : LD K H a ts) (s : Same H H1) : LD K H1 a ts := by
  obtain ⟨xs, e, d⟩ := h
  exact ⟨xs, s _ _ e, d.up (same_stay s)⟩
theorem dat_int {v : V} {i : Int} (d : Dat K H v (.int i)) : v = .int i := by
  obtain ⟨im, _⟩ := d
  cases im
  rfl
theorem dat_str {v : V} {z : Str} (d : Dat K H v (.str z)) : v = .str z := by
  obtain ⟨im, _⟩ := d
  cases im
  rfl
theorem dat_tup {v : V} {ts : List T} (d : Dat K H v (.tup ts)) : ∃ a xs, v = .ref a ∧ H a = some (.tup xs) ∧ Dats K H xs ts := by
  obtain ⟨im, f⟩ := d
  cases im with
  | tup e r => exact ⟨_, _, rfl, e, r, by rw [flatT] at f; exact f⟩
theorem dats_nil {vs : List V} (d : Dats K H vs []) : vs = [] := List.eq_nil_of_length_eq_zero d.len
theorem dats_cons {vs : List V} {t : T} {ts : List T} (d : Dats K H vs (t :: ts)) : ∃ v us, vs = v :: us ∧ Dat K H v t ∧ Dats K H us ts := by
  obtain ⟨im, f⟩ := d
  have f2 := flatTs_cons f
  cases im with
  | cons a r => exact ⟨_, _, rfl, ⟨a, f2.1⟩, ⟨r, f2.2⟩⟩
theorem Dats.reps {vs : List V} {ts : List T} (d : Dats K H vs ts) : ∀ n : Nat, Dats K H (List.replicate n vs).flatten (List.replicate n ts).flatten
  | 0 => .nil
  | n + 1 => by rw [List.replicate_succ, List.replicate_succ, List.flatten_cons, List.flatten_cons]; exact d.app (Dats.reps d n)
theorem Dats.take {vs : List V} {ts : List T} (d : Dats K H vs ts) (n : Nat) : Dats K H (vs.take n) (ts.take n) := by
  induction n generalizing vs ts with
  | zero => exact .nil
  | succ n ih =>
    cases ts with
    | nil => cases dats_nil d; exact .nil
    | cons t ts =>
      obtain ⟨v, us, rfl, a, r⟩ := dats_cons d
      exact .cons a (ih r)
theorem Dats.drop {vs : List V} {ts : List T} (d : Dats K H vs ts) (n : Nat) : Dats K H (vs.drop n) (ts.drop n) := by
  induction n generalizing vs ts with
  | zero => exact d
  | succ n ih =>
    cases ts with
    | nil => cases dats_nil d; exact .nil
    | cons t ts =>
      obtain ⟨v, us, rfl, a, r⟩ := dats_cons d
      exact ih r
theorem Dats.set {vs : List V} {ts : List T} (d : Dats K H vs ts) {v : V} {t : T} (x : Dat K H v t) (n : Nat) : Dats K H (vs.set n v) (ts.set n t) := by
  induction n generalizing vs ts with
  | zero =>
    cases ts with
    | nil => cases dats_nil d; exact .nil
    | cons t ts =>
      obtain ⟨v, us, rfl, a, r⟩ := dats_cons d
      exact .cons x r
  | succ n ih =>
    cases ts with
    | nil => cases dats_nil d; exact .nil
    | cons t ts =>
      obtain ⟨v, us, rfl, a, r⟩ := dats_cons d
      exact .cons a (ih r)
theorem Dats.at {vs : List V} {ts : List T} (d : Dats K H vs ts) {n : Nat} {t : T} (h : ts[n]? = some t) : ∃ v, vs[n]? = some v ∧ Dat K H v t := by
  induction n generalizing vs ts with
  | zero =>
    cases ts with
    | nil => cases h
    | cons t ts =>
      obtain ⟨v, us, rfl, a, r⟩ := dats_cons d
      cases h
      exact ⟨v, rfl, a⟩
  | succ n ih =>
    cases ts with
    | nil => cases h
    | cons t ts =>
      obtain ⟨v, us, rfl, a, r⟩ := dats_cons d
      exact ih r h
/-! ### the rules -/
theorem pd_int {i : Int} {j : Nat} {pos : Pos} : PD X (.Constant (.int i) j pos) fun _ _ t => t = .int i :=
  ⟨pe_imp pe_int fun σ H Q ⟨t, e, q⟩ => by subst e; exact q _ _ same_id (.int i), fun _ _ _ _ _ h => h⟩
theorem pd_neg {i : Int} {j : Nat} {p pos : Pos} : PD X (.UnaryOp .USub (.Constant (.int i) j p) pos) fun _ _ t => t = .int (-i) :=
  ⟨pe_imp (pe_un un_neg pe_int) fun σ H Q ⟨t, e, q⟩ => by subst e; exact ⟨i, rfl, q _ _ same_id (.int _)⟩, fun _ _ _ _ _ h => h⟩
theorem pd_non {j : Nat} {pos : Pos} : PD X (.Constant .none j pos) fun _ _ t => t = .non :=
  ⟨pe_imp pe_non fun σ H Q ⟨t, e, q⟩ => by subst e; exact q _ _ same_id .non, fun _ _ _ _ _ h => h⟩
theorem pd_str {z : Str} {j : Nat} {pos : Pos} (few : z.length ≤ 100 := by decide +kernel) : PD X (.Constant (.str z) j pos) fun _ _ t => t = .str z :=
  ⟨pe_imp pe_str fun σ H Q ⟨t, e, q⟩ => by subst e; exact q _ _ same_id (.str few), fun _ _ _ _ _ h => h⟩
theorem pd_var (i : Nat) {x : Str} {pos : Pos} (p : PE X (.Name x pos) (tVar i)) : PD X (.Name x pos) fun σ H t => ∃ v, σ[i]? = some (some v) ∧ Dat X.K H v t :=
  ⟨pe_imp p fun σ H Q ⟨t, ⟨v, e, d⟩, q⟩ => ⟨v, e, q _ _ same_id d⟩, fun _ _ _ _ s ⟨v, e, d⟩ => ⟨v, e, d.up (same_stay s)⟩⟩
theorem pds_nil : PDs X [] fun _ _ ts => ts = [] := ⟨pa_imp pa_nil fun σ H Q ⟨ts, e, q⟩ => by subst e; exact q _ _ same_id .nil, fun _ _ _ _ _ h => h⟩
theorem pds_cons {e : Expr} {es : List Expr} {C : CD} {D : CDs} (a : PD X e C) (r : PDs X es D) (h : starEach (e :: es) X.env = (false, eval e X.env) :: starEach es X.env := by rfl) : PDs X (e :: es) fun σ H ts => ∃ t us, ts = t :: us ∧ C σ H t ∧ D σ H us :=
  ⟨pa_imp (pa_cons a.pe r.pa h) fun σ H Q ⟨ts, ⟨t, us, e, c, d⟩, q⟩ => by
    subst e
    exact ⟨t, c, fun v H1 s1 d1 => ⟨us, r.up _ _ _ _ s1 d, fun vs H2 s2 ds => q _ _ (s1.trans s2) (.cons (d1.up (same_stay s2)) ds)⟩⟩, fun σ _ _ _ s ⟨t, us, e, c, d⟩ => ⟨t, us, e, a.up _ _ _ _ s c, r.up _ _ _ _ s d⟩⟩
theorem pd_tup {es : List Expr} {j : Nat} {pos : Pos} {C : CDs} (a : PDs X es C) : PD X (.Tuple es j pos) fun σ H t => ∃ ts, t = .tup ts ∧ ts.length ≤ 1000 ∧ C σ H ts :=
  ⟨pe_imp (pe_tup a.pa) fun σ H Q ⟨t, ⟨ts, e, few, c⟩, q⟩ => by
    subst e
    refine ⟨ts, c, fun vs H1 s1 ds => ⟨sl (by rw [ds.len]; omega), fun p n => ?_⟩⟩
    exact q _ _ (s1.trans (same_new n)) ((ds.up (same_stay (same_new n))).tup upd_same), fun σ _ _ _ s ⟨ts, e, few, c⟩ => ⟨ts, e, few, a.up _ _ _ _ s c⟩⟩
theorem pd_bin {a b : Expr} {pos : Pos} {op : Operator} {f : Int → Int → Int} {C D : CD} (o : OpR X (binaryOp op) (rI0 fun i j => .int (f i j))) (ha : PD X a C) (hb : PD X b D) : PD X (.BinOp a op b pos) fun σ H t => ∃ i j, t = .int (f i j) ∧ C σ H (.int i) ∧ D σ H (.int j) :=
  ⟨pe_imp (pe_op o ha.pe hb.pe) fun σ H Q ⟨t, ⟨i, j, e, c, d⟩, q⟩ => by
    subst e
    refine ⟨_, c, fun v H1 s1 d1 => ⟨_, hb.up _ _ _ _ s1 d, fun u H2 s2 d2 => ?_⟩⟩
    exact ⟨i, j, dat_int d1, dat_int d2, q _ _ (s1.trans s2) (.int _)⟩, fun σ _ _ _ s ⟨i, j, e, c, d⟩ => ⟨i, j, e, ha.up _ _ _ _ s c, hb.up _ _ _ _ s d⟩⟩
theorem pd_rep {a b : Expr} {pos : Pos} {C D : CD} (ha : PD X a C) (hb : PD X b D) : PD X (.BinOp a .Mult b pos) fun σ H t => ∃ ts k, t = .tup (List.replicate k ts).flatten ∧ ts ≠ [] ∧ ts.length ≤ 100 ∧ k ≤ 10000 ∧ C σ H (.tup ts) ∧ D σ H (.int (k : Nat)) :=
  ⟨pe_imp (pe_op op_repA ha.pe hb.pe) fun σ H Q ⟨t, ⟨ts, k, e, ne, few, kb, c, d⟩, q⟩ => by
    subst e
    refine ⟨_, c, fun v H1 s1 d1 => ⟨_, hb.up _ _ _ _ s1 d, fun u H2 s2 d2 => ?_⟩⟩
    obtain ⟨p, xs, rfl, hp, ds⟩ := dat_tup (d1.up (same_stay s2))
    refine ⟨p, k, xs, rfl, dat_int d2, sqt hp, fun z => ne ?_, by omega, by omega, by rw [ds.len]; exact few, fun k1 => ?_, fun k1 p2 n => ?_⟩
    · have l := ds.len
      rw [z] at l
      exact List.eq_nil_of_length_eq_zero l.symm
    · have e1 : k = 1 := by omega
      subst e1
      refine q _ _ (s1.trans s2) ?_
      rw [show (List.replicate 1 ts).flatten = ts by simp]
      exact ds.tup hp
    · have s3 := same_new (o := .tup (List.replicate (k : Int).toNat xs).flatten) n
      refine q _ _ ((s1.trans s2).trans s3) ?_
      have r := ((ds.up (same_stay s3)).reps k)
      exact r.tup upd_same, fun σ _ _ _ s ⟨ts, k, e, ne, few, kb, c, d⟩ => ⟨ts, k, e, ne, few, kb, ha.up _ _ _ _ s c, hb.up _ _ _ _ s d⟩⟩
theorem pd_cat {a b : Expr} {pos : Pos} {C D : CD} (ha : PD X a C) (hb : PD X b D) : PD X (.BinOp a .Add b pos) fun σ H t => ∃ ts us, t = .tup (ts ++ us) ∧ ts.length + us.length ≤ 10000 ∧ C σ H (.tup ts) ∧ D σ H (.tup us) :=
  ⟨pe_imp (pe_op op_catA ha.pe hb.pe) fun σ H Q ⟨t, ⟨ts, us, e, few, c, d⟩, q⟩ => by
    subst e
    refine ⟨_, c, fun v H1 s1 d1 => ⟨_, hb.up _ _ _ _ s1 d, fun u H2 s2 d2 => ?_⟩⟩
    obtain ⟨p, xs, rfl, hp, ds⟩ := dat_tup (d1.up (same_stay s2))
    obtain ⟨r, ys, rfl, hr, es⟩ := dat_tup d2
    have l1 := ds.len
    have l2 := es.len
    refine ⟨p, r, xs, ys, rfl, rfl, sqt hp, sqt hr, sl (by rw [l1, l2]; omega), fun z => ?_, fun _ z => ?_, fun _ _ p2 n => ?_⟩
    · rw [z] at l1
      have e : ts = [] := List.eq_nil_of_length_eq_zero l1.symm
      rw [e] at q
      exact q _ _ (s1.trans s2) d2
    · rw [z] at l2
      have e : us = [] := List.eq_nil_of_length_eq_zero l2.symm
      rw [e, List.append_nil] at q
      exact q _ _ (s1.trans s2) (d1.up (same_stay s2))
    · have s3 := same_new (o := .tup (xs ++ ys)) n
      exact q _ _ ((s1.trans s2).trans s3) (((ds.app es).up (same_stay s3)).tup upd_same), fun σ _ _ _ s ⟨ts, us, e, few, c, d⟩ => ⟨ts, us, e, few, ha.up _ _ _ _ s c, hb.up _ _ _ _ s d⟩⟩
/-- a if x < k else b, and the like -/
theorem pd_if {x y a b : Expr} {op : CmpOp} {p pos : Pos} {f : Int → Int → Bool} {C D A B : CD} (o : OpR X (compareOp op) (rI0 fun i j => .bl (f i j))) (hx : PD X x C) (hy : PD X y D) (ha : PD X a A) (hb : PD X b B) (h : behindInMarks op y = false := by rfl) :
    PD X (.IfExp (.Compare x [op] [y] p) a b pos) fun σ H t => ∃ i j, C σ H (.int i) ∧ D σ H (.int j) ∧ (if f i j = true then A σ H t else B σ H t) :=
  ⟨pe_imp (pe_ifExp (pt_cmpR o hx.pe hy.pe h) ha.pe hb.pe) fun σ H Q ⟨t, ⟨i, j, c, d, ab⟩, q⟩ => by
    refine ⟨_, c, fun v H1 s1 d1 => ⟨_, hy.up _ _ _ _ s1 d, fun u H2 s2 d2 => ?_⟩⟩
    refine ⟨i, j, dat_int d1, dat_int d2, _, rfl, ?_⟩
    split at ab
    · rename_i z
      rw [if_pos z]
      exact ⟨t, ha.up _ _ _ _ (s1.trans s2) ab, fun v H3 s3 d3 => q v H3 ((s1.trans s2).trans s3) d3⟩
    · rename_i z
      rw [if_neg z]
      exact ⟨t, hb.up _ _ _ _ (s1.trans s2) ab, fun v H3 s3 d3 => q v H3 ((s1.trans s2).trans s3) d3⟩, fun σ _ _ _ s ⟨i, j, c, d, ab⟩ => by
    refine ⟨i, j, hx.up _ _ _ _ s c, hy.up _ _ _ _ s d, ?_⟩
    split at ab
    · rename_i z
      rw [if_pos z]
      exact ha.up _ _ _ _ s ab
    · rename_i z
      rw [if_neg z]
      exact hb.up _ _ _ _ s ab⟩
/-! ### lists -/
theorem pl_var (i : Nat) {x : Str} {pos : Pos} (p : PE X (.Name x pos) (tVar i)) : PLd X (.Name x pos) fun σ H ts => ∃ a, σ[i]? = some (some (.ref a)) ∧ LD X.K H a ts :=
  ⟨pe_imp p fun σ H Q ⟨t, ⟨a, e, d⟩, q⟩ => ⟨_, e, q _ _ same_id d⟩, fun _ _ _ _ s ⟨v, e, d⟩ => ⟨v, e, d.up s⟩⟩
theorem pl_disp {es : List Expr} {pos : Pos} {C : CDs} (a : PDs X es C) : PLd X (.List es pos) fun σ H ts => ts.length ≤ 1000 ∧ C σ H ts :=
  ⟨pe_imp (pe_lst a.pa) fun σ H Q ⟨ts, ⟨few, c⟩, q⟩ => ⟨ts, c, fun vs H1 s1 ds => ⟨sl (by rw [ds.len]; omega), fun p n => q _ _ (s1.trans (same_new n)) ⟨vs, upd_same, ds.up (same_stay (same_new n))⟩⟩⟩, fun σ _ _ _ s ⟨few, c⟩ => ⟨few, a.up _ _ _ _ s c⟩⟩
theorem pl_rep {a b : Expr} {pos : Pos} {C : CDs} {D : CD} (ha : PLd X a C) (hb : PD X b D) : PLd X (.BinOp a .Mult b pos) fun σ H us => ∃ ts k, us = (List.replicate k ts).flatten ∧ ts.length ≤ 100 ∧ k ≤ 10000 ∧ C σ H ts ∧ D σ H (.int (k : Nat)) :=
  ⟨pe_imp (pe_op op_rep ha.pe hb.pe) fun σ H Q ⟨us, ⟨ts, k, e, few, kb, c, d⟩, q⟩ => by
    subst e
    refine ⟨_, c, fun p H1 s1 d1 => ⟨_, hb.up _ _ _ _ s1 d, fun u H2 s2 d2 => ?_⟩⟩
    obtain ⟨xs, hp, ds⟩ := d1.up s2
    have room : xs.length * k ≤ 100 * 10000 := Nat.mul_le_mul (by rw [ds.len]; exact few) kb
    refine ⟨p, k, xs, rfl, dat_int d2, hp, by omega, by omega, sl (by show xs.length * k ≤ _; omega), fun p2 n => ?_⟩
    have s3 := same_new (o := .lst (List.replicate (k : Int).toNat xs).flatten) n
    exact q _ _ ((s1.trans s2).trans s3) ⟨_, upd_same, (ds.up (same_stay s3)).reps k⟩, fun σ _ _ _ s ⟨ts, k, e, few, kb, c, d⟩ => ⟨ts, k, e, few, kb, ha.up _ _ _ _ s c, hb.up _ _ _ _ s d⟩⟩
theorem pl_cat {a b : Expr} {pos : Pos} {C D : CDs} (ha : PLd X a C) (hb : PLd X b D) : PLd X (.BinOp a .Add b pos) fun σ H vs => ∃ ts us, vs = ts ++ us ∧ ts.length + us.length ≤ 10000 ∧ C σ H ts ∧ D σ H us :=
  ⟨pe_imp (pe_op op_cat ha.pe hb.pe) fun σ H Q ⟨vs, ⟨ts, us, e, few, c, d⟩, q⟩ => by
    subst e
    refine ⟨_, c, fun p H1 s1 d1 => ⟨_, hb.up _ _ _ _ s1 d, fun r H2 s2 d2 => ?_⟩⟩
    obtain ⟨xs, hp, ds⟩ := d1.up s2
    obtain ⟨ys, hr, es⟩ := d2
    refine ⟨p, r, xs, ys, rfl, rfl, hp, hr, sl (by rw [ds.len, es.len]; omega), fun p2 n => ?_⟩
    have s3 := same_new (o := .lst (xs ++ ys)) n
    exact q _ _ ((s1.trans s2).trans s3) ⟨_, upd_same, (ds.app es).up (same_stay s3)⟩, fun σ _ _ _ s ⟨ts, us, e, few, c, d⟩ => ⟨ts, us, e, few, ha.up _ _ _ _ s c, hb.up _ _ _ _ s d⟩⟩
theorem cut_to {xs : List V} {k : Nat} (h : k ≤ xs.length) : cutV xs none (some (k : Int)) = xs.take k := by
  unfold cutV
  have e : HT.sIx xs.length xs.length (some (k : Int)) = k := by
    show (if (k : Int) < 0 then ((k : Int) + xs.length).toNat else min (k : Int).toNat xs.length) = k
    rw [if_neg (by omega)]
    show min k xs.length = k
    omega
  rw [e]
  rfl
theorem cut_from {xs : List V} {k : Nat} (h : k ≤ xs.length) : cutV xs (some (k : Int)) none = xs.drop k := by
  unfold cutV
  have e : HT.sIx xs.length 0 (some (k : Int)) = k := by
    show (if (k : Int) < 0 then ((k : Int) + xs.length).toNat else min (k : Int).toNat xs.length) = k
    rw [if_neg (by omega)]
    show min k xs.length = k
    omega
  rw [e]
  show (xs.drop k).take (xs.length - k) = _
  rw [List.take_of_length_le]
  rw [List.length_drop]
  exact Nat.le_refl _
theorem pl_to {e b : Expr} {pos p2 : Pos} {C : CDs} {D : CD} (ha : PLd X e C) (hb : PD X b D) : PLd X (.Subscript e (.Slice none (some b) none p2) pos) fun σ H us => ∃ ts k, us = ts.take k ∧ k ≤ ts.length ∧ C σ H ts ∧ D σ H (.int (k : Nat)) :=
  ⟨pe_imp (pe_slice sl_list ha.pe po_none (po_some hb.pe)) fun σ H Q ⟨us, ⟨ts, k, e, kb, c, d⟩, q⟩ => by
    subst e
    refine ⟨_, c, fun p H1 s1 d1 => ⟨_, hb.up _ _ _ _ s1 d, fun u H2 s2 d2 => ⟨k, dat_int d2, ?_⟩⟩⟩
    obtain ⟨xs, hp, ds⟩ := d1.up s2
    refine ⟨p, xs, rfl, .inl (.inl hp), fun p2 n => ?_⟩
    rw [cut_to (by rw [ds.len]; exact kb)]
    have s3 := same_new (o := .lst (xs.take k)) n
    exact q _ _ ((s1.trans s2).trans s3) ⟨_, upd_same, (ds.take k).up (same_stay s3)⟩, fun σ _ _ _ s ⟨ts, k, e, kb, c, d⟩ => ⟨ts, k, e, kb, ha.up _ _ _ _ s c, hb.up _ _ _ _ s d⟩⟩
theorem pl_from {e b : Expr} {pos p2 : Pos} {C : CDs} {D : CD} (ha : PLd X e C) (hb : PD X b D) : PLd X (.Subscript e (.Slice (some b) none none p2) pos) fun σ H us => ∃ ts k, us = ts.drop k ∧ k ≤ ts.length ∧ C σ H ts ∧ D σ H (.int (k : Nat)) :=
  ⟨pe_imp (pe_slice sl_list ha.pe (po_some hb.pe) po_none) fun σ H Q ⟨us, ⟨ts, k, e, kb, c, d⟩, q⟩ => by
    subst e
    refine ⟨_, c, fun p H1 s1 d1 => ⟨_, hb.up _ _ _ _ s1 d, fun u H2 s2 d2 => ⟨k, dat_int d2, ?_⟩⟩⟩
    obtain ⟨xs, hp, ds⟩ := d1.up s2
    refine ⟨p, xs, rfl, .inl (.inl hp), fun p2 n => ?_⟩
    rw [cut_from (by rw [ds.len]; exact kb)]
    have s3 := same_new (o := .lst (xs.drop k)) n
    exact q _ _ ((s1.trans s2).trans s3) ⟨_, upd_same, (ds.drop k).up (same_stay s3)⟩, fun σ _ _ _ s ⟨ts, k, e, kb, c, d⟩ => ⟨ts, k, e, kb, ha.up _ _ _ _ s c, hb.up _ _ _ _ s d⟩⟩
theorem pd_tuple {e : Expr} {p pos : Pos} {C : CDs} (mt : X.mg "tuple" = none) (hg : Gl X "tuple") (ha : PLd X e C) (h1 : starEach [e] X.env = (false, eval e X.env) :: starEach [] X.env := by rfl) (h2 : ((backTo pos (starEach [] X.env)).any fun x => x.1) = false := by rfl) :
    PD X (.Call (.Name "tuple" p) [e] [] pos) fun σ H t => ∃ ts, t = .tup ts ∧ C σ H ts :=
  ⟨pe_imp (pe_callTy call_tuple_of hg mt (by decide +kernel) (pa_cons ha.pe pa_nil h1) (by decide) (by decide) h1 h2) fun σ H Q ⟨t, ⟨ts, e, c⟩, q⟩ => by
    subst e
    refine ⟨ts, c, fun a H1 s1 ⟨xs, ha, ds⟩ => ⟨a, xs, rfl, .inl ⟨.inl (.inl ha), fun p n => ?_⟩⟩⟩
    have s3 := same_new (o := .tup xs) n
    exact q _ _ (s1.trans s3) ((ds.up (same_stay s3)).tup upd_same), fun σ _ _ _ s ⟨ts, e, c⟩ => ⟨ts, e, ha.up _ _ _ _ s c⟩⟩
theorem pd_atL {e : Expr} {i : Nat} {j : Nat} {p pos : Pos} {C : CDs} (ha : PLd X e C) : PD X (.Subscript e (.Constant (.int (i : Nat)) j p) pos) fun σ H t => ∃ ts, ts[i]? = some t ∧ C σ H ts :=
  ⟨pe_imp (pe_ix ix_list ha.pe pe_int fun _ _ => rfl) fun σ H Q ⟨t, ⟨ts, e, c⟩, q⟩ => by
    refine ⟨ts, c, fun a H1 s1 ⟨xs, ha, ds⟩ => ?_⟩
    obtain ⟨v, ev, dv⟩ := ds.at e
    exact ⟨a, xs, _, v, rfl, rfl, .inl (.inl ha), atI_nat ev, q _ _ s1 dv⟩, fun σ _ _ _ s ⟨ts, e, c⟩ => ⟨ts, e, ha.up _ _ _ _ s c⟩⟩
theorem pd_atT {e : Expr} {i : Nat} {j : Nat} {p pos : Pos} {C : CD} (ha : PD X e C) : PD X (.Subscript e (.Constant (.int (i : Nat)) j p) pos) fun σ H t => ∃ ts, ts[i]? = some t ∧ C σ H (.tup ts) :=
  ⟨pe_imp (pe_ix ix_tup ha.pe pe_int fun _ _ => rfl) fun σ H Q ⟨t, ⟨ts, e, c⟩, q⟩ => by
    refine ⟨_, c, fun a H1 s1 d => ?_⟩
    obtain ⟨a, xs, rfl, ha, ds⟩ := dat_tup d
    obtain ⟨v, ev, dv⟩ := ds.at e
    exact ⟨a, xs, _, v, rfl, rfl, sqt ha, atI_nat ev, q _ _ s1 dv⟩, fun σ _ _ _ s ⟨ts, e, c⟩ => ⟨ts, e, ha.up _ _ _ _ s c⟩⟩
/-- a list many times: a new one -/
theorem pe_repN {a b : Expr} {pos : Pos} {C : CDs} {D : CD} (ha : PLd X a C) (hb : PD X b D) : PE X (.BinOp a .Mult b pos) fun σ H Q => ∃ us, (∃ ts k, us = (List.replicate k ts).flatten ∧ ts.length ≤ 100 ∧ k ≤ 10000 ∧ C σ H ts ∧ D σ H (.int (k : Nat))) ∧ ∀ a H', H a = none → Same H H' → LD X.K H' a us → Q (.ref a) H' :=
  pe_imp (pe_op op_rep ha.pe hb.pe) fun σ H Q ⟨us, ⟨ts, k, e, few, kb, c, d⟩, q⟩ => by
    subst e
    refine ⟨_, c, fun p H1 s1 d1 => ⟨_, hb.up _ _ _ _ s1 d, fun u H2 s2 d2 => ?_⟩⟩
    obtain ⟨xs, hp, ds⟩ := d1.up s2
    have room : xs.length * k ≤ 100 * 10000 := Nat.mul_le_mul (by rw [ds.len]; exact few) kb
    refine ⟨p, k, xs, rfl, dat_int d2, hp, by omega, by omega, sl (by show xs.length * k ≤ _; omega), fun p2 n => ?_⟩
    have s3 := same_new (o := .lst (List.replicate (k : Int).toNat xs).flatten) n
    exact q _ _ (Ck.Same.non (s1.trans s2) n) ((s1.trans s2).trans s3) ⟨_, upd_same, (ds.up (same_stay s3)).reps k⟩
theorem ixN_nat {n k : Nat} (h : k < n) : ixN n (k : Int) = some k := by
  unfold ixN
  rw [if_pos (by omega), if_pos (by omega)]
  rfl
/-! ### what is said, and what is due -/
theorem pt_said {e d : Expr} {p q pos : Pos} {C D : CD} (GS : GSd X.prog X.w X.K X.mg X.base) (hr : Room 88 X.A) (hg : Gl X "_law_said") (he : PD X e C) (hd : PD X d D) (h1 : starEach [e] X.env = (false, eval e X.env) :: starEach [] X.env := by rfl) (hpl : (backTo q (starEach [] X.env)).any (·.1) = false := by rfl) (h2 : behindInMarks .NotEq d = false := by rfl) :
    PT X (.Compare (.Call (.Name "_law_said" p) [e] [] q) [.NotEq] [d] pos) fun σ H Q => ∃ t s, C σ H t ∧ D σ H s ∧ said t = s ∧ SeqAt.shaped (toD s) = true ∧ ∀ H', Same H H' → Q false H' :=
  pt_imp (pt_cmpR (op_neD hr.units) (pe_go GS hr pass0 hg (pa_cons he.pe pa_nil h1) (by decide) h1 hpl) hd.pe h2) fun σ H Q ⟨t, s, c, d, e, sh, q⟩ => by
    refine ⟨t, c, fun v H1 s1 d1 => ?_⟩
    try dsimp only [L2.tRet, L2.tRetN, tAndV, tOrV, tNotV, tCB, L2.tCons, L2.tNil, tC, tVar, L2.tOp, L2.tUn, tSeq, tAsg, gName, tIfS, tTest, tNext, tAnd, tOr, tNot, L2.tIf, tFld, sFld, sFldAug, tCall, tTup, tB, tAug, tDrop, L2.tSl, tPart, tNoPart, tBM, tBM0, tChain, gTup, gCons, gNil, tPar, tIs, List.set, L2.start, iTup, L2.iList, L2.iRng1, tUn, tLst, tTest, gSub, tCall, L2.tIf, tCB, rRep, List.set, List.cons_append, List.nil_append, cxOf]
    refine said_use d1 e fun p H2 s2 d2 => ⟨s, hd.up _ _ _ _ (s1.trans s2) d, fun u H3 s3 d3 => ?_⟩
    exact dat_ne sh (d2.up (same_stay s3)) d3 ⟨_, rfl, q _ ((s1.trans s2).trans s3)⟩
theorem pe_saidE {e d : Expr} {p q pos : Pos} {C D : CD} (GS : GSd X.prog X.w X.K X.mg X.base) (hr : Room 88 X.A) (hg : Gl X "_law_said") (he : PD X e C) (hd : PD X d D) (h1 : starEach [e] X.env = (false, eval e X.env) :: starEach [] X.env := by rfl) (hpl : (backTo q (starEach [] X.env)).any (·.1) = false := by rfl) (h2 : behindInMarks .Eq d = false := by rfl) :
    PE X (.Compare (.Call (.Name "_law_said" p) [e] [] q) [.Eq] [d] pos) fun σ H Q => ∃ t s, C σ H t ∧ D σ H s ∧ said t = s ∧ SeqAt.shaped (toD s) = true ∧ ∀ H', Same H H' → Q (.bl true) H' :=
  pe_imp (pe_cmpR (op_eqD hr.units) (pe_go GS hr pass0 hg (pa_cons he.pe pa_nil h1) (by decide) h1 hpl) hd.pe h2) fun σ H Q ⟨t, s, c, d, e, sh, q⟩ => by
    refine ⟨t, c, fun v H1 s1 d1 => ?_⟩
    try dsimp only [L2.tRet, L2.tRetN, tAndV, tOrV, tNotV, tCB, L2.tCons, L2.tNil, tC, tVar, L2.tOp, L2.tUn, tSeq, tAsg, gName, tIfS, tTest, tNext, tAnd, tOr, tNot, L2.tIf, tFld, sFld, sFldAug, tCall, tTup, tB, tAug, tDrop, L2.tSl, tPart, tNoPart, tBM, tBM0, tChain, gTup, gCons, gNil, tPar, tIs, List.set, L2.start, iTup, L2.iList, L2.iRng1, tUn, tLst, tTest, gSub, tCall, L2.tIf, tCB, rRep, List.set, List.cons_append, List.nil_append, cxOf]
    refine said_use d1 e fun p H2 s2 d2 => ⟨s, hd.up _ _ _ _ (s1.trans s2) d, fun u H3 s3 d3 => ?_⟩
    exact dat_eq sh (d2.up (same_stay s3)) d3 (q _ ((s1.trans s2).trans s3))
/-- a draw -/
theorem pe_draw {e : Expr} {C : CD} {x : Str} {p p2 pos : Pos} {i : Nat} (GT : GTk X.prog X.w X.K X.mg X.base) (hr : Room 88 X.A) (hg : Gl X "_law_take") (hx : PE X (.Name x p2) (tVar i)) (he : PD X e C) (h1 : starEach [Expr.Name x p2, e] X.env = (false, eval (Expr.Name x p2) X.env) :: starEach [e] X.env := by rfl) (h2 : starEach [e] X.env = (false, eval e X.env) :: starEach [] X.env := by rfl) (hpl : (backTo pos (starEach [e] X.env)).any (·.1) = false := by rfl) :
    PE X (.Call (.Name "_law_take" p) [.Name x p2, e] [] pos) fun σ H Q => ∃ l b, σ[i]? = some (some (.ref l)) ∧ C σ H (.int b) ∧ 0 < b ∧ b < 4294967296 ∧ Sr l H ∧ ∀ (r : Int) H2, 0 ≤ r → r < b → Stay H H2 → Sr l H2 → (∀ p o, p ≠ l → H p = some o → H2 p = some o) → Q (.int r) H2 :=
  pe_imp (pe_go GT hr pass0 hg (pa_cons hx (pa_cons he.pe pa_nil h2) h1) (by decide) h1 hpl) fun σ H Q ⟨l, b, e, c, b0, b1, sr, q⟩ => by
    refine ⟨_, e, ⟨_, c, fun v H1 s1 d1 => ?_⟩⟩
    have ev := dat_int d1
    subst ev
    try dsimp only [L2.tRet, L2.tRetN, tAndV, tOrV, tNotV, tCB, L2.tCons, L2.tNil, tC, tVar, L2.tOp, L2.tUn, tSeq, tAsg, gName, tIfS, tTest, tNext, tAnd, tOr, tNot, L2.tIf, tFld, sFld, sFldAug, tCall, tTup, tB, tAug, tDrop, L2.tSl, tPart, tNoPart, tBM, tBM0, tChain, gTup, gCons, gNil, tPar, tIs, List.set, L2.start, iTup, L2.iList, L2.iRng1, tUn, tLst, tTest, gSub, tCall, L2.tIf, tCB, rRep, List.set, List.cons_append, List.nil_append, cxOf]
    exact take_use (sr.up s1) b0 b1 fun r H2 r0 r1 st keep sr2 => q r H2 r0 r1 ((same_stay s1).trans st) sr2 (fun p o n h => by rw [keep p n]; exact s1 _ _ h)
end
end Ck

namespace Ck
open PySem PySem.Spec PyProof.Rows L2
section
variable {P : Program} {w : World} {K : PySem.W.Frag} {mg : Str → Option Value} {base : Heap}
abbrev sTrees : Stmt := topS 55
theorem scTr : FnScope ["_law_source_here", "_law_many", "_law_due", "_law_at", "_law_parts", "_law_half"] ["_law_source_here"] (defScope sTrees) := ⟨rfl, rfl, rfl, by decide +kernel, rfl, by decide +kernel, by decide +kernel⟩
/-- a law's part: True, and the source stands -/
def spYes : Sp := fun vs H Q _ => ∃ l, vs = [.ref l] ∧ Sr l H ∧ ∀ H', Stay H H' → Sr l H' → (∀ p o, p ≠ l → H p = some o → H' p = some o) → Q (.bl true) H'
/-- what has been since the start -/
structure Since (l : Addr) (H H' : Hp) : Prop where
  stay : Stay H H'
  sr : Sr l H'
  keep : ∀ p o, p ≠ l → H p = some o → H' p = some o
theorem Since.up {l : Addr} {H H1 H2 : Hp} (h : Since l H H1) (s : Same H1 H2) : Since l H H2 := ⟨h.stay.trans (same_stay s), h.sr.up s, fun p o n z => s _ _ (h.keep p o n z)⟩
theorem Since.draw {l : Addr} {H H1 H2 : Hp} (h : Since l H H1) (st : Stay H1 H2) (sr : Sr l H2) (k : ∀ p o, p ≠ l → H1 p = some o → H2 p = some o) : Since l H H2 := ⟨h.stay.trans st, sr, fun p o n z => k _ _ n (h.keep p o n z)⟩
theorem ok_trees {f : Addr} {fd : FuncData} (F : Fun K "_law_trees_right" "_law_trees_right" sTrees f fd) (GT : GTk P w K mg base) (GS : GSd P w K mg base) (mt : mg "tuple" = none) : FnOk P w K mg base CX0 89 f fd ["_law_source_here"] spYes := by
  refine F.ok scTr (fun vs H Q E h => ?_) (fun cdv A outer s H vs Q E hr h => ?_)
  · obtain ⟨_, rfl, _⟩ := h
    rfl
  obtain ⟨l, rfl, sr, q⟩ := h
  have hu := hr.units
  refine ⟨_, pss_cons (ps_for PassesOwn.never rfl (pi_tup (pe_tup (pa_cons pe_int (pa_cons pe_int (pa_cons (pe_op op_add pe_int (pe_draw GT hr rfl (pv 0) pd_int)) pa_nil))))) (pg_name (i := 1) scTr.nd rfl (.inl rfl))
      (pss_cons (ps_set (i := 2) scTr.nd rfl (.inl rfl) (pd_if op_lt (pd_var 1 (pv 1)) pd_int (pd_tup (pds_cons pd_str (pds_cons (pd_tup (pds_cons (pd_bin op_add (pd_var 1 (pv 1)) pd_int) (pds_cons (pd_bin op_add (pd_var 1 (pv 1)) pd_int) pds_nil))) pds_nil))) (pd_tup (pds_cons pd_str (pds_cons (pd_tup pds_nil) pds_nil)))).pe)
      (pss_cons (ps_if (pt_said GS hr rfl (pd_tup (pds_cons (pd_tup pds_nil) (pds_cons (pd_tup (pds_cons pd_str (pds_cons (pd_rep (pd_tup (pds_cons (pd_tup (pds_cons pd_str (pds_cons pd_str pds_nil))) pds_nil)) (pd_var 1 (pv 1))) pds_nil))) pds_nil))) (pd_var 2 (pv 2))) (pss_one (ps_ret pe_bl)) pss_nil)
      (pss_cons (ps_set (i := 3) scTr.nd rfl (.inl rfl) (pe_draw GT hr rfl (pv 0) (pd_var 1 (pv 1))))
      (pss_cons (ps_set (i := 4) scTr.nd rfl (.inl rfl) (pe_repN (pl_disp (pds_cons (pd_tup (pds_cons pd_str (pds_cons pd_str pds_nil))) pds_nil)) (pd_var 1 (pv 1))))
      (pss_cons (ps_asg (pd_tup (pds_cons pd_str (pds_cons pd_int pds_nil))).pe (pg_sub (pv 4) (pv 3) set_list))
      (pss_cons (ps_set (i := 2) scTr.nd rfl (.inl rfl) (pd_tup (pds_cons pd_str (pds_cons (pd_if op_lt (pd_var 3 (pv 3)) pd_int (pd_tup (pds_cons pd_neg (pds_cons (pd_var 3 (pv 3)) pds_nil))) (pd_tup pds_nil)) pds_nil))).pe)
      (pss_one (ps_if (pt_said GS hr rfl (pd_tup (pds_cons (pd_tup pds_nil) (pds_cons (pd_tup (pds_cons pd_str (pds_cons (pd_tuple mt (by rfl) (pl_var 4 (pv 4))) pds_nil))) pds_nil))) (pd_var 2 (pv 2))) (pss_one (ps_ret pe_bl)) pss_nil)))))))))
    (pss_cons (ps_set (i := 5) scTr.nd rfl (.inl rfl) (pd_tup (pds_cons pd_str (pds_cons (pd_rep (pd_tup (pds_cons (pd_tup (pds_cons pd_str (pds_cons pd_str pds_nil))) pds_nil)) pd_int) pds_nil))).pe)
    (pss_cons (ps_if (pt_said GS hr rfl (pd_tup (pds_cons (pd_tup (pds_cons (pd_tup (pds_cons pd_str (pds_cons (pd_var 5 (pv 5)) pds_nil))) pds_nil)) (pds_cons (pd_var 5 (pv 5)) pds_nil))) (pd_tup (pds_cons pd_str (pds_cons (pd_tup (pds_cons pd_int (pds_cons pd_int pds_nil))) pds_nil)))) (pss_one (ps_ret pe_bl)) pss_nil)
    (pss_one (ps_ret (pe_saidE GS hr rfl (pd_tup (pds_cons (pd_tup (pds_cons (pd_tup (pds_cons pd_str (pds_cons (pd_var 5 (pv 5)) pds_nil))) pds_nil)) (pds_cons (pd_tup (pds_cons pd_str (pds_cons (pd_var 5 (pv 5)) pds_nil))) pds_nil))) (pd_tup (pds_cons pd_str (pds_cons (pd_tup pds_nil) pds_nil)))))))), ?_⟩
  try dsimp only [L2.tRet, L2.tRetN, tAndV, tOrV, tNotV, tCB, L2.tCons, L2.tNil, tC, tVar, L2.tOp, L2.tUn, tSeq, tAsg, gName, tIfS, tTest, tNext, tAnd, tOr, tNot, L2.tIf, tFld, sFld, sFldAug, tCall, tTup, tB, tAug, tDrop, L2.tSl, tPart, tNoPart, tBM, tBM0, tChain, gTup, gCons, gNil, tPar, tIs, List.set, L2.start, iTup, L2.iList, L2.iRng1, tUn, tLst, tTest, gSub, tCall, L2.tIf, tCB, rRep, List.set, List.cons_append, List.nil_append, cxOf]
  refine loop_in ?_
  try dsimp only [L2.tRet, L2.tRetN, tAndV, tOrV, tNotV, tCB, L2.tCons, L2.tNil, tC, tVar, L2.tOp, L2.tUn, tSeq, tAsg, gName, tIfS, tTest, tNext, tAnd, tOr, tNot, L2.tIf, tFld, sFld, sFldAug, tCall, tTup, tB, tAug, tDrop, L2.tSl, tPart, tNoPart, tBM, tBM0, tChain, gTup, gCons, gNil, tPar, tIs, List.set, L2.start, iTup, L2.iList, L2.iRng1, tUn, tLst, tTest, gSub, tCall, L2.tIf, tCB, rRep, List.set, List.cons_append, List.nil_append, cxOf]
  refine ⟨l, 2990, rfl, rfl, by decide, by decide, sr, fun r H1 r0 r1 st sr1 kp => ?_⟩
  try dsimp only [L2.tRet, L2.tRetN, tAndV, tOrV, tNotV, tCB, L2.tCons, L2.tNil, tC, tVar, L2.tOp, L2.tUn, tSeq, tAsg, gName, tIfS, tTest, tNext, tAnd, tOr, tNot, L2.tIf, tFld, sFld, sFldAug, tCall, tTup, tB, tAug, tDrop, L2.tSl, tPart, tNoPart, tBM, tBM0, tChain, gTup, gCons, gNil, tPar, tIs, List.set, L2.start, iTup, L2.iList, L2.iRng1, tUn, tLst, tTest, gSub, tCall, L2.tIf, tCB, rRep, List.set, List.cons_append, List.nil_append, cxOf]
  refine ⟨_, _, rfl, rfl, sl (n := 3) (by decide), fun p1 n1 => ?_⟩
  try dsimp only [L2.tRet, L2.tRetN, tAndV, tOrV, tNotV, tCB, L2.tCons, L2.tNil, tC, tVar, L2.tOp, L2.tUn, tSeq, tAsg, gName, tIfS, tTest, tNext, tAnd, tOr, tNot, L2.tIf, tFld, sFld, sFldAug, tCall, tTup, tB, tAug, tDrop, L2.tSl, tPart, tNoPart, tBM, tBM0, tChain, gTup, gCons, gNil, tPar, tIs, List.set, L2.start, iTup, L2.iList, L2.iRng1, tUn, tLst, tTest, gSub, tCall, L2.tIf, tCB, rRep, List.set, List.cons_append, List.nil_append, cxOf]
  have si : Since l H H1 := ⟨st, sr1, kp⟩
  refine ⟨p1, rfl, ⟨_, sqt (K := K) upd_same⟩, loop_tup (K := K) (a := p1) (xs := [V.int 2999, V.int 3000, V.int (2 + r)]) (fun _ σ H' => (Since l H H' ∧ ∃ a b c d e, σ = [some (.ref l), a, b, c, d, e]) ∧ H' p1 = some (.tup [V.int 2999, V.int 3000, V.int (2 + r)])) ⟨⟨si.up (same_new n1), _, _, _, _, _, rfl⟩, upd_same⟩ (fun i σ H _ z => sqt (K := K) z.2) ?hs ?hd⟩
  case hs =>
    rintro i x σ H2 hx ⟨⟨si2, b1, b2, b3, b4, b5, rfl⟩, h1⟩
    obtain ⟨M, rfl, M2, M3⟩ : ∃ M : Nat, x = .int M ∧ 2 ≤ M ∧ M ≤ 3000 := by
      match i, hx with
      | 0, e => exact ⟨2999, (Option.some.inj e).symm, by decide, by decide⟩
      | 1, e => exact ⟨3000, (Option.some.inj e).symm, by decide, by decide⟩
      | 2, e => exact ⟨(2 + r).toNat, by rw [Int.toNat_of_nonneg (by omega)]; exact (Option.some.inj e).symm, by omega, by omega⟩
      | n + 3, e => cases e
    try dsimp only [L2.tRet, L2.tRetN, tAndV, tOrV, tNotV, tCB, L2.tCons, L2.tNil, tC, tVar, L2.tOp, L2.tUn, tSeq, tAsg, gName, tIfS, tTest, tNext, tAnd, tOr, tNot, L2.tIf, tFld, sFld, sFldAug, tCall, tTup, tB, tAug, tDrop, L2.tSl, tPart, tNoPart, tBM, tBM0, tChain, gTup, gCons, gNil, tPar, tIs, List.set, L2.start, iTup, L2.iList, L2.iRng1, tUn, tLst, tTest, gSub, tCall, L2.tIf, tCB, rRep, List.set, List.cons_append, List.nil_append, cxOf]
    refine ⟨if M < 3000 then szT (M + 1) (M + 1) else flT [], ⟨M, 3000, ⟨_, rfl, .int _⟩, rfl, ?_⟩, fun v H3 s3 d3 => ?_⟩
    · by_cases c : M < 3000
      · rw [if_pos c, if_pos (decide_eq_true (by omega))]
        repeat' (first | exact rfl | exact ⟨_, rfl, Dat.int _⟩ | exact ⟨_, rfl, by assumption⟩ | refine ⟨_, rfl, Nat.le_of_ble_eq_true rfl, ?_⟩ | refine ⟨_, _, rfl, by simp, Nat.le_of_ble_eq_true rfl, ?_, ?_, ?_⟩ | refine ⟨_, _, rfl, ?_, ?_⟩)
      · rw [if_neg c, if_neg (by rw [decide_eq_true_eq]; omega)]
        repeat' (first | exact rfl | exact ⟨_, rfl, Dat.int _⟩ | exact ⟨_, rfl, by assumption⟩ | refine ⟨_, rfl, Nat.le_of_ble_eq_true rfl, ?_⟩ | refine ⟨_, _, rfl, by simp, Nat.le_of_ble_eq_true rfl, ?_, ?_, ?_⟩ | refine ⟨_, _, rfl, ?_, ?_⟩)
    try dsimp only [L2.tRet, L2.tRetN, tAndV, tOrV, tNotV, tCB, L2.tCons, L2.tNil, tC, tVar, L2.tOp, L2.tUn, tSeq, tAsg, gName, tIfS, tTest, tNext, tAnd, tOr, tNot, L2.tIf, tFld, sFld, sFldAug, tCall, tTup, tB, tAug, tDrop, L2.tSl, tPart, tNoPart, tBM, tBM0, tChain, gTup, gCons, gNil, tPar, tIs, List.set, L2.start, iTup, L2.iList, L2.iRng1, tUn, tLst, tTest, gSub, tCall, L2.tIf, tCB, rRep, List.set, List.cons_append, List.nil_append, cxOf]
    refine ⟨prog [] (sq (List.replicate M [rA]).flatten), _, ?_, ⟨_, rfl, d3⟩, ?_, ?_, fun H4 s4 => if_no rfl ?_⟩
    · refine ⟨_, rfl, Nat.le_of_ble_eq_true rfl, _, _, rfl, ⟨_, rfl, Nat.le_of_ble_eq_true rfl, rfl⟩, _, _, rfl, ⟨_, rfl, Nat.le_of_ble_eq_true rfl, _, _, rfl, rfl, _, _, rfl, ⟨[rA], M, rfl, by simp, by decide, by omega, ?_, ⟨_, rfl, .int _⟩⟩, rfl⟩, rfl⟩
      repeat' (first | exact rfl | exact ⟨_, rfl, Dat.int _⟩ | exact ⟨_, rfl, by assumption⟩ | refine ⟨_, rfl, Nat.le_of_ble_eq_true rfl, ?_⟩ | refine ⟨_, _, rfl, by simp, Nat.le_of_ble_eq_true rfl, ?_, ?_, ?_⟩ | refine ⟨_, _, rfl, ?_, ?_⟩)
    · rw [flat_rep]
      split
      · exact said_seq M2 (by omega)
      · exact said_seq_over (by omega)
    · split
      · exact shaped_dat
      · exact shaped_fl []
    have si4 := (si2.up s3).up s4
    try dsimp only [L2.tRet, L2.tRetN, tAndV, tOrV, tNotV, tCB, L2.tCons, L2.tNil, tC, tVar, L2.tOp, L2.tUn, tSeq, tAsg, gName, tIfS, tTest, tNext, tAnd, tOr, tNot, L2.tIf, tFld, sFld, sFldAug, tCall, tTup, tB, tAug, tDrop, L2.tSl, tPart, tNoPart, tBM, tBM0, tChain, gTup, gCons, gNil, tPar, tIs, List.set, L2.start, iTup, L2.iList, L2.iRng1, tUn, tLst, tTest, gSub, tCall, L2.tIf, tCB, rRep, List.set, List.cons_append, List.nil_append, cxOf]
    refine ⟨l, M, rfl, ⟨_, rfl, .int _⟩, by omega, by omega, si4.sr, fun q5 H5 q0 q1 st5 sr5 kp5 => ?_⟩
    have si5 := si4.draw st5 sr5 kp5
    have h5 := st5 _ _ (s4 _ _ (s3 _ _ h1))
    obtain ⟨at', rfl⟩ : ∃ n : Nat, q5 = n := ⟨q5.toNat, by omega⟩
    try dsimp only [L2.tRet, L2.tRetN, tAndV, tOrV, tNotV, tCB, L2.tCons, L2.tNil, tC, tVar, L2.tOp, L2.tUn, tSeq, tAsg, gName, tIfS, tTest, tNext, tAnd, tOr, tNot, L2.tIf, tFld, sFld, sFldAug, tCall, tTup, tB, tAug, tDrop, L2.tSl, tPart, tNoPart, tBM, tBM0, tChain, gTup, gCons, gNil, tPar, tIs, List.set, L2.start, iTup, L2.iList, L2.iRng1, tUn, tLst, tTest, gSub, tCall, L2.tIf, tCB, rRep, List.set, List.cons_append, List.nil_append, cxOf]
    refine ⟨(List.replicate M [rA]).flatten, ⟨[rA], M, rfl, by decide, by omega, ⟨by decide, _, _, rfl, ?_, rfl⟩, ⟨_, rfl, .int _⟩⟩, fun a H6 na s6 d6 => ?_⟩
    · repeat' (first | exact rfl | exact ⟨_, rfl, Dat.int _⟩ | exact ⟨_, rfl, by assumption⟩ | refine ⟨_, rfl, Nat.le_of_ble_eq_true rfl, ?_⟩ | refine ⟨_, _, rfl, by simp, Nat.le_of_ble_eq_true rfl, ?_, ?_, ?_⟩ | refine ⟨_, _, rfl, ?_, ?_⟩)
    try dsimp only [L2.tRet, L2.tRetN, tAndV, tOrV, tNotV, tCB, L2.tCons, L2.tNil, tC, tVar, L2.tOp, L2.tUn, tSeq, tAsg, gName, tIfS, tTest, tNext, tAnd, tOr, tNot, L2.tIf, tFld, sFld, sFldAug, tCall, tTup, tB, tAug, tDrop, L2.tSl, tPart, tNoPart, tBM, tBM0, tChain, gTup, gCons, gNil, tPar, tIs, List.set, L2.start, iTup, L2.iList, L2.iRng1, tUn, tLst, tTest, gSub, tCall, L2.tIf, tCB, rRep, List.set, List.cons_append, List.nil_append, cxOf]
    refine ⟨r5, ?_, fun v5 H7 s7 d7 => ?_⟩
    · repeat' (first | exact rfl | exact ⟨_, rfl, Dat.int _⟩ | exact ⟨_, rfl, by assumption⟩ | refine ⟨_, rfl, Nat.le_of_ble_eq_true rfl, ?_⟩ | refine ⟨_, _, rfl, by simp, Nat.le_of_ble_eq_true rfl, ?_, ?_, ?_⟩ | refine ⟨_, _, rfl, ?_, ?_⟩)
    try dsimp only [L2.tRet, L2.tRetN, tAndV, tOrV, tNotV, tCB, L2.tCons, L2.tNil, tC, tVar, L2.tOp, L2.tUn, tSeq, tAsg, gName, tIfS, tTest, tNext, tAnd, tOr, tNot, L2.tIf, tFld, sFld, sFldAug, tCall, tTup, tB, tAug, tDrop, L2.tSl, tPart, tNoPart, tBM, tBM0, tChain, gTup, gCons, gNil, tPar, tIs, List.set, L2.start, iTup, L2.iList, L2.iRng1, tUn, tLst, tTest, gSub, tCall, L2.tIf, tCB, rRep, List.set, List.cons_append, List.nil_append, cxOf]
    obtain ⟨xs, hx6, ds6⟩ := d6.up s7
    have len := ds6.len
    rw [flat_rep, List.length_replicate] at len
    refine ⟨_, rfl, _, rfl, a, xs, at', at', rfl, rfl, hx6, ixN_nat (by omega), ?_⟩
    have al : a ≠ l := by
      intro z
      subst z
      obtain ⟨_, _, _, e⟩ := sr5
      rw [na] at e
      cases e
    have st8 : Stay H7 (upd H7 a (.lst (xs.set at' v5))) := stay_lst hx6
    have si7 := (si5.up s6).up s7
    have si8 : Since l H (upd H7 a (.lst (xs.set at' v5))) := ⟨si7.stay.trans st8, by
      obtain ⟨x, y, z, e⟩ := si7.sr
      exact ⟨x, y, z, by rw [upd_ne (Ne.symm al)]; exact e⟩, fun p o n h => by
      have pa : p ≠ a := ne_of_none (si5.keep p o n h) na
      rw [upd_ne pa]
      exact si7.keep p o n h⟩
    have h8 := st8 _ _ (s7 _ _ (s6 _ _ h5))
    have ld8 : LD K (upd H7 a (.lst (xs.set at' v5))) a ((List.replicate M [rA]).flatten.set at' r5) := ⟨_, upd_same, (ds6.set d7 at').up st8⟩
    generalize upd H7 a (.lst (xs.set at' v5)) = H8 at si8 h8 ld8 ⊢
    try dsimp only [L2.tRet, L2.tRetN, tAndV, tOrV, tNotV, tCB, L2.tCons, L2.tNil, tC, tVar, L2.tOp, L2.tUn, tSeq, tAsg, gName, tIfS, tTest, tNext, tAnd, tOr, tNot, L2.tIf, tFld, sFld, sFldAug, tCall, tTup, tB, tAug, tDrop, L2.tSl, tPart, tNoPart, tBM, tBM0, tChain, gTup, gCons, gNil, tPar, tIs, List.set, L2.start, iTup, L2.iList, L2.iRng1, tUn, tLst, tTest, gSub, tCall, L2.tIf, tCB, rRep, List.set, List.cons_append, List.nil_append, cxOf]
    refine ⟨flT (if at' < 2999 then [-1, (at' : Int)] else []), ⟨_, rfl, Nat.le_of_ble_eq_true rfl, _, _, rfl, rfl, _, _, rfl, ⟨at', 2999, ⟨_, rfl, .int _⟩, rfl, ?_⟩, rfl⟩, fun v9 H9 s9 d9 => ?_⟩
    · by_cases c : at' < 2999
      · rw [if_pos c, if_pos (decide_eq_true (by omega))]
        repeat' (first | exact rfl | exact ⟨_, rfl, Dat.int _⟩ | exact ⟨_, rfl, by assumption⟩ | refine ⟨_, rfl, Nat.le_of_ble_eq_true rfl, ?_⟩ | refine ⟨_, _, rfl, by simp, Nat.le_of_ble_eq_true rfl, ?_, ?_, ?_⟩ | refine ⟨_, _, rfl, ?_, ?_⟩)
      · rw [if_neg c, if_neg (by rw [decide_eq_true_eq]; omega)]
        repeat' (first | exact rfl | exact ⟨_, rfl, Dat.int _⟩ | exact ⟨_, rfl, by assumption⟩ | refine ⟨_, rfl, Nat.le_of_ble_eq_true rfl, ?_⟩ | refine ⟨_, _, rfl, by simp, Nat.le_of_ble_eq_true rfl, ?_, ?_, ?_⟩ | refine ⟨_, _, rfl, ?_, ?_⟩)
    try dsimp only [L2.tRet, L2.tRetN, tAndV, tOrV, tNotV, tCB, L2.tCons, L2.tNil, tC, tVar, L2.tOp, L2.tUn, tSeq, tAsg, gName, tIfS, tTest, tNext, tAnd, tOr, tNot, L2.tIf, tFld, sFld, sFldAug, tCall, tTup, tB, tAug, tDrop, L2.tSl, tPart, tNoPart, tBM, tBM0, tChain, gTup, gCons, gNil, tPar, tIs, List.set, L2.start, iTup, L2.iList, L2.iRng1, tUn, tLst, tTest, gSub, tCall, L2.tIf, tCB, rRep, List.set, List.cons_append, List.nil_append, cxOf]
    refine ⟨prog [] (sq ((List.replicate M [rA]).flatten.set at' r5)), _, ?_, ⟨_, rfl, d9⟩, ?_, shaped_fl _, fun H10 s10 => if_no rfl ⟨⟨(si8.up s9).up s10, _, _, _, _, _, rfl⟩, s10 _ _ (s9 _ _ h8)⟩⟩
    · exact ⟨_, rfl, Nat.le_of_ble_eq_true rfl, _, _, rfl, ⟨_, rfl, Nat.le_of_ble_eq_true rfl, rfl⟩, _, _, rfl, ⟨_, rfl, Nat.le_of_ble_eq_true rfl, _, _, rfl, rfl, _, _, rfl, ⟨_, rfl, a, rfl, ld8.up s9⟩, rfl⟩, rfl⟩
    · rw [flat_rep]
      exact said_set M2 (by omega) M3
  case hd =>
    rintro σ H2 ⟨⟨si2, b1, b2, b3, b4, b5, rfl⟩, h1⟩
    try dsimp only [L2.tRet, L2.tRetN, tAndV, tOrV, tNotV, tCB, L2.tCons, L2.tNil, tC, tVar, L2.tOp, L2.tUn, tSeq, tAsg, gName, tIfS, tTest, tNext, tAnd, tOr, tNot, L2.tIf, tFld, sFld, sFldAug, tCall, tTup, tB, tAug, tDrop, L2.tSl, tPart, tNoPart, tBM, tBM0, tChain, gTup, gCons, gNil, tPar, tIs, List.set, L2.start, iTup, L2.iList, L2.iRng1, tUn, tLst, tTest, gSub, tCall, L2.tIf, tCB, rRep, List.set, List.cons_append, List.nil_append, cxOf]
    refine ⟨sq (List.replicate 1499 [rA]).flatten, ⟨_, rfl, Nat.le_of_ble_eq_true rfl, _, _, rfl, rfl, _, _, rfl, ⟨[rA], 1499, rfl, by simp, by decide, by decide, ?_, rfl⟩, rfl⟩, fun v H3 s3 d3 => ?_⟩
    · repeat' (first | exact rfl | exact ⟨_, rfl, Dat.int _⟩ | exact ⟨_, rfl, by assumption⟩ | refine ⟨_, rfl, Nat.le_of_ble_eq_true rfl, ?_⟩ | refine ⟨_, _, rfl, by simp, Nat.le_of_ble_eq_true rfl, ?_, ?_, ?_⟩ | refine ⟨_, _, rfl, ?_, ?_⟩)
    rw [flat_rep] at d3
    try dsimp only [L2.tRet, L2.tRetN, tAndV, tOrV, tNotV, tCB, L2.tCons, L2.tNil, tC, tVar, L2.tOp, L2.tUn, tSeq, tAsg, gName, tIfS, tTest, tNext, tAnd, tOr, tNot, L2.tIf, tFld, sFld, sFldAug, tCall, tTup, tB, tAug, tDrop, L2.tSl, tPart, tNoPart, tBM, tBM0, tChain, gTup, gCons, gNil, tPar, tIs, List.set, L2.start, iTup, L2.iList, L2.iRng1, tUn, tLst, tTest, gSub, tCall, L2.tIf, tCB, rRep, List.set, List.cons_append, List.nil_append, cxOf]
    refine ⟨prog [un "f" half] half, szT 3000 1500, ?_, ?_, said_half, shaped_dat, fun H4 s4 => if_no rfl ?_⟩
    · repeat' (first | exact rfl | exact ⟨_, rfl, Dat.int _⟩ | exact ⟨_, rfl, by assumption⟩ | refine ⟨_, rfl, Nat.le_of_ble_eq_true rfl, ?_⟩ | refine ⟨_, _, rfl, by simp, Nat.le_of_ble_eq_true rfl, ?_, ?_, ?_⟩ | refine ⟨_, _, rfl, ?_, ?_⟩)
    · repeat' (first | exact rfl | exact ⟨_, rfl, Dat.int _⟩ | exact ⟨_, rfl, by assumption⟩ | refine ⟨_, rfl, Nat.le_of_ble_eq_true rfl, ?_⟩ | refine ⟨_, _, rfl, by simp, Nat.le_of_ble_eq_true rfl, ?_, ?_, ?_⟩ | refine ⟨_, _, rfl, ?_, ?_⟩)
    have d4 := d3.up (same_stay s4)
    try dsimp only [L2.tRet, L2.tRetN, tAndV, tOrV, tNotV, tCB, L2.tCons, L2.tNil, tC, tVar, L2.tOp, L2.tUn, tSeq, tAsg, gName, tIfS, tTest, tNext, tAnd, tOr, tNot, L2.tIf, tFld, sFld, sFldAug, tCall, tTup, tB, tAug, tDrop, L2.tSl, tPart, tNoPart, tBM, tBM0, tChain, gTup, gCons, gNil, tPar, tIs, List.set, L2.start, iTup, L2.iList, L2.iRng1, tUn, tLst, tTest, gSub, tCall, L2.tIf, tCB, rRep, List.set, List.cons_append, List.nil_append, cxOf]
    refine ⟨prog [un "f" half] (un "not" half), flT [], ?_, ?_, said_half_not, shaped_fl _, fun H5 s5 => ?_⟩
    · repeat' (first | exact rfl | exact ⟨_, rfl, Dat.int _⟩ | exact ⟨_, rfl, by assumption⟩ | refine ⟨_, rfl, Nat.le_of_ble_eq_true rfl, ?_⟩ | refine ⟨_, _, rfl, by simp, Nat.le_of_ble_eq_true rfl, ?_, ?_, ?_⟩ | refine ⟨_, _, rfl, ?_, ?_⟩)
    · repeat' (first | exact rfl | exact ⟨_, rfl, Dat.int _⟩ | exact ⟨_, rfl, by assumption⟩ | refine ⟨_, rfl, Nat.le_of_ble_eq_true rfl, ?_⟩ | refine ⟨_, _, rfl, by simp, Nat.le_of_ble_eq_true rfl, ?_, ?_, ?_⟩ | refine ⟨_, _, rfl, ?_, ?_⟩)
    have si5 := ((si2.up s3).up s4).up s5
    exact q _ si5.stay si5.sr si5.keep
end
end Ck

namespace Ck
open PySem PySem.Spec PyProof.Rows L2
section
variable {P : Program} {w : World} {K : PySem.W.Frag} {mg : Str → Option Value} {base : Heap}
abbrev sPaths : Stmt := topS 56
theorem scPa : FnScope ["_law_source_here", "_law_shared", "_law_sharp", "_law_k", "_law_tall", "_law_place", "_law_deep"] ["_law_source_here"] (defScope sPaths) := ⟨rfl, rfl, rfl, by decide +kernel, rfl, by decide +kernel, by decide +kernel⟩
theorem dats_two {H : Hp} {vs : List V} {a b : T} (d : Dats K H vs [a, b]) : ∃ v u, vs = [v, u] ∧ Dat K H v a ∧ Dat K H u b := by
  obtain ⟨v, us, rfl, d1, r⟩ := dats_cons d
  obtain ⟨u, us2, rfl, d2, r2⟩ := dats_cons r
  cases dats_nil r2
  exact ⟨v, u, rfl, d1, d2⟩
abbrev z0 (n : Nat) : List T := (List.replicate n [T.int 0]).flatten
theorem z0_is (n : Nat) : z0 n = (zeros n).map T.int := by
  rw [z0, flat_rep, zeros, List.map_replicate]
theorem ok_paths {f : Addr} {fd : FuncData} (F : Fun K "_law_paths_right" "_law_paths_right" sPaths f fd) (GT : GTk P w K mg base) (GS : GSd P w K mg base) (mr : mg "range" = none) : FnOk P w K mg base CX0 89 f fd ["_law_source_here"] spYes := by
  refine F.ok scPa (fun vs H Q E h => ?_) (fun cdv A outer s H vs Q E hr h => ?_)
  · obtain ⟨_, rfl, _⟩ := h
    rfl
  obtain ⟨l, rfl, sr, q⟩ := h
  refine ⟨_, (pss_cons (ps_asg (pd_tup (pds_cons (pd_tup (pds_cons pd_str (pds_cons pd_str pds_nil))) (pds_cons (pd_tup (pds_cons pd_str (pds_cons pd_str pds_nil))) pds_nil))).pe (pg_tup (by rfl) (pgs_cons (pg_name (i := 1) scPa.nd rfl (.inl rfl)) (pgs_cons (pg_name (i := 2) scPa.nd rfl (.inl rfl)) pgs_nil)))) (pss_cons (ps_for PassesOwn.never rfl (pi_range1 rfl mr (pa_cons pe_int pa_nil)) (pg_name (i := 3) scPa.nd rfl (.inl rfl)) (pss_one (ps_par (by rfl) scPa.nd (i := 1) (j := 2) rfl rfl (by decide) rfl rfl (pds_cons (pd_tup (pds_cons pd_str (pds_cons (pd_var 1 (pv 1)) (pds_cons (pd_var 1 (pv 1)) pds_nil)))) (pds_cons (pd_tup (pds_cons pd_str (pds_cons (pd_var 2 (pv 2)) pds_nil))) pds_nil)).pa (by rfl)))) (pss_cons (ps_if (PW.pt (pw_or (pt_said GS hr rfl (pd_tup (pds_cons (pd_tup pds_nil) (pds_cons (pd_var 1 (pv 1)) pds_nil))) (pd_tup (pds_cons pd_str (pds_cons (pd_tup pds_nil) pds_nil)))) (pw_or1 (pt_said GS hr rfl (pd_tup (pds_cons (pd_tup pds_nil) (pds_cons (pd_var 2 (pv 2)) pds_nil))) (pd_tup (pds_cons pd_str (pds_cons (pd_tup (pds_cons pd_int (pds_cons pd_int pds_nil))) pds_nil))))))) (pss_one (ps_ret pe_bl)) pss_nil) (pss_cons (ps_if (pt_said GS hr rfl (pd_tup (pds_cons (pd_tup pds_nil) (pds_cons (pd_tup (pds_cons pd_str (pds_cons (pd_var 2 (pv 2)) pds_nil))) pds_nil))) (pd_tup (pds_cons pd_str (pds_cons (pd_cat (pd_tup (pds_cons pd_neg pds_nil)) (pd_rep (pd_tup (pds_cons pd_int pds_nil)) pd_int)) pds_nil)))) (pss_one (ps_ret pe_bl)) pss_nil) (pss_cons (ps_if (pt_said GS hr rfl (pd_tup (pds_cons (pd_tup (pds_cons (pd_tup (pds_cons pd_str (pds_cons (pd_tup (pds_cons pd_str (pds_cons (pd_var 2 (pv 2)) pds_nil))) pds_nil))) pds_nil)) (pds_cons pd_non pds_nil))) (pd_tup (pds_cons pd_str (pds_cons (pd_cat (pd_tup (pds_cons pd_int pds_nil)) (pd_rep (pd_tup (pds_cons pd_int pds_nil)) pd_int)) pds_nil)))) (pss_one (ps_ret pe_bl)) pss_nil) (pss_cons (ps_set (i := 4) scPa.nd rfl (.inl rfl) (pd_tup (pds_cons pd_str (pds_cons pd_str pds_nil))).pe) (pss_cons (ps_for PassesOwn.never rfl (pi_range1 rfl mr (pa_cons pe_int pa_nil)) (pg_name (i := 3) scPa.nd rfl (.inl rfl)) (pss_one (ps_set (i := 4) scPa.nd rfl (.inl rfl) (pd_tup (pds_cons pd_str (pds_cons (pd_var 4 (pv 4)) pds_nil))).pe))) (pss_cons (ps_if (pt_said GS hr rfl (pd_tup (pds_cons (pd_tup pds_nil) (pds_cons (pd_var 4 (pv 4)) pds_nil))) (pd_tup (pds_cons pd_str (pds_cons (pd_cat (pd_tup (pds_cons pd_neg pds_nil)) (pd_rep (pd_tup (pds_cons pd_int pds_nil)) pd_int)) pds_nil)))) (pss_one (ps_ret pe_bl)) pss_nil) (pss_cons (ps_set (i := 5) scPa.nd rfl (.inl rfl) (pe_draw GT hr rfl (pv 0) pd_int)) (pss_cons (ps_set (i := 6) scPa.nd rfl (.inl rfl) (pd_tup (pds_cons pd_str (pds_cons (pd_cat (pd_cat (pd_rep (pd_tup (pds_cons (pd_tup (pds_cons pd_str (pds_cons pd_int pds_nil))) pds_nil)) (pd_var 5 (pv 5))) (pd_tup (pds_cons (pd_tup (pds_cons pd_str (pds_cons (pd_var 2 (pv 2)) pds_nil))) pds_nil))) (pd_rep (pd_tup (pds_cons (pd_tup (pds_cons pd_str (pds_cons pd_int pds_nil))) pds_nil)) pd_int)) pds_nil))).pe) (pss_one (ps_ret (pe_saidE GS hr rfl (pd_tup (pds_cons (pd_tup pds_nil) (pds_cons (pd_var 6 (pv 6)) pds_nil))) (pd_tup (pds_cons pd_str (pds_cons (pd_cat (pd_tup (pds_cons pd_neg (pds_cons (pd_var 5 (pv 5)) pds_nil))) (pd_rep (pd_tup (pds_cons pd_int pds_nil)) pd_int)) pds_nil)))))))))))))))), ?_⟩
  try dsimp only [L2.tRet, L2.tRetN, tAndV, tOrV, tNotV, tCB, L2.tCons, L2.tNil, tC, tVar, L2.tOp, L2.tUn, tSeq, tAsg, gName, tIfS, tTest, tNext, tAnd, tOr, tNot, L2.tIf, tFld, sFld, sFldAug, tCall, tTup, tB, tAug, tDrop, L2.tSl, tPart, tNoPart, tBM, tBM0, tChain, gTup, gCons, gNil, tPar, tIs, List.set, L2.start, iTup, L2.iList, L2.iRng1, tUn, tLst, tTest, gSub, tCall, L2.tIf, tCB, rRep, List.set, List.cons_append, List.nil_append, cxOf]
  refine ⟨.tup [rA, rA], ?_, fun v0 H1 s1 d0 => ?_⟩
  · repeat' (first | exact rfl | exact ⟨_, rfl, Dat.int _⟩ | exact ⟨_, rfl, by assumption⟩ | refine ⟨_, rfl, Nat.le_of_ble_eq_true rfl, ?_⟩ | refine ⟨_, _, rfl, by simp, Nat.le_of_ble_eq_true rfl, ?_, ?_, ?_⟩ | refine ⟨_, _, rfl, ?_, ?_⟩)
  obtain ⟨a0, xs0, rfl, h0, ds1⟩ := dat_tup d0
  obtain ⟨v1, v2, rfl, d1, d2⟩ := dats_two ds1
  have si0 : Since l H H := ⟨fun _ _ z => z, sr, fun _ _ _ z => z⟩
  try dsimp only [L2.tRet, L2.tRetN, tAndV, tOrV, tNotV, tCB, L2.tCons, L2.tNil, tC, tVar, L2.tOp, L2.tUn, tSeq, tAsg, gName, tIfS, tTest, tNext, tAnd, tOr, tNot, L2.tIf, tFld, sFld, sFldAug, tCall, tTup, tB, tAug, tDrop, L2.tSl, tPart, tNoPart, tBM, tBM0, tChain, gTup, gCons, gNil, tPar, tIs, List.set, L2.start, iTup, L2.iList, L2.iRng1, tUn, tLst, tTest, gSub, tCall, L2.tIf, tCB, rRep, List.set, List.cons_append, List.nil_append, cxOf]
  refine ⟨a0, [v1, v2], rfl, sqt h0, rfl, ?_⟩
  try dsimp only [L2.tRet, L2.tRetN, tAndV, tOrV, tNotV, tCB, L2.tCons, L2.tNil, tC, tVar, L2.tOp, L2.tUn, tSeq, tAsg, gName, tIfS, tTest, tNext, tAnd, tOr, tNot, L2.tIf, tFld, sFld, sFldAug, tCall, tTup, tB, tAug, tDrop, L2.tSl, tPart, tNoPart, tBM, tBM0, tChain, gTup, gCons, gNil, tPar, tIs, List.set, L2.start, iTup, L2.iList, L2.iRng1, tUn, tLst, tTest, gSub, tCall, L2.tIf, tCB, rRep, List.set, List.cons_append, List.nil_append, cxOf]
  refine ⟨v1, [v2], rfl, v2, [], rfl, rfl, ?_⟩
  refine loop_in ?_
  try dsimp only [L2.tRet, L2.tRetN, tAndV, tOrV, tNotV, tCB, L2.tCons, L2.tNil, tC, tVar, L2.tOp, L2.tUn, tSeq, tAsg, gName, tIfS, tTest, tNext, tAnd, tOr, tNot, L2.tIf, tFld, sFld, sFldAug, tCall, tTup, tB, tAug, tDrop, L2.tSl, tPart, tNoPart, tBM, tBM0, tChain, gTup, gCons, gNil, tPar, tIs, List.set, L2.start, iTup, L2.iList, L2.iRng1, tUn, tLst, tTest, gSub, tCall, L2.tIf, tCB, rRep, List.set, List.cons_append, List.nil_append, cxOf]
  refine ⟨59, rfl, by decide, by decide, loop_range (lo := 0) (n := 59) (fun i σ H' => Since l H H' ∧ ∃ v1 v2 c, Dat K H' v1 (sh i) ∧ Dat K H' v2 (pile "not" i rA) ∧ σ = [some (.ref l), some v1, some v2, c, none, none, none]) ⟨si0.up s1, v1, v2, none, d1, d2, rfl⟩ ?hs ?hd⟩
  case hs =>
    rintro i σ H2 li ⟨si2, v1, v2, c, e1, e2, rfl⟩
    try dsimp only [L2.tRet, L2.tRetN, tAndV, tOrV, tNotV, tCB, L2.tCons, L2.tNil, tC, tVar, L2.tOp, L2.tUn, tSeq, tAsg, gName, tIfS, tTest, tNext, tAnd, tOr, tNot, L2.tIf, tFld, sFld, sFldAug, tCall, tTup, tB, tAug, tDrop, L2.tSl, tPart, tNoPart, tBM, tBM0, tChain, gTup, gCons, gNil, tPar, tIs, List.set, L2.start, iTup, L2.iList, L2.iRng1, tUn, tLst, tTest, gSub, tCall, L2.tIf, tCB, rRep, List.set, List.cons_append, List.nil_append, cxOf]
    refine ⟨[sh (i + 1), pile "not" (i + 1) rA], ?_, fun vs H3 s3 ds3 => ?_⟩
    · show ∃ t us, _
      refine ⟨_, _, rfl, ⟨[.str "and", sh i, sh i], rfl, Nat.le_of_ble_eq_true rfl, ?_⟩, _, _, rfl, ⟨[.str "not", pile "not" i rA], rfl, Nat.le_of_ble_eq_true rfl, ?_⟩, rfl⟩
      · repeat' (first | exact rfl | exact ⟨_, rfl, Dat.int _⟩ | exact ⟨_, rfl, by assumption⟩ | refine ⟨_, rfl, Nat.le_of_ble_eq_true rfl, ?_⟩ | refine ⟨_, _, rfl, by simp, Nat.le_of_ble_eq_true rfl, ?_, ?_, ?_⟩ | refine ⟨_, _, rfl, ?_, ?_⟩)
      · repeat' (first | exact rfl | exact ⟨_, rfl, Dat.int _⟩ | exact ⟨_, rfl, by assumption⟩ | refine ⟨_, rfl, Nat.le_of_ble_eq_true rfl, ?_⟩ | refine ⟨_, _, rfl, by simp, Nat.le_of_ble_eq_true rfl, ?_, ?_, ?_⟩ | refine ⟨_, _, rfl, ?_, ?_⟩)
    obtain ⟨v3, v4, rfl, d3, d4⟩ := dats_two ds3
    exact ⟨v3, v4, rfl, si2.up s3, v3, v4, _, d3, d4, rfl⟩
  case hd =>
    rintro σ H2 ⟨si2, v1, v2, c, e1, e2, rfl⟩
    try dsimp only [L2.tRet, L2.tRetN, tAndV, tOrV, tNotV, tCB, L2.tCons, L2.tNil, tC, tVar, L2.tOp, L2.tUn, tSeq, tAsg, gName, tIfS, tTest, tNext, tAnd, tOr, tNot, L2.tIf, tFld, sFld, sFldAug, tCall, tTup, tB, tAug, tDrop, L2.tSl, tPart, tNoPart, tBM, tBM0, tChain, gTup, gCons, gNil, tPar, tIs, List.set, L2.start, iTup, L2.iList, L2.iRng1, tUn, tLst, tTest, gSub, tCall, L2.tIf, tCB, rRep, List.set, List.cons_append, List.nil_append, cxOf]
    refine ⟨prog [] (sh 59), flT [], ?_, ?_, said_shared, shaped_fl _, fun H3 s3 => ?_⟩
    · repeat' (first | exact rfl | exact ⟨_, rfl, Dat.int _⟩ | exact ⟨_, rfl, by assumption⟩ | refine ⟨_, rfl, Nat.le_of_ble_eq_true rfl, ?_⟩ | refine ⟨_, _, rfl, by simp, Nat.le_of_ble_eq_true rfl, ?_, ?_, ?_⟩ | refine ⟨_, _, rfl, ?_, ?_⟩)
    · repeat' (first | exact rfl | exact ⟨_, rfl, Dat.int _⟩ | exact ⟨_, rfl, by assumption⟩ | refine ⟨_, rfl, Nat.le_of_ble_eq_true rfl, ?_⟩ | refine ⟨_, _, rfl, by simp, Nat.le_of_ble_eq_true rfl, ?_, ?_, ?_⟩ | refine ⟨_, _, rfl, ?_, ?_⟩)
    refine if_no rfl ?_
    try dsimp only [L2.tRet, L2.tRetN, tAndV, tOrV, tNotV, tCB, L2.tCons, L2.tNil, tC, tVar, L2.tOp, L2.tUn, tSeq, tAsg, gName, tIfS, tTest, tNext, tAnd, tOr, tNot, L2.tIf, tFld, sFld, sFldAug, tCall, tTup, tB, tAug, tDrop, L2.tSl, tPart, tNoPart, tBM, tBM0, tChain, gTup, gCons, gNil, tPar, tIs, List.set, L2.start, iTup, L2.iList, L2.iRng1, tUn, tLst, tTest, gSub, tCall, L2.tIf, tCB, rRep, List.set, List.cons_append, List.nil_append, cxOf]
    have f2 := e2.up (same_stay s3)
    refine ⟨prog [] sharp, szT 60 60, ?_, ?_, said_sharp, shaped_dat, fun H4 s4 => if_no rfl ?_⟩
    · repeat' (first | exact rfl | exact ⟨_, rfl, Dat.int _⟩ | exact ⟨_, rfl, by assumption⟩ | refine ⟨_, rfl, Nat.le_of_ble_eq_true rfl, ?_⟩ | refine ⟨_, _, rfl, by simp, Nat.le_of_ble_eq_true rfl, ?_, ?_, ?_⟩ | refine ⟨_, _, rfl, ?_, ?_⟩)
    · repeat' (first | exact rfl | exact ⟨_, rfl, Dat.int _⟩ | exact ⟨_, rfl, by assumption⟩ | refine ⟨_, rfl, Nat.le_of_ble_eq_true rfl, ?_⟩ | refine ⟨_, _, rfl, by simp, Nat.le_of_ble_eq_true rfl, ?_, ?_, ?_⟩ | refine ⟨_, _, rfl, ?_, ?_⟩)
    have g2 := f2.up (same_stay s4)
    have si4 := (si2.up s3).up s4
    try dsimp only [L2.tRet, L2.tRetN, tAndV, tOrV, tNotV, tCB, L2.tCons, L2.tNil, tC, tVar, L2.tOp, L2.tUn, tSeq, tAsg, gName, tIfS, tTest, tNext, tAnd, tOr, tNot, L2.tIf, tFld, sFld, sFldAug, tCall, tTup, tB, tAug, tDrop, L2.tSl, tPart, tNoPart, tBM, tBM0, tChain, gTup, gCons, gNil, tPar, tIs, List.set, L2.start, iTup, L2.iList, L2.iRng1, tUn, tLst, tTest, gSub, tCall, L2.tIf, tCB, rRep, List.set, List.cons_append, List.nil_append, cxOf]
    refine ⟨prog [] (un "sub" sharp), flT (-1 :: zeros 60), ?_, ?_, said_sub_sharp, shaped_fl _, fun H5 s5 => if_no rfl ?_⟩
    · repeat' (first | exact rfl | exact ⟨_, rfl, Dat.int _⟩ | exact ⟨_, rfl, by assumption⟩ | refine ⟨_, rfl, Nat.le_of_ble_eq_true rfl, ?_⟩ | refine ⟨_, _, rfl, by simp, Nat.le_of_ble_eq_true rfl, ?_, ?_, ?_⟩ | refine ⟨_, _, rfl, ?_, ?_⟩)
    · exact ⟨_, rfl, Nat.le_of_ble_eq_true rfl, _, _, rfl, rfl, _, _, rfl, ⟨[.int (-1)], z0 60, by rw [z0_is]; rfl, by decide, ⟨_, rfl, by decide, _, _, rfl, rfl, rfl⟩, [.int 0], 60, rfl, by simp, by decide, by decide, ⟨_, rfl, by decide, _, _, rfl, rfl, rfl⟩, rfl⟩, rfl⟩
    have h2 := g2.up (same_stay s5)
    have si5 := si4.up s5
    try dsimp only [L2.tRet, L2.tRetN, tAndV, tOrV, tNotV, tCB, L2.tCons, L2.tNil, tC, tVar, L2.tOp, L2.tUn, tSeq, tAsg, gName, tIfS, tTest, tNext, tAnd, tOr, tNot, L2.tIf, tFld, sFld, sFldAug, tCall, tTup, tB, tAug, tDrop, L2.tSl, tPart, tNoPart, tBM, tBM0, tChain, gTup, gCons, gNil, tPar, tIs, List.set, L2.start, iTup, L2.iList, L2.iRng1, tUn, tLst, tTest, gSub, tCall, L2.tIf, tCB, rRep, List.set, List.cons_append, List.nil_append, cxOf]
    refine ⟨prog [un "f" (un "sub" sharp)] .non, flT (0 :: zeros 60), ?_, ?_, said_f_sharp, shaped_fl _, fun H6 s6 => if_no rfl ?_⟩
    · repeat' (first | exact rfl | exact ⟨_, rfl, Dat.int _⟩ | exact ⟨_, rfl, by assumption⟩ | refine ⟨_, rfl, Nat.le_of_ble_eq_true rfl, ?_⟩ | refine ⟨_, _, rfl, by simp, Nat.le_of_ble_eq_true rfl, ?_, ?_, ?_⟩ | refine ⟨_, _, rfl, ?_, ?_⟩)
    · exact ⟨_, rfl, Nat.le_of_ble_eq_true rfl, _, _, rfl, rfl, _, _, rfl, ⟨[.int 0], z0 60, by rw [z0_is]; rfl, by decide, ⟨_, rfl, by decide, _, _, rfl, rfl, rfl⟩, [.int 0], 60, rfl, by simp, by decide, by decide, ⟨_, rfl, by decide, _, _, rfl, rfl, rfl⟩, rfl⟩, rfl⟩
    have i2 := h2.up (same_stay s6)
    have si6 := si5.up s6
    try dsimp only [L2.tRet, L2.tRetN, tAndV, tOrV, tNotV, tCB, L2.tCons, L2.tNil, tC, tVar, L2.tOp, L2.tUn, tSeq, tAsg, gName, tIfS, tTest, tNext, tAnd, tOr, tNot, L2.tIf, tFld, sFld, sFldAug, tCall, tTup, tB, tAug, tDrop, L2.tSl, tPart, tNoPart, tBM, tBM0, tChain, gTup, gCons, gNil, tPar, tIs, List.set, L2.start, iTup, L2.iList, L2.iRng1, tUn, tLst, tTest, gSub, tCall, L2.tIf, tCB, rRep, List.set, List.cons_append, List.nil_append, cxOf]
    refine ⟨rA, ?_, fun v7 H7 s7 d7 => ?_⟩
    · repeat' (first | exact rfl | exact ⟨_, rfl, Dat.int _⟩ | exact ⟨_, rfl, by assumption⟩ | refine ⟨_, rfl, Nat.le_of_ble_eq_true rfl, ?_⟩ | refine ⟨_, _, rfl, by simp, Nat.le_of_ble_eq_true rfl, ?_, ?_, ?_⟩ | refine ⟨_, _, rfl, ?_, ?_⟩)
    refine loop_in ?_
    try dsimp only [L2.tRet, L2.tRetN, tAndV, tOrV, tNotV, tCB, L2.tCons, L2.tNil, tC, tVar, L2.tOp, L2.tUn, tSeq, tAsg, gName, tIfS, tTest, tNext, tAnd, tOr, tNot, L2.tIf, tFld, sFld, sFldAug, tCall, tTup, tB, tAug, tDrop, L2.tSl, tPart, tNoPart, tBM, tBM0, tChain, gTup, gCons, gNil, tPar, tIs, List.set, L2.start, iTup, L2.iList, L2.iRng1, tUn, tLst, tTest, gSub, tCall, L2.tIf, tCB, rRep, List.set, List.cons_append, List.nil_append, cxOf]
    refine ⟨1200, rfl, by decide, by decide, loop_range (lo := 0) (n := 1200) (fun i σ H' => Since l H H' ∧ ∃ v4 c, Dat K H' v4 (pile "sub" i rA) ∧ Dat K H' v2 (pile "not" 59 rA) ∧ σ = [some (.ref l), some v1, some v2, c, some v4, none, none]) ⟨si6.up s7, v7, _, d7, i2.up (same_stay s7), rfl⟩ ?hs2 ?hd2⟩
    case hs2 =>
      rintro i σ H8 li ⟨si8, v4, c, e4, e5, rfl⟩
      try dsimp only [L2.tRet, L2.tRetN, tAndV, tOrV, tNotV, tCB, L2.tCons, L2.tNil, tC, tVar, L2.tOp, L2.tUn, tSeq, tAsg, gName, tIfS, tTest, tNext, tAnd, tOr, tNot, L2.tIf, tFld, sFld, sFldAug, tCall, tTup, tB, tAug, tDrop, L2.tSl, tPart, tNoPart, tBM, tBM0, tChain, gTup, gCons, gNil, tPar, tIs, List.set, L2.start, iTup, L2.iList, L2.iRng1, tUn, tLst, tTest, gSub, tCall, L2.tIf, tCB, rRep, List.set, List.cons_append, List.nil_append, cxOf]
      refine ⟨pile "sub" (i + 1) rA, ⟨[.str "sub", pile "sub" i rA], rfl, Nat.le_of_ble_eq_true rfl, ?_⟩, fun v9 H9 s9 d9 => ⟨si8.up s9, v9, _, d9, e5.up (same_stay s9), rfl⟩⟩
      repeat' (first | exact rfl | exact ⟨_, rfl, Dat.int _⟩ | exact ⟨_, rfl, by assumption⟩ | refine ⟨_, rfl, Nat.le_of_ble_eq_true rfl, ?_⟩ | refine ⟨_, _, rfl, by simp, Nat.le_of_ble_eq_true rfl, ?_, ?_, ?_⟩ | refine ⟨_, _, rfl, ?_, ?_⟩)
    case hd2 =>
      rintro σ H8 ⟨si8, v4, c, e4, e5, rfl⟩
      try dsimp only [L2.tRet, L2.tRetN, tAndV, tOrV, tNotV, tCB, L2.tCons, L2.tNil, tC, tVar, L2.tOp, L2.tUn, tSeq, tAsg, gName, tIfS, tTest, tNext, tAnd, tOr, tNot, L2.tIf, tFld, sFld, sFldAug, tCall, tTup, tB, tAug, tDrop, L2.tSl, tPart, tNoPart, tBM, tBM0, tChain, gTup, gCons, gNil, tPar, tIs, List.set, L2.start, iTup, L2.iList, L2.iRng1, tUn, tLst, tTest, gSub, tCall, L2.tIf, tCB, rRep, List.set, List.cons_append, List.nil_append, cxOf]
      refine ⟨prog [] (pile "sub" 1200 rA), flT (-1 :: zeros 60), ?_, ?_, said_tall, shaped_fl _, fun H9 s9 => if_no rfl ?_⟩
      · exact ⟨_, rfl, Nat.le_of_ble_eq_true rfl, _, _, rfl, ⟨_, rfl, Nat.le_of_ble_eq_true rfl, rfl⟩, _, _, rfl, ⟨v4, rfl, e4⟩, rfl⟩
      · exact ⟨_, rfl, Nat.le_of_ble_eq_true rfl, _, _, rfl, rfl, _, _, rfl, ⟨[.int (-1)], z0 60, by rw [z0_is]; rfl, by decide, ⟨_, rfl, by decide, _, _, rfl, rfl, rfl⟩, [.int 0], 60, rfl, by simp, by decide, by decide, ⟨_, rfl, by decide, _, _, rfl, rfl, rfl⟩, rfl⟩, rfl⟩
      have si9 := si8.up s9
      have e9 := e5.up (same_stay s9)
      try dsimp only [L2.tRet, L2.tRetN, tAndV, tOrV, tNotV, tCB, L2.tCons, L2.tNil, tC, tVar, L2.tOp, L2.tUn, tSeq, tAsg, gName, tIfS, tTest, tNext, tAnd, tOr, tNot, L2.tIf, tFld, sFld, sFldAug, tCall, tTup, tB, tAug, tDrop, L2.tSl, tPart, tNoPart, tBM, tBM0, tChain, gTup, gCons, gNil, tPar, tIs, List.set, L2.start, iTup, L2.iList, L2.iRng1, tUn, tLst, tTest, gSub, tCall, L2.tIf, tCB, rRep, List.set, List.cons_append, List.nil_append, cxOf]
      refine ⟨l, 3, rfl, rfl, by decide, by decide, si9.sr, fun r H10 r0 r1 st sr10 kp => ?_⟩
      obtain ⟨k, rfl⟩ : ∃ n : Nat, r = n := ⟨r.toNat, by omega⟩
      have si10 := si9.draw st sr10 kp
      have e10 := e9.up st
      try dsimp only [L2.tRet, L2.tRetN, tAndV, tOrV, tNotV, tCB, L2.tCons, L2.tNil, tC, tVar, L2.tOp, L2.tUn, tSeq, tAsg, gName, tIfS, tTest, tNext, tAnd, tOr, tNot, L2.tIf, tFld, sFld, sFldAug, tCall, tTup, tB, tAug, tDrop, L2.tSl, tPart, tNoPart, tBM, tBM0, tChain, gTup, gCons, gNil, tPar, tIs, List.set, L2.start, iTup, L2.iList, L2.iRng1, tUn, tLst, tTest, gSub, tCall, L2.tIf, tCB, rRep, List.set, List.cons_append, List.nil_append, cxOf]
      refine ⟨deep k, ⟨_, rfl, Nat.le_of_ble_eq_true rfl, _, _, rfl, rfl, _, _, rfl, ⟨List.replicate k (Ck.st 0) ++ [un "not" sharp], (List.replicate 2 [r5]).flatten, rfl, ?_, ⟨(List.replicate k [Ck.st 0]).flatten, [un "not" sharp], by rw [flat_rep], ?_, ⟨_, k, rfl, by simp, by decide, by omega, ⟨_, rfl, by decide, ?_⟩, ⟨_, rfl, .int _⟩⟩, ⟨_, rfl, by decide, ?_⟩⟩, [r5], 2, rfl, by simp, by decide, by decide, ⟨_, rfl, by decide, ?_⟩, rfl⟩, rfl⟩, fun v11 H11 s11 d11 => ?_⟩
      · rw [List.length_append, List.length_replicate]
        show k + 1 + 2 ≤ 10000
        omega
      · rw [flat_rep, List.length_replicate]
        show k + 1 ≤ 10000
        omega
      · repeat' (first | exact rfl | exact ⟨_, rfl, Dat.int _⟩ | exact ⟨_, rfl, by assumption⟩ | refine ⟨_, rfl, Nat.le_of_ble_eq_true rfl, ?_⟩ | refine ⟨_, _, rfl, by simp, Nat.le_of_ble_eq_true rfl, ?_, ?_, ?_⟩ | refine ⟨_, _, rfl, ?_, ?_⟩)
      · repeat' (first | exact rfl | exact ⟨_, rfl, Dat.int _⟩ | exact ⟨_, rfl, by assumption⟩ | refine ⟨_, rfl, Nat.le_of_ble_eq_true rfl, ?_⟩ | refine ⟨_, _, rfl, by simp, Nat.le_of_ble_eq_true rfl, ?_, ?_, ?_⟩ | refine ⟨_, _, rfl, ?_, ?_⟩)
      · repeat' (first | exact rfl | exact ⟨_, rfl, Dat.int _⟩ | exact ⟨_, rfl, by assumption⟩ | refine ⟨_, rfl, Nat.le_of_ble_eq_true rfl, ?_⟩ | refine ⟨_, _, rfl, by simp, Nat.le_of_ble_eq_true rfl, ?_, ?_, ?_⟩ | refine ⟨_, _, rfl, ?_, ?_⟩)
      try dsimp only [L2.tRet, L2.tRetN, tAndV, tOrV, tNotV, tCB, L2.tCons, L2.tNil, tC, tVar, L2.tOp, L2.tUn, tSeq, tAsg, gName, tIfS, tTest, tNext, tAnd, tOr, tNot, L2.tIf, tFld, sFld, sFldAug, tCall, tTup, tB, tAug, tDrop, L2.tSl, tPart, tNoPart, tBM, tBM0, tChain, gTup, gCons, gNil, tPar, tIs, List.set, L2.start, iTup, L2.iList, L2.iRng1, tUn, tLst, tTest, gSub, tCall, L2.tIf, tCB, rRep, List.set, List.cons_append, List.nil_append, cxOf]
      refine ⟨prog [] (deep k), flT (-1 :: (k : Int) :: zeros 59), ?_, ?_, said_deep (by omega), shaped_fl _, fun H12 s12 => ?_⟩
      · exact ⟨_, rfl, Nat.le_of_ble_eq_true rfl, _, _, rfl, ⟨_, rfl, Nat.le_of_ble_eq_true rfl, rfl⟩, _, _, rfl, ⟨v11, rfl, d11⟩, rfl⟩
      · exact ⟨_, rfl, Nat.le_of_ble_eq_true rfl, _, _, rfl, rfl, _, _, rfl, ⟨[.int (-1), .int k], z0 59, by rw [z0_is]; rfl, Nat.le_of_ble_eq_true rfl, ⟨_, rfl, Nat.le_of_ble_eq_true rfl, _, _, rfl, rfl, _, _, rfl, ⟨_, rfl, .int _⟩, rfl⟩, [.int 0], 59, rfl, by simp, by decide, by decide, ⟨_, rfl, by decide, _, _, rfl, rfl, rfl⟩, rfl⟩, rfl⟩
      have si12 := (si10.up s11).up s12
      exact q _ si12.stay si12.sr si12.keep
end
end Ck

namespace Ck
open PySem PySem.Spec PyProof.Rows L2
section
variable {P : Program} {w : World} {K : PySem.W.Frag} {mg : Str → Option Value} {base : Heap}
abbrev sUnf : Stmt := topS 58
theorem scUn : FnScope ["_law_source_here", "_law_inner", "_law_body", "_law_many", "_law_size", "_law_due", "_law_plan"] ["_law_source_here"] (defScope sUnf) := ⟨rfl, rfl, rfl, by decide +kernel, rfl, by decide +kernel, by decide +kernel⟩
theorem ok_unf {f : Addr} {fd : FuncData} (F : Fun K "_law_unfolded_right" "_law_unfolded_right" sUnf f fd) (GT : GTk P w K mg base) (GS : GSd P w K mg base) (mi : mg "int" = none) : FnOk P w K mg base CX0 89 f fd ["_law_source_here"] spYes := by
  refine F.ok scUn (fun vs H Q E h => ?_) (fun cdv A outer s H vs Q E hr h => ?_)
  · obtain ⟨_, rfl, _⟩ := h
    rfl
  obtain ⟨l, rfl, sr, q⟩ := h
  have hu := hr.units
  refine ⟨_, (pss_cons (ps_set (i := 1) scUn.nd rfl (.inl rfl) (pe_op op_add pe_int (pe_draw GT hr rfl (pv 0) pd_int))) (pss_cons (ps_set (i := 2) scUn.nd rfl (.inl rfl) (pd_tup (pds_cons pd_str (pds_cons (pd_rep (pd_tup (pds_cons (pd_tup (pds_cons pd_str (pds_cons pd_int pds_nil))) pds_nil)) (pd_bin op_add (pd_var 1 (pv 1)) pd_int)) pds_nil))).pe) (pss_cons (ps_for PassesOwn.never rfl (pi_list (pe_lst (pa_cons (pe_op op_fdivW pe_int (pe_op op_add (pv 1) pe_int)) (pa_cons (pe_op op_add (pe_op op_fdivW pe_int (pe_op op_add (pv 1) pe_int)) pe_int) (pa_cons (pe_draw GT hr rfl (pv 0) pd_int) pa_nil))))) (pg_name (i := 3) scUn.nd rfl (.inl rfl))
      (pss_cons (ps_set (i := 4) scUn.nd rfl (.inl rfl) (pe_op op_add pe_int (pe_op op_mul (pv 3) (pe_op op_add (pv 1) pe_int)))) (pss_cons (ps_set (i := 5) scUn.nd rfl (.inl rfl) (pd_if op_le (pd_var 4 (pv 4)) pd_int (pd_tup (pds_cons pd_str (pds_cons (pd_tup (pds_cons (pd_bin op_add (pd_var 1 (pv 1)) pd_int) (pds_cons (pd_var 4 (pv 4)) pds_nil))) pds_nil))) (pd_tup (pds_cons pd_str (pds_cons (pd_tup pds_nil) pds_nil)))).pe) (pss_one (ps_if (PW.pt (pw_and (pt_cmpR op_le (pv 3) pe_int rfl) (pw_and1 (pt_said GS hr rfl (pd_tup (pds_cons (pd_tup pds_nil) (pds_cons (pd_tup (pds_cons pd_str (pds_cons (pd_var 3 (pv 3)) (pds_cons (pd_var 2 (pv 2)) pds_nil)))) pds_nil))) (pd_var 5 (pv 5)))))) (pss_one (ps_ret pe_bl)) pss_nil))))) (pss_cons (ps_for PassesOwn.never rfl (pi_tup (pe_tup (pa_cons pe_int (pa_cons pe_int pa_nil)))) (pg_name (i := 3) scUn.nd rfl (.inl rfl))
      (pss_cons (ps_set (i := 6) scUn.nd rfl (.inl rfl) (pd_tup (pds_cons (pd_tup (pds_cons (pd_tup (pds_cons pd_str (pds_cons (pd_tup (pds_cons pd_str (pds_cons (pd_tup (pds_cons pd_str (pds_cons pd_int pds_nil))) pds_nil))) pds_nil))) pds_nil)) (pds_cons (pd_tup (pds_cons pd_str (pds_cons (pd_var 3 (pv 3)) (pds_cons (pd_tup (pds_cons pd_str (pds_cons pd_str pds_nil))) pds_nil)))) pds_nil))).pe) (pss_one (ps_if (pt_cmpR (op_neD hu) (pe_go GS hr pass0 rfl (pa_cons (pd_var 6 (pv 6)).pe pa_nil)) (pe_ix ix_list (pe_lst (pa_cons (pd_tup (pds_cons pd_str (pds_cons (pd_tup (pds_cons pd_int (pds_cons pd_int pds_nil))) pds_nil))).pe (pa_cons (pd_tup (pds_cons pd_str (pds_cons (pd_tup pds_nil) pds_nil))).pe pa_nil))) (pe_intc mi rfl (pe_cmpR op_eq (pv 3) pe_int rfl)) fun _ _ => rfl) rfl) (pss_one (ps_ret pe_bl)) pss_nil)))) (pss_one (ps_ret (pe_saidE GS hr rfl (pd_tup (pds_cons (pd_tup pds_nil) (pds_cons (pd_tup (pds_cons pd_str (pds_cons pd_int (pds_cons (pd_tup (pds_cons pd_str (pds_cons pd_int (pds_cons (pd_tup (pds_cons pd_str (pds_cons pd_int (pds_cons (pd_var 2 (pv 2)) pds_nil)))) pds_nil)))) pds_nil)))) pds_nil))) (pd_tup (pds_cons pd_str (pds_cons (pd_tup pds_nil) pds_nil)))))))))), ?_⟩
  try dsimp only [L2.tRet, L2.tRetN, tAndV, tOrV, tNotV, tCB, L2.tCons, L2.tNil, tC, tVar, L2.tOp, L2.tUn, tSeq, tAsg, gName, tIfS, tTest, tNext, tAnd, tOr, tNot, L2.tIf, tFld, sFld, sFldAug, tCall, tTup, tB, tAug, tDrop, L2.tSl, tPart, tNoPart, tBM, tBM0, tChain, gTup, gCons, gNil, tPar, tIs, List.set, L2.start, iTup, L2.iList, L2.iRng1, tUn, tLst, tTest, gSub, tCall, L2.tIf, tCB, rRep, List.set, List.cons_append, List.nil_append, cxOf]
  refine ⟨l, 9, rfl, rfl, by decide, by decide, sr, fun r H1 r0 r1 st sr1 kp => ?_⟩
  have si1 : Since l H H1 := ⟨st, sr1, kp⟩
  obtain ⟨j, rfl⟩ : ∃ n : Nat, r = n := ⟨r.toNat, by omega⟩
  try dsimp only [L2.tRet, L2.tRetN, tAndV, tOrV, tNotV, tCB, L2.tCons, L2.tNil, tC, tVar, L2.tOp, L2.tUn, tSeq, tAsg, gName, tIfS, tTest, tNext, tAnd, tOr, tNot, L2.tIf, tFld, sFld, sFldAug, tCall, tTup, tB, tAug, tDrop, L2.tSl, tPart, tNoPart, tBM, tBM0, tChain, gTup, gCons, gNil, tPar, tIs, List.set, L2.start, iTup, L2.iList, L2.iRng1, tUn, tLst, tTest, gSub, tCall, L2.tIf, tCB, rRep, List.set, List.cons_append, List.nil_append, cxOf]
  refine ⟨_, _, rfl, rfl, ?_⟩
  obtain ⟨i, ei, i1, i9⟩ : ∃ i : Nat, (1 : Int) + (j : Int) = (i : Int) ∧ 1 ≤ i ∧ i ≤ 9 := ⟨1 + j, by omega, by omega, by omega⟩
  try dsimp only [L2.tRet, L2.tRetN, tAndV, tOrV, tNotV, tCB, L2.tCons, L2.tNil, tC, tVar, L2.tOp, L2.tUn, tSeq, tAsg, gName, tIfS, tTest, tNext, tAnd, tOr, tNot, L2.tIf, tFld, sFld, sFldAug, tCall, tTup, tB, tAug, tDrop, L2.tSl, tPart, tNoPart, tBM, tBM0, tChain, gTup, gCons, gNil, tPar, tIs, List.set, L2.start, iTup, L2.iList, L2.iRng1, tUn, tLst, tTest, gSub, tCall, L2.tIf, tCB, rRep, List.set, List.cons_append, List.nil_append, cxOf]
  rw [ei]
  refine ⟨body i, ⟨_, rfl, Nat.le_of_ble_eq_true rfl, _, _, rfl, rfl, _, _, rfl, ⟨[Ck.st 0], i + 1, by rw [flat_rep], by simp, by decide, by omega, ⟨_, rfl, by decide, ?_⟩, ⟨(i : Int), 1, rfl, ⟨_, rfl, .int _⟩, rfl⟩⟩, rfl⟩, fun v H2 s2 d2 => ?_⟩
  · repeat' (first | exact rfl | exact ⟨_, rfl, Dat.int _⟩ | exact ⟨_, rfl, by assumption⟩ | refine ⟨_, rfl, Nat.le_of_ble_eq_true rfl, ?_⟩ | refine ⟨_, _, rfl, by simp, Nat.le_of_ble_eq_true rfl, ?_, ?_, ?_⟩ | refine ⟨_, _, rfl, ?_, ?_⟩)
  have si2 := si1.up s2
  refine loop_in ?_
  try dsimp only [L2.tRet, L2.tRetN, tAndV, tOrV, tNotV, tCB, L2.tCons, L2.tNil, tC, tVar, L2.tOp, L2.tUn, tSeq, tAsg, gName, tIfS, tTest, tNext, tAnd, tOr, tNot, L2.tIf, tFld, sFld, sFldAug, tCall, tTup, tB, tAug, tDrop, L2.tSl, tPart, tNoPart, tBM, tBM0, tChain, gTup, gCons, gNil, tPar, tIs, List.set, L2.start, iTup, L2.iList, L2.iRng1, tUn, tLst, tTest, gSub, tCall, L2.tIf, tCB, rRep, List.set, List.cons_append, List.nil_append, cxOf]
  have bd : 0 ≤ (2999 : Int) / ((i : Int) + 2) ∧ (2999 : Int) / ((i : Int) + 2) ≤ 999 := by
    have z : ∀ k : _root_.Fin 10, 1 ≤ (k : Nat) → 0 ≤ (2999 : Int) / (((k : Nat) : Int) + 2) ∧ (2999 : Int) / (((k : Nat) : Int) + 2) ≤ 999 := by decide +kernel
    exact z ⟨i, by omega⟩ i1
  refine ⟨_, rfl, _, _, rfl, rfl, _, _, rfl, rfl, wd (j := (i : Int) + 2) (by omega) (by omega), _, rfl, _, _, rfl, rfl, _, _, rfl, rfl, wd (j := (i : Int) + 2) (by omega) (by omega), _, _, rfl, rfl, l, 1001, rfl, rfl, by decide, by decide, si2.sr, fun r H3 q0 q1 st3 sr3 kp3 => ?_⟩
  try dsimp only [L2.tRet, L2.tRetN, tAndV, tOrV, tNotV, tCB, L2.tCons, L2.tNil, tC, tVar, L2.tOp, L2.tUn, tSeq, tAsg, gName, tIfS, tTest, tNext, tAnd, tOr, tNot, L2.tIf, tFld, sFld, sFldAug, tCall, tTup, tB, tAug, tDrop, L2.tSl, tPart, tNoPart, tBM, tBM0, tChain, gTup, gCons, gNil, tPar, tIs, List.set, L2.start, iTup, L2.iList, L2.iRng1, tUn, tLst, tTest, gSub, tCall, L2.tIf, tCB, rRep, List.set, List.cons_append, List.nil_append, cxOf]
  have si3 := si2.draw st3 sr3 kp3
  refine ⟨sl (Nat.le_of_ble_eq_true rfl), fun p1 n1 => ?_⟩
  try dsimp only [L2.tRet, L2.tRetN, tAndV, tOrV, tNotV, tCB, L2.tCons, L2.tNil, tC, tVar, L2.tOp, L2.tUn, tSeq, tAsg, gName, tIfS, tTest, tNext, tAnd, tOr, tNot, L2.tIf, tFld, sFld, sFldAug, tCall, tTup, tB, tAug, tDrop, L2.tSl, tPart, tNoPart, tBM, tBM0, tChain, gTup, gCons, gNil, tPar, tIs, List.set, L2.start, iTup, L2.iList, L2.iRng1, tUn, tLst, tTest, gSub, tCall, L2.tIf, tCB, rRep, List.set, List.cons_append, List.nil_append, cxOf]
  have d3 := (d2.up st3).up (same_stay (same_new (o := .lst [V.int (2999 / ((i : Int) + 2)), V.int (2999 / ((i : Int) + 2) + 1), V.int r]) n1))
  refine ⟨p1, rfl, ⟨_, .inl (.inl upd_same)⟩, loop_list (K := K) (a := p1) (xs := [V.int (2999 / ((i : Int) + 2)), V.int (2999 / ((i : Int) + 2) + 1), V.int r])
    (fun _ σ H' => Since l H H' ∧ H' p1 = some (.lst [V.int (2999 / ((i : Int) + 2)), V.int (2999 / ((i : Int) + 2) + 1), V.int r]) ∧ Dat K H' v (body i) ∧ ∃ a b c, σ = [some (.ref l), some (.int i), some v, a, b, c, none]) ⟨si3.up (same_new n1), upd_same, d3, _, _, _, rfl⟩ (fun _ _ _ _ z => .inl (.inl z.2.1)) ?hs ?hd⟩
  case hs =>
    rintro k x σ H4 hx ⟨si4, h4, d4, a, b, c, rfl⟩
    obtain ⟨m, rfl, m0, m1⟩ : ∃ m : Int, x = .int m ∧ 0 ≤ m ∧ m ≤ 1000 := by
      match k, hx with
      | 0, e => exact ⟨_, (Option.some.inj e).symm, bd.1, by omega⟩
      | 1, e => exact ⟨_, (Option.some.inj e).symm, by omega, by omega⟩
      | 2, e => exact ⟨_, (Option.some.inj e).symm, by omega, by omega⟩
      | n + 3, e => cases e
    try dsimp only [L2.tRet, L2.tRetN, tAndV, tOrV, tNotV, tCB, L2.tCons, L2.tNil, tC, tVar, L2.tOp, L2.tUn, tSeq, tAsg, gName, tIfS, tTest, tNext, tAnd, tOr, tNot, L2.tIf, tFld, sFld, sFldAug, tCall, tTup, tB, tAug, tDrop, L2.tSl, tPart, tNoPart, tBM, tBM0, tChain, gTup, gCons, gNil, tPar, tIs, List.set, L2.start, iTup, L2.iList, L2.iRng1, tUn, tLst, tTest, gSub, tCall, L2.tIf, tCB, rRep, List.set, List.cons_append, List.nil_append, cxOf]
    refine ⟨_, rfl, _, rfl, _, _, rfl, rfl, _, _, rfl, rfl, .inl ⟨by omega, by omega⟩, _, _, rfl, rfl, ?_⟩
    try dsimp only [L2.tRet, L2.tRetN, tAndV, tOrV, tNotV, tCB, L2.tCons, L2.tNil, tC, tVar, L2.tOp, L2.tUn, tSeq, tAsg, gName, tIfS, tTest, tNext, tAnd, tOr, tNot, L2.tIf, tFld, sFld, sFldAug, tCall, tTup, tB, tAug, tDrop, L2.tSl, tPart, tNoPart, tBM, tBM0, tChain, gTup, gCons, gNil, tPar, tIs, List.set, L2.start, iTup, L2.iList, L2.iRng1, tUn, tLst, tTest, gSub, tCall, L2.tIf, tCB, rRep, List.set, List.cons_append, List.nil_append, cxOf]
    refine ⟨if 1 + m * ((i : Int) + 2) ≤ 3000 then szT (i + 3) (1 + m * ((i : Int) + 2)) else flT [], ⟨1 + m * ((i : Int) + 2), 3000, ⟨_, rfl, .int _⟩, rfl, ?_⟩, fun v5 H5 s5 d5 => ?_⟩
    · by_cases c : 1 + m * ((i : Int) + 2) ≤ 3000
      · rw [if_pos c, if_pos (decide_eq_true c)]
        exact ⟨_, rfl, Nat.le_of_ble_eq_true rfl, _, _, rfl, rfl, _, _, rfl, ⟨_, rfl, Nat.le_of_ble_eq_true rfl, _, _, rfl, ⟨_, _, rfl, ⟨_, rfl, .int _⟩, rfl⟩, _, _, rfl, ⟨_, rfl, .int _⟩, rfl⟩, rfl⟩
      · rw [if_neg c, if_neg (by rw [decide_eq_true_eq]; exact c)]
        repeat' (first | exact rfl | exact ⟨_, rfl, Dat.int _⟩ | exact ⟨_, rfl, by assumption⟩ | refine ⟨_, rfl, Nat.le_of_ble_eq_true rfl, ?_⟩ | refine ⟨_, _, rfl, by simp, Nat.le_of_ble_eq_true rfl, ?_, ?_, ?_⟩ | refine ⟨_, _, rfl, ?_, ?_⟩)
    try dsimp only [L2.tRet, L2.tRetN, tAndV, tOrV, tNotV, tCB, L2.tCons, L2.tNil, tC, tVar, L2.tOp, L2.tUn, tSeq, tAsg, gName, tIfS, tTest, tNext, tAnd, tOr, tNot, L2.tIf, tFld, sFld, sFldAug, tCall, tTup, tB, tAug, tDrop, L2.tSl, tPart, tNoPart, tBM, tBM0, tChain, gTup, gCons, gNil, tPar, tIs, List.set, L2.start, iTup, L2.iList, L2.iRng1, tUn, tLst, tTest, gSub, tCall, L2.tIf, tCB, rRep, List.set, List.cons_append, List.nil_append, cxOf]
    have e4 := d4.up (same_stay s5)
    refine ⟨_, rfl, _, _, rfl, rfl, _, rfl, ?_⟩
    refine if_yes (decide_eq_true m1) ?_
    refine ⟨prog [] (tms m (body i)), _, ?_, ⟨_, rfl, d5⟩, said_times i1 (by omega) m0 m1, ?_, fun H6 s6 => if_no rfl ⟨(si4.up s5).up s6, s6 _ _ (s5 _ _ h4), e4.up (same_stay s6), _, _, _, rfl⟩⟩
    · exact ⟨_, rfl, Nat.le_of_ble_eq_true rfl, _, _, rfl, ⟨_, rfl, Nat.le_of_ble_eq_true rfl, rfl⟩, _, _, rfl, ⟨_, rfl, Nat.le_of_ble_eq_true rfl, _, _, rfl, rfl, _, _, rfl, ⟨_, rfl, .int _⟩, _, _, rfl, ⟨v, rfl, e4⟩, rfl⟩, rfl⟩
    · split
      · exact shaped_dat
      · exact shaped_fl []
  case hd =>
    rintro σ H4 ⟨si4, h4, d4, a, b, c, rfl⟩
    try dsimp only [L2.tRet, L2.tRetN, tAndV, tOrV, tNotV, tCB, L2.tCons, L2.tNil, tC, tVar, L2.tOp, L2.tUn, tSeq, tAsg, gName, tIfS, tTest, tNext, tAnd, tOr, tNot, L2.tIf, tFld, sFld, sFldAug, tCall, tTup, tB, tAug, tDrop, L2.tSl, tPart, tNoPart, tBM, tBM0, tChain, gTup, gCons, gNil, tPar, tIs, List.set, L2.start, iTup, L2.iList, L2.iRng1, tUn, tLst, tTest, gSub, tCall, L2.tIf, tCB, rRep, List.set, List.cons_append, List.nil_append, cxOf]
    refine loop_in ?_
    try dsimp only [L2.tRet, L2.tRetN, tAndV, tOrV, tNotV, tCB, L2.tCons, L2.tNil, tC, tVar, L2.tOp, L2.tUn, tSeq, tAsg, gName, tIfS, tTest, tNext, tAnd, tOr, tNot, L2.tIf, tFld, sFld, sFldAug, tCall, tTup, tB, tAug, tDrop, L2.tSl, tPart, tNoPart, tBM, tBM0, tChain, gTup, gCons, gNil, tPar, tIs, List.set, L2.start, iTup, L2.iList, L2.iRng1, tUn, tLst, tTest, gSub, tCall, L2.tIf, tCB, rRep, List.set, List.cons_append, List.nil_append, cxOf]
    refine ⟨sl (Nat.le_of_ble_eq_true rfl), fun p2 n2 => ?_⟩
    try dsimp only [L2.tRet, L2.tRetN, tAndV, tOrV, tNotV, tCB, L2.tCons, L2.tNil, tC, tVar, L2.tOp, L2.tUn, tSeq, tAsg, gName, tIfS, tTest, tNext, tAnd, tOr, tNot, L2.tIf, tFld, sFld, sFldAug, tCall, tTup, tB, tAug, tDrop, L2.tSl, tPart, tNoPart, tBM, tBM0, tChain, gTup, gCons, gNil, tPar, tIs, List.set, L2.start, iTup, L2.iList, L2.iRng1, tUn, tLst, tTest, gSub, tCall, L2.tIf, tCB, rRep, List.set, List.cons_append, List.nil_append, cxOf]
    have d5 := d4.up (same_stay (same_new (o := .tup [V.int 1000, V.int 999]) n2))
    refine ⟨p2, rfl, ⟨_, sqt (K := K) upd_same⟩, loop_tup (K := K) (a := p2) (xs := [V.int 1000, V.int 999])
      (fun _ σ H' => Since l H H' ∧ H' p2 = some (.tup [V.int 1000, V.int 999]) ∧ Dat K H' v (body i) ∧ ∃ a b c d, σ = [some (.ref l), some (.int i), some v, a, b, c, d]) ⟨si4.up (same_new n2), upd_same, d5, _, _, _, _, rfl⟩ (fun _ _ _ _ z => sqt (K := K) z.2.1) ?hs2 ?hd2⟩
    case hs2 =>
      rintro k x σ H6 hx ⟨si6, h6, d6, a2, b2, c2, e2, rfl⟩
      obtain ⟨m, rfl, mm⟩ : ∃ m : Int, x = .int m ∧ (m = 1000 ∨ m = 999) := by
        match k, hx with
        | 0, e => exact ⟨_, (Option.some.inj e).symm, .inl rfl⟩
        | 1, e => exact ⟨_, (Option.some.inj e).symm, .inr rfl⟩
        | n + 2, e => cases e
      try dsimp only [L2.tRet, L2.tRetN, tAndV, tOrV, tNotV, tCB, L2.tCons, L2.tNil, tC, tVar, L2.tOp, L2.tUn, tSeq, tAsg, gName, tIfS, tTest, tNext, tAnd, tOr, tNot, L2.tIf, tFld, sFld, sFldAug, tCall, tTup, tB, tAug, tDrop, L2.tSl, tPart, tNoPart, tBM, tBM0, tChain, gTup, gCons, gNil, tPar, tIs, List.set, L2.start, iTup, L2.iList, L2.iRng1, tUn, tLst, tTest, gSub, tCall, L2.tIf, tCB, rRep, List.set, List.cons_append, List.nil_append, cxOf]
      refine ⟨callf m, ?_, fun v7 H7 s7 d7 => ?_⟩
      · exact ⟨_, rfl, Nat.le_of_ble_eq_true rfl, _, _, rfl, ⟨_, rfl, Nat.le_of_ble_eq_true rfl, _, _, rfl, ⟨_, rfl, Nat.le_of_ble_eq_true rfl, _, _, rfl, rfl, _, _, rfl, ⟨_, rfl, Nat.le_of_ble_eq_true rfl, _, _, rfl, rfl, _, _, rfl, ⟨_, rfl, Nat.le_of_ble_eq_true rfl, _, _, rfl, rfl, _, _, rfl, rfl, rfl⟩, rfl⟩, rfl⟩, rfl⟩, _, _, rfl,
          ⟨_, rfl, Nat.le_of_ble_eq_true rfl, _, _, rfl, rfl, _, _, rfl, ⟨_, rfl, .int _⟩, _, _, rfl, ⟨_, rfl, Nat.le_of_ble_eq_true rfl, _, _, rfl, rfl, _, _, rfl, rfl, rfl⟩, rfl⟩, rfl⟩
      try dsimp only [L2.tRet, L2.tRetN, tAndV, tOrV, tNotV, tCB, L2.tCons, L2.tNil, tC, tVar, L2.tOp, L2.tUn, tSeq, tAsg, gName, tIfS, tTest, tNext, tAnd, tOr, tNot, L2.tIf, tFld, sFld, sFldAug, tCall, tTup, tB, tAug, tDrop, L2.tSl, tPart, tNoPart, tBM, tBM0, tChain, gTup, gCons, gNil, tPar, tIs, List.set, L2.start, iTup, L2.iList, L2.iRng1, tUn, tLst, tTest, gSub, tCall, L2.tIf, tCB, rRep, List.set, List.cons_append, List.nil_append, cxOf]
      refine ⟨callf m, ⟨v7, rfl, d7⟩, fun v8 H8 s8 d8 => ?_⟩
      refine said_use d8 (s := if m = 1000 then flT [] else szT 4 2998) ?_ fun p9 H9 s9 d9 => ⟨szT 4 2998, ?_, fun v10 H10 s10 d10 => ⟨flT [], ?_, fun v11 H11 s11 d11 => ⟨sl (Nat.le_of_ble_eq_true rfl), fun p12 n12 => ?_⟩⟩⟩
      · rcases mm with rfl | rfl
        · exact said_call_1000
        · exact said_call_999
      · repeat' (first | exact rfl | exact ⟨_, rfl, Dat.int _⟩ | exact ⟨_, rfl, by assumption⟩ | refine ⟨_, rfl, Nat.le_of_ble_eq_true rfl, ?_⟩ | refine ⟨_, _, rfl, by simp, Nat.le_of_ble_eq_true rfl, ?_, ?_, ?_⟩ | refine ⟨_, _, rfl, ?_, ?_⟩)
      · repeat' (first | exact rfl | exact ⟨_, rfl, Dat.int _⟩ | exact ⟨_, rfl, by assumption⟩ | refine ⟨_, rfl, Nat.le_of_ble_eq_true rfl, ?_⟩ | refine ⟨_, _, rfl, by simp, Nat.le_of_ble_eq_true rfl, ?_, ?_, ?_⟩ | refine ⟨_, _, rfl, ?_, ?_⟩)
      dsimp only [tInt]
      try dsimp only [L2.tRet, L2.tRetN, tAndV, tOrV, tNotV, tCB, L2.tCons, L2.tNil, tC, tVar, L2.tOp, L2.tUn, tSeq, tAsg, gName, tIfS, tTest, tNext, tAnd, tOr, tNot, L2.tIf, tFld, sFld, sFldAug, tCall, tTup, tB, tAug, tDrop, L2.tSl, tPart, tNoPart, tBM, tBM0, tChain, gTup, gCons, gNil, tPar, tIs, List.set, L2.start, iTup, L2.iList, L2.iRng1, tUn, tLst, tTest, gSub, tCall, L2.tIf, tCB, rRep, List.set, List.cons_append, List.nil_append, cxOf]
      have s12 := same_new (o := .lst [v10, v11]) n12
      have si12 := (((((si6.up s7).up s8).up s9).up s10).up s11).up s12
      have sm := ((((s7.trans s8).trans s9).trans s10).trans s11).trans s12
      have e9 := ((d9.up (same_stay s10)).up (same_stay s11)).up (same_stay s12)
      have e10 := (d10.up (same_stay s11)).up (same_stay s12)
      have e11 := d11.up (same_stay s12)
      refine ⟨_, rfl, rfl, .inr ⟨_, rfl, ?_⟩⟩
      rcases mm with rfl | rfl
      · rw [decide_eq_true (rfl : V.int 1000 = V.int 1000)]
        rw [if_pos rfl] at e9
        show rIxL K (.ref p12) (.int 1) _ _
        refine ⟨p12, _, _, v11, rfl, rfl, .inl (.inl upd_same), atI_nat (j := 1) rfl, ?_⟩
        exact dat_ne (shaped_fl _) e9 e11 ⟨_, rfl, if_no rfl ⟨si12, sm _ _ h6, d6.up (same_stay sm), _, _, _, _, rfl⟩⟩
      · rw [decide_eq_false (show ¬ (V.int 999 = V.int 1000) from fun z => absurd (V.int.inj z) (by decide))]
        rw [if_neg (by decide)] at e9
        show rIxL K (.ref p12) (.int 0) _ _
        refine ⟨p12, _, _, v10, rfl, rfl, .inl (.inl upd_same), atI_nat (j := 0) rfl, ?_⟩
        exact dat_ne shaped_dat e9 e10 ⟨_, rfl, if_no rfl ⟨si12, sm _ _ h6, d6.up (same_stay sm), _, _, _, _, rfl⟩⟩
    case hd2 =>
      rintro σ H6 ⟨si6, h6, d6, a2, b2, c2, e2, rfl⟩
      try dsimp only [L2.tRet, L2.tRetN, tAndV, tOrV, tNotV, tCB, L2.tCons, L2.tNil, tC, tVar, L2.tOp, L2.tUn, tSeq, tAsg, gName, tIfS, tTest, tNext, tAnd, tOr, tNot, L2.tIf, tFld, sFld, sFldAug, tCall, tTup, tB, tAug, tDrop, L2.tSl, tPart, tNoPart, tBM, tBM0, tChain, gTup, gCons, gNil, tPar, tIs, List.set, L2.start, iTup, L2.iList, L2.iRng1, tUn, tLst, tTest, gSub, tCall, L2.tIf, tCB, rRep, List.set, List.cons_append, List.nil_append, cxOf]
      refine ⟨prog [] (tms 1000 (tms 1000 (tms 0 (body i)))), flT [], ?_, ?_, said_thousands i1 (by omega), shaped_fl _, fun H7 s7 => ?_⟩
      · exact ⟨_, rfl, Nat.le_of_ble_eq_true rfl, _, _, rfl, ⟨_, rfl, Nat.le_of_ble_eq_true rfl, rfl⟩, _, _, rfl, ⟨_, rfl, Nat.le_of_ble_eq_true rfl, _, _, rfl, rfl, _, _, rfl, rfl, _, _, rfl, ⟨_, rfl, Nat.le_of_ble_eq_true rfl, _, _, rfl, rfl, _, _, rfl, rfl, _, _, rfl, ⟨_, rfl, Nat.le_of_ble_eq_true rfl, _, _, rfl, rfl, _, _, rfl, rfl, _, _, rfl, ⟨v, rfl, d6⟩, rfl⟩, rfl⟩, rfl⟩, rfl⟩
      · repeat' (first | exact rfl | exact ⟨_, rfl, Dat.int _⟩ | exact ⟨_, rfl, by assumption⟩ | refine ⟨_, rfl, Nat.le_of_ble_eq_true rfl, ?_⟩ | refine ⟨_, _, rfl, by simp, Nat.le_of_ble_eq_true rfl, ?_, ?_, ?_⟩ | refine ⟨_, _, rfl, ?_, ?_⟩)
      have si7 := si6.up s7
      exact q _ si7.stay si7.sr si7.keep
end
end Ck

namespace Ck
open PySem PySem.Spec PyProof.Rows L2
section
variable {P : Program} {w : World} {K : PySem.W.Frag} {mg : Str → Option Value} {base : Heap}
abbrev GLt (P : Program) (w : World) (K : PySem.W.Frag) (mg : Str → Option Value) (base : Heap) : Prop := Go P w K mg base CX0 88 "_law_letters" ["_law_number"] spLetters
theorem nm_len (k : Nat) : (nm k).length ≤ 100 := Nat.le_of_ble_eq_true rfl
theorem fnm_len (k : Nat) : (fnm k).length ≤ 100 := Nat.le_of_ble_eq_true rfl
theorem pd_letters {X : Cx} {e : Expr} {p q : Pos} {C : CD} (GL : GLt X.prog X.w X.K X.mg X.base) (hr : Room 88 X.A) (hg : Gl X "_law_letters") (he : PD X e C) (h1 : starEach [e] X.env = (false, eval e X.env) :: starEach [] X.env := by rfl) (hpl : (backTo q (starEach [] X.env)).any (·.1) = false := by rfl) :
    PD X (.Call (.Name "_law_letters" p) [e] [] q) fun σ H t => ∃ k : Nat, t = .str (nm k) ∧ C σ H (.int k) :=
  ⟨pe_imp (pe_go GL hr pass0 hg (pa_cons he.pe pa_nil h1) (by decide) h1 hpl) fun σ H Q ⟨t, ⟨k, e, c⟩, q⟩ => by
    subst e
    refine ⟨_, c, fun v H1 s1 d1 => ?_⟩
    have ev := dat_int d1
    subst ev
    try dsimp only [L2.tRet, L2.tRetN, tAndV, tOrV, tNotV, tCB, L2.tCons, L2.tNil, tC, tVar, L2.tOp, L2.tUn, tSeq, tAsg, gName, tIfS, tTest, tNext, tAnd, tOr, tNot, L2.tIf, tFld, sFld, sFldAug, tCall, tTup, tB, tAug, tDrop, L2.tSl, tPart, tNoPart, tBM, tBM0, tChain, gTup, gCons, gNil, tPar, tIs, List.set, L2.start, iTup, L2.iList, L2.iRng1, tUn, tLst, tTest, gSub, tCall, L2.tIf, tCB, rRep, List.set, List.cons_append, List.nil_append, cxOf]
    exact ⟨k, rfl, q _ _ s1 (.str (nm_len k))⟩, fun σ _ _ _ s ⟨k, e, c⟩ => ⟨k, e, he.up _ _ _ _ s c⟩⟩
theorem pd_fname {X : Cx} {e : Expr} {p q pos p0 : Pos} {j : Nat} {C : CD} (GL : GLt X.prog X.w X.K X.mg X.base) (hr : Room 88 X.A) (hg : Gl X "_law_letters") (he : PD X e C) (h1 : starEach [e] X.env = (false, eval e X.env) :: starEach [] X.env := by rfl) (hpl : (backTo q (starEach [] X.env)).any (·.1) = false := by rfl) :
    PD X (.BinOp (.Constant (.str "f") j p0) .Add (.Call (.Name "_law_letters" p) [e] [] q) pos) fun σ H t => ∃ k : Nat, t = .str (fnm k) ∧ C σ H (.int k) :=
  ⟨pe_imp (pe_op op_add_str pe_str (pd_letters GL hr hg he h1 hpl).pe) fun σ H Q ⟨t, ⟨k, e, c⟩, q⟩ => by
    subst e
    refine ⟨.str (nm k), ⟨k, rfl, c⟩, fun v H1 s1 d1 => ?_⟩
    exact ⟨"f", nm k, rfl, dat_str d1, sl (Nat.le_of_ble_eq_true rfl), q _ _ s1 (.str (fnm_len k))⟩, fun σ _ _ _ s ⟨k, e, c⟩ => ⟨k, e, he.up _ _ _ _ s c⟩⟩
abbrev sFns : Stmt := topS 59
theorem scFu : FnScope ["_law_rows", "_law_tail", "_law_k"] [] (defScope sFns) := ⟨rfl, rfl, rfl, by decide +kernel, rfl, by decide +kernel, by decide +kernel⟩
def spLast : Sp := fun vs H Q _ => vs = [] ∧ ∀ H', Same H H' → Q (.bl true) H'
def tRow (K : PySem.W.Frag) : TE := fun σ H Q => ∃ k : Nat, σ[2]? = some (some (.int k)) ∧ ∀ v H', Same H H' → Dat K H' v (row k) → Q v H'
theorem row_is (σ : L2.St) (H : Hp) (Q : VK) : tRow K σ H Q → tDat K (fun σ H t => ∃ ts, t = T.tup ts ∧ ts.length ≤ 1000 ∧ ∃ t us, ts = t :: us ∧ (∃ k : Nat, t = .str (fnm k) ∧ ∃ v, σ[2]? = some (some v) ∧ Dat K H v (.int k)) ∧ ∃ t us2, us = t :: us2 ∧
    (∃ i j, (∃ v, σ[2]? = some (some v) ∧ Dat K H v (.int i)) ∧ T.int j = T.int 0 ∧ if decide (j < i) = true then
      (∃ ts, t = T.tup ts ∧ ts.length ≤ 1000 ∧ ∃ t us, ts = t :: us ∧ t = .str "call" ∧ ∃ t us2, us = t :: us2 ∧ (∃ k : Nat, t = .str (fnm k) ∧ ∃ i j, T.int (k : Nat) = T.int (i - j) ∧ (∃ v, σ[2]? = some (some v) ∧ Dat K H v (.int i)) ∧ T.int j = T.int 1) ∧ us2 = [])
      else (∃ ts, t = T.tup ts ∧ ts.length ≤ 1000 ∧ ∃ t us, ts = t :: us ∧ t = .str "run" ∧ ∃ t us2, us = t :: us2 ∧ t = .str "a" ∧ us2 = [])) ∧ us2 = []) σ H Q := fun ⟨k, e, q⟩ => by
  refine ⟨row k, ⟨_, rfl, Nat.le_of_ble_eq_true rfl, _, _, rfl, ⟨k, rfl, _, e, .int _⟩, _, _, rfl, ⟨k, 0, ⟨_, e, .int _⟩, rfl, ?_⟩, rfl⟩, q⟩
  by_cases c : 0 < k
  · rw [if_pos (decide_eq_true (by omega)), if_pos c]
    refine ⟨_, rfl, Nat.le_of_ble_eq_true rfl, _, _, rfl, rfl, _, _, rfl, ⟨k - 1, rfl, k, 1, ?_, ⟨_, e, .int _⟩, rfl⟩, rfl⟩
    have z : ((k - 1 : Nat) : Int) = (k : Int) - 1 := by omega
    rw [z]
  · rw [if_neg (by rw [decide_eq_true_eq]; omega), if_neg c]
    repeat' (first | exact rfl | exact ⟨_, rfl, Dat.int _⟩ | exact ⟨_, rfl, by assumption⟩ | refine ⟨_, rfl, Nat.le_of_ble_eq_true rfl, ?_⟩ | refine ⟨_, _, rfl, by simp, Nat.le_of_ble_eq_true rfl, ?_, ?_, ?_⟩ | refine ⟨_, _, rfl, ?_, ?_⟩)
theorem rows_succ (i : Nat) : rows (i + 1) = rows i ++ [row i] := by
  rw [rows, List.range_succ, List.map_append]
  rfl
theorem ok_funs {f : Addr} {fd : FuncData} (F : Fun K "_law_functions_right" "_law_functions_right" sFns f fd) (GL : GLt P w K mg base) (GS : GSd P w K mg base) (mr : mg "range" = none) (mt : mg "tuple" = none) : FnOk P w K mg base CX0 89 f fd [] spLast := by
  refine F.ok scFu (fun vs H Q E h => ?_) (fun cdv A outer s H vs Q E hr h => ?_)
  · obtain ⟨rfl, _⟩ := h
    rfl
  obtain ⟨rfl, q⟩ := h
  refine ⟨_, (pss_cons (ps_setLc (i := 0) (te := tRow K) (own := [("_law_k", 2)]) (g := gName 2) (tt := tYes) rfl scFu.nd rfl rfl (sw_true rfl rfl rfl (by decide +kernel)) (pi_range1 rfl mr (pa_cons pe_int pa_nil)) (blkOk_by (N := ["_law_rows", "_law_tail", "_law_k"]) (sc := defScope sFns) (by decide +kernel)) (fun _ _ _ _ _ => pg_name (i := 2) scFu.nd rfl (.inl rfl)) (fun _ _ _ _ _ => pts_nil)
      (fun _ _ _ _ _ => pe_imp (PD.pe (pd_tup (pds_cons (pd_fname GL hr rfl (pd_var 2 (pv 2))) (pds_cons (pd_if op_gt (pd_var 2 (pv 2)) pd_int (pd_tup (pds_cons pd_str (pds_cons (pd_fname GL hr rfl (pd_bin op_sub (pd_var 2 (pv 2)) pd_int)) pds_nil))) (pd_tup (pds_cons pd_str (pds_cons pd_str pds_nil)))) pds_nil)))) row_is)) (pss_cons (ps_if (pt_said GS hr rfl (pd_tup (pds_cons (pd_tuple mt (by rfl) (pl_to (pl_var 0 (pv 0)) pd_int)) (pds_cons (pd_tup (pds_cons pd_str (pds_cons (pd_atT (i := 0) (pd_atL (i := 19) (pl_var 0 (pv 0)))) pds_nil))) pds_nil))) (pd_tup (pds_cons pd_str (pds_cons (pd_tup (pds_cons pd_int (pds_cons pd_int pds_nil))) pds_nil)))) (pss_one (ps_ret pe_bl)) pss_nil) (pss_cons (ps_if (pt_said GS hr rfl (pd_tup (pds_cons (pd_tuple mt (by rfl) (pl_var 0 (pv 0))) (pds_cons (pd_tup (pds_cons pd_str (pds_cons pd_int pds_nil))) pds_nil))) (pd_tup (pds_cons pd_str (pds_cons (pd_tup pds_nil) pds_nil)))) (pss_one (ps_ret pe_bl)) pss_nil) (pss_cons (ps_set (i := 1) scFu.nd rfl (.inl rfl) (pd_tup (pds_cons pd_str (pds_cons (pd_tup (pds_cons (pd_tup (pds_cons pd_str (pds_cons pd_str pds_nil))) (pds_cons (pd_tup (pds_cons pd_str (pds_cons pd_int (pds_cons (pd_tup (pds_cons pd_str (pds_cons pd_int pds_nil))) pds_nil)))) (pds_cons (pd_tup (pds_cons pd_str (pds_cons pd_int pds_nil))) (pds_cons (pd_tup (pds_cons pd_str (pds_cons pd_str (pds_cons pd_int pds_nil)))) pds_nil))))) pds_nil))).pe) (pss_one (ps_ret (pe_saidE GS hr rfl (pd_tup (pds_cons (pd_tup pds_nil) (pds_cons (pd_var 1 (pv 1)) pds_nil))) (pd_tup (pds_cons pd_str (pds_cons (pd_tup (pds_cons pd_int (pds_cons pd_int pds_nil))) pds_nil)))))))))), ?_⟩
  try dsimp only [L2.tRet, L2.tRetN, tAndV, tOrV, tNotV, tCB, L2.tCons, L2.tNil, tC, tVar, L2.tOp, L2.tUn, tSeq, tAsg, gName, tIfS, tTest, tNext, tAnd, tOr, tNot, L2.tIf, tFld, sFld, sFldAug, tCall, tTup, tB, tAug, tDrop, L2.tSl, tPart, tNoPart, tBM, tBM0, tChain, gTup, gCons, gNil, tPar, tIs, List.set, L2.start, iTup, L2.iList, L2.iRng1, tUn, tLst, tTest, gSub, tCall, L2.tIf, tCB, rRep, List.set, List.cons_append, List.nil_append, cxOf]
  refine lc_in ?_
  try dsimp only [L2.tRet, L2.tRetN, tAndV, tOrV, tNotV, tCB, L2.tCons, L2.tNil, tC, tVar, L2.tOp, L2.tUn, tSeq, tAsg, gName, tIfS, tTest, tNext, tAnd, tOr, tNot, L2.tIf, tFld, sFld, sFldAug, tCall, tTup, tB, tAug, tDrop, L2.tSl, tPart, tNoPart, tBM, tBM0, tChain, gTup, gCons, gNil, tPar, tIs, List.set, L2.start, iTup, L2.iList, L2.iRng1, tUn, tLst, tTest, gSub, tCall, L2.tIf, tCB, rRep, List.set, List.cons_append, List.nil_append, cxOf]
  refine ⟨21, rfl, by decide, by decide, lcl_range (lo := 0) (n := 21) (fun D i H' => LD K H' D (rows i) ∧ Same H H') (fun D nD => ⟨⟨[], upd_same, .nil⟩, same_new nD⟩) ?hs ?hd⟩
  case hs =>
    rintro D nD i H2 li ⟨ld, sm⟩
    try dsimp only [L2.tRet, L2.tRetN, tAndV, tOrV, tNotV, tCB, L2.tCons, L2.tNil, tC, tVar, L2.tOp, L2.tUn, tSeq, tAsg, gName, tIfS, tTest, tNext, tAnd, tOr, tNot, L2.tIf, tFld, sFld, sFldAug, tCall, tTup, tB, tAug, tDrop, L2.tSl, tPart, tNoPart, tBM, tBM0, tChain, gTup, gCons, gNil, tPar, tIs, List.set, L2.start, iTup, L2.iList, L2.iRng1, tUn, tLst, tTest, gSub, tCall, L2.tIf, tCB, rRep, List.set, List.cons_append, List.nil_append, cxOf]
    refine ⟨rfl, ?_⟩
    dsimp only [tYes]
    refine if_yes rfl ⟨i, by rw [Int.zero_add]; rfl, fun v H3 s3 d3 => ?_⟩
    obtain ⟨acc, ha, ds⟩ := ld.up s3
    have len : acc.length = i := by rw [ds.len, rows, List.length_map, List.length_range]
    refine ⟨acc, ha, Nat.lt_of_lt_of_le (show acc.length < 1000 by omega) (sl (by decide)), ⟨_, upd_same, ?_⟩, Ck.Same.up (sm.trans s3) nD⟩
    rw [rows_succ]
    exact (ds.app (.cons d3 .nil)).up (stay_lst ha)
  case hd =>
    rintro D nD H2 ⟨ld, sm⟩
    try dsimp only [L2.tRet, L2.tRetN, tAndV, tOrV, tNotV, tCB, L2.tCons, L2.tNil, tC, tVar, L2.tOp, L2.tUn, tSeq, tAsg, gName, tIfS, tTest, tNext, tAnd, tOr, tNot, L2.tIf, tFld, sFld, sFldAug, tCall, tTup, tB, tAug, tDrop, L2.tSl, tPart, tNoPart, tBM, tBM0, tChain, gTup, gCons, gNil, tPar, tIs, List.set, L2.start, iTup, L2.iList, L2.iRng1, tUn, tLst, tTest, gSub, tCall, L2.tIf, tCB, rRep, List.set, List.cons_append, List.nil_append, cxOf]
    refine ⟨prog ((rows 21).take 20) (un "call" (.str (fnm 19))), szT 21 21, ?_, ?_, ?_, shaped_dat, fun H3 s3 => if_no rfl ?_⟩
    · exact ⟨_, rfl, Nat.le_of_ble_eq_true rfl, _, _, rfl, ⟨_, rfl, rows 21, 20, rfl, by decide, ⟨D, rfl, ld⟩, rfl⟩, _, _, rfl, ⟨_, rfl, Nat.le_of_ble_eq_true rfl, _, _, rfl, rfl, _, _, rfl, ⟨[.str (fnm 19), un "call" (.str (fnm 18))], rfl, rows 21, rfl, D, rfl, ld⟩, rfl⟩, rfl⟩
    · repeat' (first | exact rfl | exact ⟨_, rfl, Dat.int _⟩ | exact ⟨_, rfl, by assumption⟩ | refine ⟨_, rfl, Nat.le_of_ble_eq_true rfl, ?_⟩ | refine ⟨_, _, rfl, by simp, Nat.le_of_ble_eq_true rfl, ?_, ?_, ?_⟩ | refine ⟨_, _, rfl, ?_, ?_⟩)
    · exact said_rows20
    have ld3 := ld.up s3
    try dsimp only [L2.tRet, L2.tRetN, tAndV, tOrV, tNotV, tCB, L2.tCons, L2.tNil, tC, tVar, L2.tOp, L2.tUn, tSeq, tAsg, gName, tIfS, tTest, tNext, tAnd, tOr, tNot, L2.tIf, tFld, sFld, sFldAug, tCall, tTup, tB, tAug, tDrop, L2.tSl, tPart, tNoPart, tBM, tBM0, tChain, gTup, gCons, gNil, tPar, tIs, List.set, L2.start, iTup, L2.iList, L2.iRng1, tUn, tLst, tTest, gSub, tCall, L2.tIf, tCB, rRep, List.set, List.cons_append, List.nil_append, cxOf]
    refine ⟨prog (rows 21) r5, flT [], ?_, ?_, said_rows21, shaped_fl _, fun H4 s4 => if_no rfl ?_⟩
    · exact ⟨_, rfl, Nat.le_of_ble_eq_true rfl, _, _, rfl, ⟨_, rfl, D, rfl, ld3⟩, _, _, rfl, ⟨_, rfl, Nat.le_of_ble_eq_true rfl, _, _, rfl, rfl, _, _, rfl, rfl, rfl⟩, rfl⟩
    · repeat' (first | exact rfl | exact ⟨_, rfl, Dat.int _⟩ | exact ⟨_, rfl, by assumption⟩ | refine ⟨_, rfl, Nat.le_of_ble_eq_true rfl, ?_⟩ | refine ⟨_, _, rfl, by simp, Nat.le_of_ble_eq_true rfl, ?_, ?_, ?_⟩ | refine ⟨_, _, rfl, ?_, ?_⟩)
    try dsimp only [L2.tRet, L2.tRetN, tAndV, tOrV, tNotV, tCB, L2.tCons, L2.tNil, tC, tVar, L2.tOp, L2.tUn, tSeq, tAsg, gName, tIfS, tTest, tNext, tAnd, tOr, tNot, L2.tIf, tFld, sFld, sFldAug, tCall, tTup, tB, tAug, tDrop, L2.tSl, tPart, tNoPart, tBM, tBM0, tChain, gTup, gCons, gNil, tPar, tIs, List.set, L2.start, iTup, L2.iList, L2.iRng1, tUn, tLst, tTest, gSub, tCall, L2.tIf, tCB, rRep, List.set, List.cons_append, List.nil_append, cxOf]
    refine ⟨tail, ?_, fun v5 H5 s5 d5 => ?_⟩
    · repeat' (first | exact rfl | exact ⟨_, rfl, Dat.int _⟩ | exact ⟨_, rfl, by assumption⟩ | refine ⟨_, rfl, Nat.le_of_ble_eq_true rfl, ?_⟩ | refine ⟨_, _, rfl, by simp, Nat.le_of_ble_eq_true rfl, ?_, ?_, ?_⟩ | refine ⟨_, _, rfl, ?_, ?_⟩)
    try dsimp only [L2.tRet, L2.tRetN, tAndV, tOrV, tNotV, tCB, L2.tCons, L2.tNil, tC, tVar, L2.tOp, L2.tUn, tSeq, tAsg, gName, tIfS, tTest, tNext, tAnd, tOr, tNot, L2.tIf, tFld, sFld, sFldAug, tCall, tTup, tB, tAug, tDrop, L2.tSl, tPart, tNoPart, tBM, tBM0, tChain, gTup, gCons, gNil, tPar, tIs, List.set, L2.start, iTup, L2.iList, L2.iRng1, tUn, tLst, tTest, gSub, tCall, L2.tIf, tCB, rRep, List.set, List.cons_append, List.nil_append, cxOf]
    refine ⟨prog [] tail, szT 6 1005, ?_, ?_, said_tail, shaped_dat, fun H6 s6 => q _ ((((sm.trans s3).trans s4).trans s5).trans s6)⟩
    · repeat' (first | exact rfl | exact ⟨_, rfl, Dat.int _⟩ | exact ⟨_, rfl, by assumption⟩ | refine ⟨_, rfl, Nat.le_of_ble_eq_true rfl, ?_⟩ | refine ⟨_, _, rfl, by simp, Nat.le_of_ble_eq_true rfl, ?_, ?_, ?_⟩ | refine ⟨_, _, rfl, ?_, ?_⟩)
    · repeat' (first | exact rfl | exact ⟨_, rfl, Dat.int _⟩ | exact ⟨_, rfl, by assumption⟩ | refine ⟨_, rfl, Nat.le_of_ble_eq_true rfl, ?_⟩ | refine ⟨_, _, rfl, by simp, Nat.le_of_ble_eq_true rfl, ?_, ?_, ?_⟩ | refine ⟨_, _, rfl, ?_, ?_⟩)
end
end Ck

namespace Ck
open PySem PySem.Spec PyProof.Rows L2
section
variable {P : Program} {w : World} {K : PySem.W.Frag} {mg : Str → Option Value} {base : Heap}
theorem pd_bin2 {X : Cx} {a b : Expr} {pos : Pos} {op : Operator} {f : Int → Int → Int} {Cn : Int → Int → Prop} {C D : CD} (o : OpR X (binaryOp op) (rI Cn fun i j => .int (f i j))) (ha : PD X a C) (hb : PD X b D) : PD X (.BinOp a op b pos) fun σ H t => ∃ i j, t = .int (f i j) ∧ Cn i j ∧ C σ H (.int i) ∧ D σ H (.int j) :=
  ⟨pe_imp (pe_op o ha.pe hb.pe) fun σ H Q ⟨t, ⟨i, j, e, cn, c, d⟩, q⟩ => by
    subst e
    refine ⟨_, c, fun v H1 s1 d1 => ⟨_, hb.up _ _ _ _ s1 d, fun u H2 s2 d2 => ?_⟩⟩
    exact ⟨i, j, dat_int d1, dat_int d2, cn, q _ _ (s1.trans s2) (.int _)⟩, fun σ _ _ _ s ⟨i, j, e, cn, c, d⟩ => ⟨i, j, e, cn, ha.up _ _ _ _ s c, hb.up _ _ _ _ s d⟩⟩
theorem pd_ixL {X : Cx} {e b : Expr} {pos : Pos} {C : CDs} {D : CD} (ha : PLd X e C) (hb : PD X b D) (hp : PlainIx b) : PD X (.Subscript e b pos) fun σ H t => ∃ ts, ∃ i : Nat, ts[i]? = some t ∧ C σ H ts ∧ D σ H (.int i) :=
  ⟨pe_imp (pe_ix ix_list ha.pe hb.pe hp) fun σ H Q ⟨t, ⟨ts, i, e, c, d⟩, q⟩ => by
    refine ⟨ts, c, fun a H1 s1 l1 => ⟨_, hb.up _ _ _ _ s1 d, fun u H2 s2 d2 => ?_⟩⟩
    obtain ⟨xs, hx, ds⟩ := l1.up s2
    obtain ⟨v, ev, dv⟩ := ds.at e
    exact ⟨a, xs, _, v, rfl, dat_int d2, .inl (.inl hx), atI_nat ev, q _ _ (s1.trans s2) dv⟩, fun σ _ _ _ s ⟨ts, i, e, c, d⟩ => ⟨ts, i, e, ha.up _ _ _ _ s c, hb.up _ _ _ _ s d⟩⟩
theorem wd3_at (k : Nat) : ([T.str "give", .str "zero", .str "keep"] : List T)[k % 3]? = some (.str (wd3 k)) := by
  have z : k % 3 = 0 ∨ k % 3 = 1 ∨ k % 3 = 2 := by omega
  unfold wd3
  rcases z with h | h | h <;> rw [h] <;> rfl
abbrev sVars : Stmt := topS 57
abbrev NV : List Str := ["_law_source_here", "_law_many", "_law_trees", "_law_cut", "_law_plan", "_law_told", "_law_k"]
theorem scVa : FnScope NV ["_law_source_here"] (defScope sVars) := ⟨rfl, rfl, rfl, by decide +kernel, rfl, by decide +kernel, by decide +kernel⟩
def tVr (K : PySem.W.Frag) : TE := fun σ H Q => ∃ k : Nat, σ[6]? = some (some (.int k)) ∧ ∀ v H', Same H H' → Dat K H' v (vr k) → Q v H'
def CVr (K : PySem.W.Frag) : CD := fun σ H t => ∃ ts, t = T.tup ts ∧ ts.length ≤ 1000 ∧ ∃ t us, ts = t :: us ∧ (∃ ts, ∃ i : Nat, ts[i]? = some t ∧ (ts.length ≤ 1000 ∧ ∃ t us, ts = t :: us ∧ t = .str "give" ∧ ∃ t us2, us = t :: us2 ∧ t = .str "zero" ∧ ∃ t us3, us2 = t :: us3 ∧ t = .str "keep" ∧ us3 = []) ∧
    ∃ a b : Int, T.int (i : Nat) = T.int (a % b) ∧ 0 < b ∧ (∃ v, σ[6]? = some (some v) ∧ Dat K H v (.int a)) ∧ T.int b = T.int 3) ∧ ∃ t us2, us = t :: us2 ∧ (∃ k : Nat, t = .str (nm k) ∧ ∃ v, σ[6]? = some (some v) ∧ Dat K H v (.int k)) ∧ us2 = []
theorem vr_is (σ : L2.St) (H : Hp) (Q : VK) : tVr K σ H Q → tDat K (CVr K) σ H Q := fun ⟨k, e, q⟩ => by
  refine ⟨vr k, ⟨_, rfl, Nat.le_of_ble_eq_true rfl, _, _, rfl, ⟨_, k % 3, wd3_at k, ⟨Nat.le_of_ble_eq_true rfl, _, _, rfl, rfl, _, _, rfl, rfl, _, _, rfl, rfl, rfl⟩, k, 3, ?_, by decide, ⟨_, e, .int _⟩, rfl⟩, _, _, rfl, ⟨k, rfl, _, e, .int _⟩, rfl⟩, q⟩
  have z : ((k % 3 : Nat) : Int) = (k : Int) % 3 := by omega
  rw [z]
theorem vrs_succ (i : Nat) : vrs (i + 1) = vrs i ++ [vr i] := by
  rw [vrs, List.range_succ, List.map_append]
  rfl
theorem ok_vars {f : Addr} {fd : FuncData} (F : Fun K "_law_variables_right" "_law_variables_right" sVars f fd) (GT : GTk P w K mg base) (GL : GLt P w K mg base) (GS : GSd P w K mg base) (mr : mg "range" = none) (mt : mg "tuple" = none) (mi : mg "int" = none) : FnOk P w K mg base CX0 89 f fd ["_law_source_here"] spYes := by
  refine F.ok scVa (fun vs H Q E h => ?_) (fun cdv A outer s H vs Q E hr h => ?_)
  · obtain ⟨_, rfl, _⟩ := h
    rfl
  obtain ⟨l, rfl, sr, q⟩ := h
  have hu := hr.units
  refine ⟨_, (pss_cons (ps_for PassesOwn.never rfl (pi_tup (pe_tup (pa_cons pe_int (pa_cons pe_int (pa_cons pe_int (pa_cons (pe_op op_add pe_int (pe_draw GT hr rfl (pv 0) pd_int)) pa_nil)))))) (pg_name (i := 1) scVa.nd rfl (.inl rfl))
    (pss_cons (ps_set (i := 2) scVa.nd rfl (.inl rfl) (pe_op op_rep (pe_lc (te := tVr K) (own := [("_law_k", 6)]) (g := gName 6) (tt := tYes) rfl scVa.nd (pi_range1 rfl mr (pa_cons (pv 1) pa_nil)) (blkOk_by (N := NV) (sc := defScope sVars) (by decide +kernel)) (fun _ _ _ _ _ => pg_name (i := 6) scVa.nd rfl (.inl rfl)) (fun _ _ _ _ _ => pts_nil)
        (fun _ _ _ _ _ => pe_imp (PD.pe (pd_tup (pds_cons (pd_ixL (pl_disp (pds_cons pd_str (pds_cons pd_str (pds_cons pd_str pds_nil)))) (pd_bin2 op_mod (pd_var 6 (pv 6)) pd_int) (fun _ _ => rfl)) (pds_cons (pd_letters GL hr rfl (pd_var 6 (pv 6))) pds_nil)))) vr_is)) pe_int)) (pss_cons (ps_set (i := 3) scVa.nd rfl (.inl rfl) (pe_op op_add pe_int (pe_draw GT hr rfl (pv 0) (pd_bin op_sub (pd_bin2 op_mul pd_int (pd_var 1 (pv 1))) pd_int)))) (pss_cons (ps_set (i := 4) scVa.nd rfl (.inl rfl) (PD.pe (pd_tup (pds_cons (pd_tup (pds_cons (pd_tup (pds_cons pd_str (pds_cons (pd_tup (pds_cons pd_str (pds_cons (pd_tuple mt (by rfl) (pl_to (pl_var 2 (pv 2)) (pd_var 3 (pv 3)))) pds_nil))) pds_nil))) pds_nil)) (pds_cons (pd_tup (pds_cons pd_str (pds_cons (pd_tuple mt (by rfl) (pl_cat (pl_from (pl_var 2 (pv 2)) (pd_var 3 (pv 3))) (pl_disp (pds_cons (pd_tup (pds_cons pd_str (pds_cons pd_str pds_nil))) (pds_cons (pd_tup (pds_cons pd_str (pds_cons pd_str pds_nil))) pds_nil))))) pds_nil))) pds_nil))))) (pss_cons (ps_set (i := 5) scVa.nd rfl (.inl rfl) (pe_go GS hr pass0 rfl (pa_cons (PD.pe (pd_var 4 (pv 4))) pa_nil))) (pss_one (ps_if (PW.pt (pw_or (pt_cmpR op_ne (pe_ix ix_tup (pv 5) pe_int fun _ _ => rfl) (pe_ix ix_list (pe_lst (pa_cons pe_str (pa_cons pe_str pa_nil))) (pe_intc mi rfl (pe_cmpR op_gt (pv 1) pe_int rfl)) fun _ _ => rfl) rfl)
          (pw_or1 (PW.pt (pw_and (pt_cmpR op_gt (pv 1) pe_int rfl) (pw_and1 (pt_cmpR (op_neD hu) (pe_ix ix_tup (pv 5) pe_int fun _ _ => rfl) (pe_tup pa_nil) rfl))))))) (pss_one (ps_ret pe_bl)) pss_nil))))))) (pss_one (ps_ret pe_bl))), ?_⟩
  try dsimp only [L2.tRet, L2.tRetN, tAndV, tOrV, tNotV, tCB, L2.tCons, L2.tNil, tC, tVar, L2.tOp, L2.tUn, tSeq, tAsg, gName, tIfS, tTest, tNext, tAnd, tOr, tNot, L2.tIf, tFld, sFld, sFldAug, tCall, tTup, tB, tAug, tDrop, L2.tSl, tPart, tNoPart, tBM, tBM0, tChain, gTup, gCons, gNil, tPar, tIs, List.set, L2.start, iTup, L2.iList, L2.iRng1, tUn, tLst, tTest, gSub, tCall, L2.tIf, tCB, rRep, List.set, List.cons_append, List.nil_append, cxOf]
  refine loop_in ?_
  try dsimp only [L2.tRet, L2.tRetN, tAndV, tOrV, tNotV, tCB, L2.tCons, L2.tNil, tC, tVar, L2.tOp, L2.tUn, tSeq, tAsg, gName, tIfS, tTest, tNext, tAnd, tOr, tNot, L2.tIf, tFld, sFld, sFldAug, tCall, tTup, tB, tAug, tDrop, L2.tSl, tPart, tNoPart, tBM, tBM0, tChain, gTup, gCons, gNil, tPar, tIs, List.set, L2.start, iTup, L2.iList, L2.iRng1, tUn, tLst, tTest, gSub, tCall, L2.tIf, tCB, rRep, List.set, List.cons_append, List.nil_append, cxOf]
  refine ⟨l, 60, rfl, rfl, by decide, by decide, sr, fun r H1 r0 r1 st sr1 kp => ?_⟩
  try dsimp only [L2.tRet, L2.tRetN, tAndV, tOrV, tNotV, tCB, L2.tCons, L2.tNil, tC, tVar, L2.tOp, L2.tUn, tSeq, tAsg, gName, tIfS, tTest, tNext, tAnd, tOr, tNot, L2.tIf, tFld, sFld, sFldAug, tCall, tTup, tB, tAug, tDrop, L2.tSl, tPart, tNoPart, tBM, tBM0, tChain, gTup, gCons, gNil, tPar, tIs, List.set, L2.start, iTup, L2.iList, L2.iRng1, tUn, tLst, tTest, gSub, tCall, L2.tIf, tCB, rRep, List.set, List.cons_append, List.nil_append, cxOf]
  refine ⟨_, _, rfl, rfl, sl (n := 4) (by decide), fun p1 n1 => ?_⟩
  try dsimp only [L2.tRet, L2.tRetN, tAndV, tOrV, tNotV, tCB, L2.tCons, L2.tNil, tC, tVar, L2.tOp, L2.tUn, tSeq, tAsg, gName, tIfS, tTest, tNext, tAnd, tOr, tNot, L2.tIf, tFld, sFld, sFldAug, tCall, tTup, tB, tAug, tDrop, L2.tSl, tPart, tNoPart, tBM, tBM0, tChain, gTup, gCons, gNil, tPar, tIs, List.set, L2.start, iTup, L2.iList, L2.iRng1, tUn, tLst, tTest, gSub, tCall, L2.tIf, tCB, rRep, List.set, List.cons_append, List.nil_append, cxOf]
  have si : Since l H H1 := ⟨st, sr1, kp⟩
  refine ⟨p1, rfl, ⟨_, sqt (K := K) upd_same⟩, loop_tup (K := K) (a := p1) (xs := [V.int 39, V.int 40, V.int 41, V.int (2 + r)]) (fun _ σ H' => (Since l H H' ∧ ∃ a b c d e, σ = [some (.ref l), a, b, c, d, e, none]) ∧ H' p1 = some (.tup [V.int 39, V.int 40, V.int 41, V.int (2 + r)])) ⟨⟨si.up (same_new n1), _, _, _, _, _, rfl⟩, upd_same⟩ (fun i σ H _ z => sqt (K := K) z.2) ?hs ?hd⟩
  case hs =>
    rintro i x σ H2 hx ⟨⟨si2, b1, b2, b3, b4, b5, rfl⟩, h1⟩
    obtain ⟨M, rfl, M2, M3⟩ : ∃ M : Nat, x = .int M ∧ 2 ≤ M ∧ M ≤ 61 := by
      match i, hx with
      | 0, e => exact ⟨39, (Option.some.inj e).symm, by decide, by decide⟩
      | 1, e => exact ⟨40, (Option.some.inj e).symm, by decide, by decide⟩
      | 2, e => exact ⟨41, (Option.some.inj e).symm, by decide, by decide⟩
      | 3, e => exact ⟨(2 + r).toNat, by rw [Int.toNat_of_nonneg (by omega)]; exact (Option.some.inj e).symm, by omega, by omega⟩
      | n + 4, e => cases e
    try dsimp only [L2.tRet, L2.tRetN, tAndV, tOrV, tNotV, tCB, L2.tCons, L2.tNil, tC, tVar, L2.tOp, L2.tUn, tSeq, tAsg, gName, tIfS, tTest, tNext, tAnd, tOr, tNot, L2.tIf, tFld, sFld, sFldAug, tCall, tTup, tB, tAug, tDrop, L2.tSl, tPart, tNoPart, tBM, tBM0, tChain, gTup, gCons, gNil, tPar, tIs, List.set, L2.start, iTup, L2.iList, L2.iRng1, tUn, tLst, tTest, gSub, tCall, L2.tIf, tCB, rRep, List.set, List.cons_append, List.nil_append, cxOf]
    refine lc_in ?_
    try dsimp only [L2.tRet, L2.tRetN, tAndV, tOrV, tNotV, tCB, L2.tCons, L2.tNil, tC, tVar, L2.tOp, L2.tUn, tSeq, tAsg, gName, tIfS, tTest, tNext, tAnd, tOr, tNot, L2.tIf, tFld, sFld, sFldAug, tCall, tTup, tB, tAug, tDrop, L2.tSl, tPart, tNoPart, tBM, tBM0, tChain, gTup, gCons, gNil, tPar, tIs, List.set, L2.start, iTup, L2.iList, L2.iRng1, tUn, tLst, tTest, gSub, tCall, L2.tIf, tCB, rRep, List.set, List.cons_append, List.nil_append, cxOf]
    refine ⟨_, rfl, M, rfl, by omega, by omega, lcl_range (lo := 0) (n := M) (fun D i H' => LD K H' D (vrs i) ∧ Same H2 H') (fun D nD => ⟨⟨[], upd_same, .nil⟩, same_new nD⟩) ?hs3 ?hd3⟩
    case hs3 =>
      rintro D nD i H3 li ⟨ld, sm⟩
      try dsimp only [L2.tRet, L2.tRetN, tAndV, tOrV, tNotV, tCB, L2.tCons, L2.tNil, tC, tVar, L2.tOp, L2.tUn, tSeq, tAsg, gName, tIfS, tTest, tNext, tAnd, tOr, tNot, L2.tIf, tFld, sFld, sFldAug, tCall, tTup, tB, tAug, tDrop, L2.tSl, tPart, tNoPart, tBM, tBM0, tChain, gTup, gCons, gNil, tPar, tIs, List.set, L2.start, iTup, L2.iList, L2.iRng1, tUn, tLst, tTest, gSub, tCall, L2.tIf, tCB, rRep, List.set, List.cons_append, List.nil_append, cxOf]
      refine ⟨rfl, ?_⟩
      dsimp only [tYes]
      refine if_yes rfl ⟨i, by rw [Int.zero_add]; rfl, fun v H4 s4 d4 => ?_⟩
      obtain ⟨acc, ha, ds⟩ := ld.up s4
      have len : acc.length = i := by rw [ds.len, vrs, List.length_map, List.length_range]
      refine ⟨acc, ha, Nat.lt_of_lt_of_le (show acc.length < 1000 by omega) (sl (by decide)), ⟨_, upd_same, ?_⟩, Ck.Same.up (sm.trans s4) nD⟩
      rw [vrs_succ]
      exact (ds.app (.cons d4 .nil)).up (stay_lst ha)
    case hd3 =>
      rintro D nD H3 ⟨ld, sm⟩
      try dsimp only [L2.tRet, L2.tRetN, tAndV, tOrV, tNotV, tCB, L2.tCons, L2.tNil, tC, tVar, L2.tOp, L2.tUn, tSeq, tAsg, gName, tIfS, tTest, tNext, tAnd, tOr, tNot, L2.tIf, tFld, sFld, sFldAug, tCall, tTup, tB, tAug, tDrop, L2.tSl, tPart, tNoPart, tBM, tBM0, tChain, gTup, gCons, gNil, tPar, tIs, List.set, L2.start, iTup, L2.iList, L2.iRng1, tUn, tLst, tTest, gSub, tCall, L2.tIf, tCB, rRep, List.set, List.cons_append, List.nil_append, cxOf]
      obtain ⟨xs, hx3, ds⟩ := ld
      have len : xs.length = M := by rw [ds.len, vrs, List.length_map, List.length_range]
      have si3 := si2.up sm
      have h3 := sm _ _ h1
      refine ⟨D, 2, xs, rfl, rfl, hx3, by decide, by decide, sl (by show xs.length * 2 ≤ _; omega), fun p np => ?_⟩
      have s4 : Same H3 (upd H3 p (.lst (List.replicate (2 : Int).toNat xs).flatten)) := same_new np
      have pl : p ≠ l := by
        intro z
        subst z
        obtain ⟨_, _, _, e⟩ := si3.sr
        rw [np] at e
        cases e
      have ld4 : LD K (upd H3 p (.lst (List.replicate (2 : Int).toNat xs).flatten)) p ((List.range M ++ List.range M).map vr) := ⟨_, upd_same, by
        have z := (ds.up (same_stay s4)).reps 2
        have e : (List.replicate 2 (vrs M)).flatten = (List.range M ++ List.range M).map vr := by
          rw [List.map_append]
          show vrs M ++ (vrs M ++ []) = _
          rw [List.append_nil]
          rfl
        rw [e] at z
        exact z⟩
      generalize upd H3 p (.lst (List.replicate (2 : Int).toNat xs).flatten) = H4 at s4 ld4 ⊢
      have si4 := si3.up s4
      have h4 := s4 _ _ h3
      refine ⟨l, 2 * (M : Int) - 3, rfl, ⟨2 * (M : Int), 3, rfl, ⟨2, M, rfl, .inl ⟨by decide, by decide⟩, rfl, ⟨_, rfl, .int _⟩⟩, rfl⟩, by omega, by omega, si4.sr, fun r5 H5 q0 q1 st5 sr5 kp5 => ?_⟩
      have si5 := si4.draw st5 sr5 kp5
      have h5 := st5 _ _ h4
      have ld5 : LD K H5 p ((List.range M ++ List.range M).map vr) := by
        obtain ⟨ys, hy, es⟩ := ld4
        exact ⟨ys, kp5 p _ pl hy, es.up st5⟩
      obtain ⟨c, hc⟩ : ∃ c : Nat, 2 + r5 = (c : Int) := ⟨(2 + r5).toNat, by omega⟩
      try dsimp only [L2.tRet, L2.tRetN, tAndV, tOrV, tNotV, tCB, L2.tCons, L2.tNil, tC, tVar, L2.tOp, L2.tUn, tSeq, tAsg, gName, tIfS, tTest, tNext, tAnd, tOr, tNot, L2.tIf, tFld, sFld, sFldAug, tCall, tTup, tB, tAug, tDrop, L2.tSl, tPart, tNoPart, tBM, tBM0, tChain, gTup, gCons, gNil, tPar, tIs, List.set, L2.start, iTup, L2.iList, L2.iRng1, tUn, tLst, tTest, gSub, tCall, L2.tIf, tCB, rRep, List.set, List.cons_append, List.nil_append, cxOf]
      refine ⟨_, _, rfl, rfl, ?_⟩
      try dsimp only [L2.tRet, L2.tRetN, tAndV, tOrV, tNotV, tCB, L2.tCons, L2.tNil, tC, tVar, L2.tOp, L2.tUn, tSeq, tAsg, gName, tIfS, tTest, tNext, tAnd, tOr, tNot, L2.tIf, tFld, sFld, sFldAug, tCall, tTup, tB, tAug, tDrop, L2.tSl, tPart, tNoPart, tBM, tBM0, tChain, gTup, gCons, gNil, tPar, tIs, List.set, L2.start, iTup, L2.iList, L2.iRng1, tUn, tLst, tTest, gSub, tCall, L2.tIf, tCB, rRep, List.set, List.cons_append, List.nil_append, cxOf]
      rw [hc]
      have kl : (List.range M ++ List.range M).length = 2 * M := by rw [List.length_append, List.length_range]; omega
      obtain ⟨x1, x2, sd⟩ := vars_said (List.range M ++ List.range M) c (by omega) (by omega) (fun k hk => by
        have z : k < M := by
          rcases List.mem_append.mp hk with z | z <;> exact List.mem_range.mp z
        omega) (by omega)
      rw [names_count (by omega)] at sd
      refine ⟨prog [un "f" (sq (((List.range M ++ List.range M).take c).map vr))] (sq (((List.range M ++ List.range M).drop c).map vr ++ [rb, rb])), ?_, fun v6 H6 s6 d6 => ?_⟩
      · have lm : ((List.range M ++ List.range M).map vr).length = 2 * M := by rw [List.length_map, kl]
        refine ⟨_, rfl, Nat.le_of_ble_eq_true rfl, _, _, rfl, ⟨_, rfl, Nat.le_of_ble_eq_true rfl, _, _, rfl, ⟨_, rfl, Nat.le_of_ble_eq_true rfl, _, _, rfl, rfl, _, _, rfl, ⟨_, rfl, Nat.le_of_ble_eq_true rfl, _, _, rfl, rfl, _, _, rfl, ⟨((List.range M ++ List.range M).take c).map vr, rfl, (List.range M ++ List.range M).map vr, c, List.map_take, by omega, ⟨p, rfl, ld5⟩, ⟨_, rfl, .int _⟩⟩, rfl⟩, rfl⟩, rfl⟩,
          _, _, rfl, ⟨_, rfl, Nat.le_of_ble_eq_true rfl, _, _, rfl, rfl, _, _, rfl, ⟨_, rfl, ((List.range M ++ List.range M).drop c).map vr, [rb, rb], rfl, ?_, ⟨(List.range M ++ List.range M).map vr, c, List.map_drop, by omega, ⟨p, rfl, ld5⟩, ⟨_, rfl, .int _⟩⟩, ⟨Nat.le_of_ble_eq_true rfl, ?_⟩⟩, rfl⟩, rfl⟩
        · rw [List.length_map, List.length_drop, kl]
          show 2 * M - c + 2 ≤ 10000
          omega
        · repeat' (first | exact rfl | exact ⟨_, rfl, Dat.int _⟩ | exact ⟨_, rfl, by assumption⟩ | refine ⟨_, rfl, Nat.le_of_ble_eq_true rfl, ?_⟩ | refine ⟨_, _, rfl, by simp, Nat.le_of_ble_eq_true rfl, ?_, ?_, ?_⟩ | refine ⟨_, _, rfl, ?_, ?_⟩)
      try dsimp only [L2.tRet, L2.tRetN, tAndV, tOrV, tNotV, tCB, L2.tCons, L2.tNil, tC, tVar, L2.tOp, L2.tUn, tSeq, tAsg, gName, tIfS, tTest, tNext, tAnd, tOr, tNot, L2.tIf, tFld, sFld, sFldAug, tCall, tTup, tB, tAug, tDrop, L2.tSl, tPart, tNoPart, tBM, tBM0, tChain, gTup, gCons, gNil, tPar, tIs, List.set, L2.start, iTup, L2.iList, L2.iRng1, tUn, tLst, tTest, gSub, tCall, L2.tIf, tCB, rRep, List.set, List.cons_append, List.nil_append, cxOf]
      refine ⟨_, ⟨v6, rfl, d6⟩, fun v7 H7 s7 d7 => ?_⟩
      refine said_use d7 sd fun p8 H8 s8 d8 => ?_
      have sm8 := (s6.trans s7).trans s8
      have si8 := si5.up sm8
      have h8 := sm8 _ _ h5
      try dsimp only [L2.tRet, L2.tRetN, tAndV, tOrV, tNotV, tCB, L2.tCons, L2.tNil, tC, tVar, L2.tOp, L2.tUn, tSeq, tAsg, gName, tIfS, tTest, tNext, tAnd, tOr, tNot, L2.tIf, tFld, sFld, sFldAug, tCall, tTup, tB, tAug, tDrop, L2.tSl, tPart, tNoPart, tBM, tBM0, tChain, gTup, gCons, gNil, tPar, tIs, List.set, L2.start, iTup, L2.iList, L2.iRng1, tUn, tLst, tTest, gSub, tCall, L2.tIf, tCB, rRep, List.set, List.cons_append, List.nil_append, cxOf]
      by_cases c40 : 40 < M
      · rw [if_pos c40] at d8
        obtain ⟨a8, xs8, e8, hp8, ds8⟩ := dat_tup d8
        cases e8
        obtain ⟨v9, v10, rfl, d9, d10⟩ := dats_two ds8
        cases dat_str d9
        refine ⟨_, rfl, p8, _, _, _, rfl, rfl, sqt hp8, atI_nat (j := 0) rfl, sl (Nat.le_of_ble_eq_true rfl), fun p9 n9 => ?_⟩
        dsimp only [tInt]
        try dsimp only [L2.tRet, L2.tRetN, tAndV, tOrV, tNotV, tCB, L2.tCons, L2.tNil, tC, tVar, L2.tOp, L2.tUn, tSeq, tAsg, gName, tIfS, tTest, tNext, tAnd, tOr, tNot, L2.tIf, tFld, sFld, sFldAug, tCall, tTup, tB, tAug, tDrop, L2.tSl, tPart, tNoPart, tBM, tBM0, tChain, gTup, gCons, gNil, tPar, tIs, List.set, L2.start, iTup, L2.iList, L2.iRng1, tUn, tLst, tTest, gSub, tCall, L2.tIf, tCB, rRep, List.set, List.cons_append, List.nil_append, cxOf]
        refine ⟨_, rfl, _, _, rfl, rfl, .inr ⟨_, rfl, ?_⟩⟩
        rw [decide_eq_true (show (40 : Int) < M by omega)]
        show rIxL K (.ref p9) (.int 1) _ _
        refine ⟨p9, _, _, .str "fault", rfl, rfl, .inl (.inl upd_same), atI_nat (j := 1) rfl, ?_⟩
        have s9 : Same H8 (upd H8 p9 (.lst [V.str "sizes", V.str "fault"])) := same_new n9
        try dsimp only [L2.tRet, L2.tRetN, tAndV, tOrV, tNotV, tCB, L2.tCons, L2.tNil, tC, tVar, L2.tOp, L2.tUn, tSeq, tAsg, gName, tIfS, tTest, tNext, tAnd, tOr, tNot, L2.tIf, tFld, sFld, sFldAug, tCall, tTup, tB, tAug, tDrop, L2.tSl, tPart, tNoPart, tBM, tBM0, tChain, gTup, gCons, gNil, tPar, tIs, List.set, L2.start, iTup, L2.iList, L2.iRng1, tUn, tLst, tTest, gSub, tCall, L2.tIf, tCB, rRep, List.set, List.cons_append, List.nil_append, cxOf]
        refine ⟨rfl, _, rfl, ?_⟩
        refine if_no (by rw [decide_eq_true rfl]; rfl) ?_
        refine ⟨_, rfl, _, _, rfl, rfl, _, rfl, if_yes (decide_eq_true (show (40 : Int) < M by omega)) ?_⟩
        refine ⟨_, rfl, p8, _, _, _, rfl, rfl, sqt (s9 _ _ hp8), atI_nat (j := 1) rfl, sl (Nat.le_of_ble_eq_true rfl), fun p10 n10 => ?_⟩
        have s10 := same_new (o := .tup []) n10
        exact dat_ne (s := .tup []) (by decide) ((d10.up (same_stay s9)).up (same_stay s10)) (Dats.nil.tup upd_same) ⟨_, rfl, if_no rfl ⟨⟨(si8.up s9).up s10, _, _, _, _, _, rfl⟩, s10 _ _ (s9 _ _ h8)⟩⟩
      · rw [if_neg c40] at d8
        obtain ⟨a8, xs8, e8, hp8, ds8⟩ := dat_tup d8
        cases e8
        obtain ⟨v9, v10, rfl, d9, d10⟩ := dats_two ds8
        cases dat_str d9
        refine ⟨_, rfl, p8, _, _, _, rfl, rfl, sqt hp8, atI_nat (j := 0) rfl, sl (Nat.le_of_ble_eq_true rfl), fun p9 n9 => ?_⟩
        dsimp only [tInt]
        try dsimp only [L2.tRet, L2.tRetN, tAndV, tOrV, tNotV, tCB, L2.tCons, L2.tNil, tC, tVar, L2.tOp, L2.tUn, tSeq, tAsg, gName, tIfS, tTest, tNext, tAnd, tOr, tNot, L2.tIf, tFld, sFld, sFldAug, tCall, tTup, tB, tAug, tDrop, L2.tSl, tPart, tNoPart, tBM, tBM0, tChain, gTup, gCons, gNil, tPar, tIs, List.set, L2.start, iTup, L2.iList, L2.iRng1, tUn, tLst, tTest, gSub, tCall, L2.tIf, tCB, rRep, List.set, List.cons_append, List.nil_append, cxOf]
        refine ⟨_, rfl, _, _, rfl, rfl, .inr ⟨_, rfl, ?_⟩⟩
        rw [decide_eq_false (show ¬ (40 : Int) < M by omega)]
        show rIxL K (.ref p9) (.int 0) _ _
        refine ⟨p9, _, _, .str "sizes", rfl, rfl, .inl (.inl upd_same), atI_nat (j := 0) rfl, ?_⟩
        have s9 : Same H8 (upd H8 p9 (.lst [V.str "sizes", V.str "fault"])) := same_new n9
        try dsimp only [L2.tRet, L2.tRetN, tAndV, tOrV, tNotV, tCB, L2.tCons, L2.tNil, tC, tVar, L2.tOp, L2.tUn, tSeq, tAsg, gName, tIfS, tTest, tNext, tAnd, tOr, tNot, L2.tIf, tFld, sFld, sFldAug, tCall, tTup, tB, tAug, tDrop, L2.tSl, tPart, tNoPart, tBM, tBM0, tChain, gTup, gCons, gNil, tPar, tIs, List.set, L2.start, iTup, L2.iList, L2.iRng1, tUn, tLst, tTest, gSub, tCall, L2.tIf, tCB, rRep, List.set, List.cons_append, List.nil_append, cxOf]
        refine ⟨rfl, _, rfl, ?_⟩
        refine if_no (by rw [decide_eq_true rfl]; rfl) ?_
        refine ⟨_, rfl, _, _, rfl, rfl, _, rfl, if_no (decide_eq_false (show ¬ (40 : Int) < M by omega)) (if_no rfl ?_)⟩
        exact ⟨⟨si8.up s9, _, _, _, _, _, rfl⟩, s9 _ _ h8⟩
  case hd =>
    rintro σ H2 ⟨⟨si2, b1, b2, b3, b4, b5, rfl⟩, h1⟩
    try dsimp only [L2.tRet, L2.tRetN, tAndV, tOrV, tNotV, tCB, L2.tCons, L2.tNil, tC, tVar, L2.tOp, L2.tUn, tSeq, tAsg, gName, tIfS, tTest, tNext, tAnd, tOr, tNot, L2.tIf, tFld, sFld, sFldAug, tCall, tTup, tB, tAug, tDrop, L2.tSl, tPart, tNoPart, tBM, tBM0, tChain, gTup, gCons, gNil, tPar, tIs, List.set, L2.start, iTup, L2.iList, L2.iRng1, tUn, tLst, tTest, gSub, tCall, L2.tIf, tCB, rRep, List.set, List.cons_append, List.nil_append, cxOf]
    exact q _ si2.stay si2.sr si2.keep
end
end Ck

namespace Ck
open PySem PySem.Spec PyProof.Rows L2
theorem loop_it {J : It} {n : Nat} {G : Hp → Prop} {Y : Nat → Hp → V → Hp → Prop} (w : Walk J n G Y) {g : TG} {tb : TS} {D : Ends} {σ : L2.St} {H : Hp} (Pv : Nat → L2.St → Hp → Prop) (h0 : Pv 0 σ H) (hG : ∀ i σ H, i ≤ n → Pv i σ H → G H)
    (hs : ∀ i x σ H H', i < n → Pv i σ H → Y i H x H' → g x σ H' fun σ2 H2 => tb { nx := Pv (i + 1), rt := D.rt, bk := D.nx, ct := Pv (i + 1) } σ2 H2) (hd : ∀ σ H, Pv n σ H → D.nx σ H) : tLoop g tb D σ J H := for_it w Pv h0 hG hs hd
def rCatL (K : PySem.W.Frag) : R2 := fun x y H Q => ∃ l b xs zs, x = .ref l ∧ y = .ref b ∧ SqL K H l xs ∧ H b = some (.lst zs) ∧ xs.length + zs.length ≤ sizeLine ∧ ∀ p, H p = none → Q (.ref p) (upd H p (.lst (xs ++ zs)))
theorem op_catL {X : Cx} : OpR X (binaryOp .Add) (rCatL X.K) := by
  intro pins s σ H x y v u Q I rx ry h
  obtain ⟨l, b, xs, zs, rfl, rfl, hl, hb, hz, q⟩ := h
  obtain rfl : v = .ref l := rx
  obtain rfl : u = .ref b := ry
  obtain ⟨as, ra, ⟨⟨c1, d1, da1, sl1⟩, n1, g1, k1, _, e1⟩, _⟩ := I.list hl
  obtain ⟨_, bs, n2, rb, _, g2⟩ := I.lstM hb
  simp only at k1 e1
  subst k1 e1
  have la := ra.length
  have lb := rb.length
  refine concat_meets (T := "list") ⟨_, g1, rfl⟩ ⟨_, g2, rfl⟩ noFill_list_add seq_list_add PySem.F.slot_list_add PySem.F.entry_list_add (PySem.F.args_list_add_2 _ _)
    (list_addW l b as.toArray bs.toArray n1 n2 d1 none sl1 #[] (by rw [List.size_toArray, List.size_toArray]; omega)) ⟨g1, g2, ?_⟩
  have ea : as.toArray ++ bs.toArray = (as ++ bs).toArray := by simp
  rw [ea]
  exact ⟨.ref _, _, I.lnew (t' := s.toks) (ra.append rb) (by rw [List.length_append]; omega), rfl, q _ I.fresh⟩
section
variable {P : Program} {w : World} {K : PySem.W.Frag} {mg : Str → Option Value} {base : Heap}
theorem sql_up {H H' : Hp} {a : Addr} {xs : List V} (h : SqL K H a xs) (x : Same H H') : SqL K H' a xs := by
  rcases h with (h | ⟨o, h⟩) | h
  · exact Or.inl (Or.inl (x _ _ h))
  · exact Or.inl (Or.inr ⟨o, x _ _ h⟩)
  · exact Or.inr h
theorem ints_cut (ns : List Int) : ∀ x ∈ cutV (ns.map V.int ++ [V.int 0]) none (some 3), ∃ c : Int, x = .int c := by
  intro x hx
  unfold cutV at hx
  have h1 := List.mem_of_mem_take hx
  have h2 := List.mem_of_mem_drop h1
  rw [List.mem_append, List.mem_map] at h2
  rcases h2 with ⟨c, _, e⟩ | h2
  · exact ⟨c, e.symm⟩
  · exact ⟨0, by simpa using h2⟩
abbrev sLaw : Stmt := topS 60
theorem scLw : FnScope ["_law_script", "_law_at", "_law_cell", "_law_source_here"] ["_law_script"] (defScope sLaw) := ⟨rfl, rfl, rfl, by decide +kernel, rfl, by decide +kernel, by decide +kernel⟩
abbrev GYes (P : Program) (w : World) (K : PySem.W.Frag) (mg : Str → Option Value) (base : Heap) (x : Str) : Prop := Go P w K mg base CX0 89 x ["_law_source_here"] spYes
abbrev GSo (P : Program) (w : World) (K : PySem.W.Frag) (mg : Str → Option Value) (base : Heap) : Prop := Go P w K mg base CX0 89 "_law_source" ["_law_cell"] spSource
abbrev GFu (P : Program) (w : World) (K : PySem.W.Frag) (mg : Str → Option Value) (base : Heap) : Prop := Go P w K mg base CX0 89 "_law_functions_right" [] spLast
def spLaw (K : PySem.W.Frag) : Sp := fun vs H Q _ => ∃ (a : Addr) (ns : List Int), vs = [.ref a] ∧ SqL K H a (ns.map V.int) ∧ ns.length ≤ 63 ∧ ∀ H', Q (.bl true) H'
theorem ok_law {f : Addr} {fd : FuncData} (F : Fun K "law" "law" sLaw f fd) (GO : GSo P w K mg base) (GT : GYes P w K mg base "_law_trees_right") (GP : GYes P w K mg base "_law_paths_right") (GV : GYes P w K mg base "_law_variables_right") (GU : GYes P w K mg base "_law_unfolded_right") (GF : GFu P w K mg base) (me : mg "enumerate" = none) :
    FnOk P w K mg base CX0 90 f fd ["_law_script"] (spLaw K) := by
  refine F.ok scLw (fun vs H Q E h => ?_) (fun cdv A outer s H vs Q E hr h => ?_)
  · obtain ⟨_, _, rfl, _⟩ := h
    rfl
  obtain ⟨a, ns, rfl, sq, few, q⟩ := h
  refine ⟨_, (pss_cons (ps_for PassesOwn.never rfl (pi_enum rfl me (pa_cons (pe_slice sl_list (pe_op op_catL (pv 0) (pe_lst (pa_cons pe_int pa_nil))) po_none (po_some pe_int)) pa_nil)) (pg_tup rfl (pgs_cons (pg_name (i := 1) scLw.nd rfl (.inl rfl)) (pgs_cons (pg_name (i := 2) scLw.nd rfl (.inl rfl)) pgs_nil)))
      (pss_cons (ps_set (i := 3) scLw.nd rfl (.inl rfl) (pe_go GO hr pass0 rfl (pa_cons (pv 2) pa_nil))) (pss_cons (ps_if (PW.pt (pw_or (PW.pt (pw_and (pt_cmpR op_eq (pv 1) pe_int rfl) (pw_and1 (pt_not (pt_val (pe_go GT hr pass0 rfl (pa_cons (pv 3) pa_nil))))))) (pw_or1 (pt_not (pt_val (pe_go GP hr pass0 rfl (pa_cons (pv 3) pa_nil))))))) (pss_one (ps_ret pe_bl)) pss_nil) (pss_one (ps_if (PW.pt (pw_or (pt_not (pt_val (pe_go GV hr pass0 rfl (pa_cons (pv 3) pa_nil)))) (pw_or1 (pt_not (pt_val (pe_go GU hr pass0 rfl (pa_cons (pv 3) pa_nil))))))) (pss_one (ps_ret pe_bl)) pss_nil))))) (pss_one (ps_ret (pe_go0 GF hr pass0 rfl)))), ?_⟩
  try dsimp only [L2.tRet, L2.tRetN, tAndV, tOrV, tNotV, tCB, L2.tCons, L2.tNil, tC, tVar, L2.tOp, L2.tUn, tSeq, tAsg, gName, tIfS, tTest, tNext, tAnd, tOr, tNot, L2.tIf, tFld, sFld, sFldAug, tCall, tTup, tB, tAug, tDrop, L2.tSl, tPart, tNoPart, tBM, tBM0, tChain, gTup, gCons, gNil, tPar, tIs, List.set, L2.start, iTup, L2.iList, L2.iRng1, tUn, tLst, tTest, gSub, tCall, L2.tIf, tCB, rRep, List.set, List.cons_append, List.nil_append, cxOf]
  refine loop_in ?_
  dsimp only [L2.iEnum, tSl, rSlL, rCatL]
  try dsimp only [L2.tRet, L2.tRetN, tAndV, tOrV, tNotV, tCB, L2.tCons, L2.tNil, tC, tVar, L2.tOp, L2.tUn, tSeq, tAsg, gName, tIfS, tTest, tNext, tAnd, tOr, tNot, L2.tIf, tFld, sFld, sFldAug, tCall, tTup, tB, tAug, tDrop, L2.tSl, tPart, tNoPart, tBM, tBM0, tChain, gTup, gCons, gNil, tPar, tIs, List.set, L2.start, iTup, L2.iList, L2.iRng1, tUn, tLst, tTest, gSub, tCall, L2.tIf, tCB, rRep, List.set, List.cons_append, List.nil_append, cxOf]
  refine ⟨_, rfl, sl (Nat.le_of_ble_eq_true rfl), fun b nb => ?_⟩
  try dsimp only [L2.tRet, L2.tRetN, tAndV, tOrV, tNotV, tCB, L2.tCons, L2.tNil, tC, tVar, L2.tOp, L2.tUn, tSeq, tAsg, gName, tIfS, tTest, tNext, tAnd, tOr, tNot, L2.tIf, tFld, sFld, sFldAug, tCall, tTup, tB, tAug, tDrop, L2.tSl, tPart, tNoPart, tBM, tBM0, tChain, gTup, gCons, gNil, tPar, tIs, List.set, L2.start, iTup, L2.iList, L2.iRng1, tUn, tLst, tTest, gSub, tCall, L2.tIf, tCB, rRep, List.set, List.cons_append, List.nil_append, cxOf]
  have s1 : Same H (upd H b (.lst [V.int 0])) := same_new nb
  refine ⟨a, b, ns.map V.int, _, rfl, rfl, sql_up sq s1, upd_same, sl (by rw [List.length_map]; show ns.length + 1 ≤ _; omega), fun p np => ?_⟩
  try dsimp only [L2.tRet, L2.tRetN, tAndV, tOrV, tNotV, tCB, L2.tCons, L2.tNil, tC, tVar, L2.tOp, L2.tUn, tSeq, tAsg, gName, tIfS, tTest, tNext, tAnd, tOr, tNot, L2.tIf, tFld, sFld, sFldAug, tCall, tTup, tB, tAug, tDrop, L2.tSl, tPart, tNoPart, tBM, tBM0, tChain, gTup, gCons, gNil, tPar, tIs, List.set, L2.start, iTup, L2.iList, L2.iRng1, tUn, tLst, tTest, gSub, tCall, L2.tIf, tCB, rRep, List.set, List.cons_append, List.nil_append, cxOf]
  refine ⟨3, rfl, p, _, rfl, .inl (.inl upd_same), fun r nr => ?_⟩
  try dsimp only [L2.tRet, L2.tRetN, tAndV, tOrV, tNotV, tCB, L2.tCons, L2.tNil, tC, tVar, L2.tOp, L2.tUn, tSeq, tAsg, gName, tIfS, tTest, tNext, tAnd, tOr, tNot, L2.tIf, tFld, sFld, sFldAug, tCall, tTup, tB, tAug, tDrop, L2.tSl, tPart, tNoPart, tBM, tBM0, tChain, gTup, gCons, gNil, tPar, tIs, List.set, L2.start, iTup, L2.iList, L2.iRng1, tUn, tLst, tTest, gSub, tCall, L2.tIf, tCB, rRep, List.set, List.cons_append, List.nil_append, cxOf]
  refine ⟨r, _, rfl, .inl (.inl upd_same), ?_⟩
  refine loop_it (walk_enum (K := K) (a := r) (xs := cutV (ns.map V.int ++ [V.int 0]) none (some 3))) (fun _ σ H' => (∃ v1 v2 v3, σ = [some (.ref a), v1, v2, v3]) ∧ H' r = some (.lst (cutV (ns.map V.int ++ [V.int 0]) none (some 3)))) ⟨⟨_, _, _, rfl⟩, upd_same⟩ (fun _ _ _ _ z => .inl (.inl z.2)) ?hs ?hd
  case hs =>
    rintro i x σ H2 H3 li ⟨⟨v1, v2, v3, rfl⟩, h2⟩ ⟨t, x1, x2, rfl, nt, rfl, e1, e2⟩
    cases e1
    obtain ⟨c, rfl⟩ := ints_cut ns x2 (List.mem_of_getElem? e2)
    try dsimp only [L2.tRet, L2.tRetN, tAndV, tOrV, tNotV, tCB, L2.tCons, L2.tNil, tC, tVar, L2.tOp, L2.tUn, tSeq, tAsg, gName, tIfS, tTest, tNext, tAnd, tOr, tNot, L2.tIf, tFld, sFld, sFldAug, tCall, tTup, tB, tAug, tDrop, L2.tSl, tPart, tNoPart, tBM, tBM0, tChain, gTup, gCons, gNil, tPar, tIs, List.set, L2.start, iTup, L2.iList, L2.iRng1, tUn, tLst, tTest, gSub, tCall, L2.tIf, tCB, rRep, List.set, List.cons_append, List.nil_append, cxOf]
    refine ⟨t, _, rfl, sqt upd_same, rfl, _, _, rfl, _, _, rfl, rfl, _, rfl, c, rfl, fun p9 n9 => ?_⟩
    try dsimp only [L2.tRet, L2.tRetN, tAndV, tOrV, tNotV, tCB, L2.tCons, L2.tNil, tC, tVar, L2.tOp, L2.tUn, tSeq, tAsg, gName, tIfS, tTest, tNext, tAnd, tOr, tNot, L2.tIf, tFld, sFld, sFldAug, tCall, tTup, tB, tAug, tDrop, L2.tSl, tPart, tNoPart, tBM, tBM0, tChain, gTup, gCons, gNil, tPar, tIs, List.set, L2.start, iTup, L2.iList, L2.iRng1, tUn, tLst, tTest, gSub, tCall, L2.tIf, tCB, rRep, List.set, List.cons_append, List.nil_append, cxOf]
    have h3 := same_new (o := .tup [V.int (i : Int), V.int c]) nt _ _ h2
    have rp : r ≠ p9 := ne_of_none h3 n9
    have h4 := same_new (o := .lst [V.int c, V.int c, V.int 0]) n9 _ _ h3
    have sr4 : Sr p9 (upd (upd H2 t (.tup [V.int (i : Int), V.int c])) p9 (.lst [V.int c, V.int c, V.int 0])) := ⟨c, c, 0, upd_same⟩
    generalize upd (upd H2 t (.tup [V.int (i : Int), V.int c])) p9 (.lst [V.int c, V.int c, V.int 0]) = H4 at h4 sr4 ⊢
    refine ⟨_, rfl, rfl, _, rfl, ?_⟩
    generalize decide (V.int (i : Int) = V.int 0) = k
    cases k with
    | false =>
      refine if_no rfl (if_no rfl ?_)
      refine ⟨_, rfl, p9, rfl, sr4, fun H6 st6 sr6 k6 => ⟨true, rfl, if_no rfl ?_⟩⟩
      refine ⟨_, rfl, p9, rfl, sr6, fun H7 st7 sr7 k7 => ⟨true, rfl, if_no rfl ?_⟩⟩
      refine ⟨_, rfl, p9, rfl, sr7, fun H8 st8 sr8 k8 => ⟨true, rfl, if_no rfl ?_⟩⟩
      exact ⟨⟨_, _, _, rfl⟩, k8 _ _ rp (k7 _ _ rp (k6 _ _ rp h4))⟩
    | true =>
      refine if_yes rfl ⟨_, rfl, p9, rfl, sr4, fun H5 st5 sr5 k5 => ⟨true, rfl, if_no rfl ?_⟩⟩
      refine ⟨_, rfl, p9, rfl, sr5, fun H6 st6 sr6 k6 => ⟨true, rfl, if_no rfl ?_⟩⟩
      refine ⟨_, rfl, p9, rfl, sr6, fun H7 st7 sr7 k7 => ⟨true, rfl, if_no rfl ?_⟩⟩
      refine ⟨_, rfl, p9, rfl, sr7, fun H8 st8 sr8 k8 => ⟨true, rfl, if_no rfl ?_⟩⟩
      exact ⟨⟨_, _, _, rfl⟩, k8 _ _ rp (k7 _ _ rp (k6 _ _ rp (k5 _ _ rp h4)))⟩
  case hd =>
    rintro σ H2 ⟨⟨v1, v2, v3, rfl⟩, h2⟩
    try dsimp only [L2.tRet, L2.tRetN, tAndV, tOrV, tNotV, tCB, L2.tCons, L2.tNil, tC, tVar, L2.tOp, L2.tUn, tSeq, tAsg, gName, tIfS, tTest, tNext, tAnd, tOr, tNot, L2.tIf, tFld, sFld, sFldAug, tCall, tTup, tB, tAug, tDrop, L2.tSl, tPart, tNoPart, tBM, tBM0, tChain, gTup, gCons, gNil, tPar, tIs, List.set, L2.start, iTup, L2.iList, L2.iRng1, tUn, tLst, tTest, gSub, tCall, L2.tIf, tCB, rRep, List.set, List.cons_append, List.nil_append, cxOf]
    exact ⟨rfl, fun H' _ => q H'⟩
end
end Ck

/-! The end: what stands of the module, and the law from nowhere. -/
namespace Ck
open PySem PySem.Spec PyProof.Rows L2 PySem.ErrKw
abbrev bmE (S : Addr) : List Value := [.ref S, .type "ValueError", .type "Exception", .type "BaseException", .type "object"]
/-- every text at the third place of a record is the program's own file -/
def filAll (file : Str) : PySem.W.Frag → Bool
  | [] => true
  | (_, o) :: r => (match o.data with | Data.fields fs => (match (fs[2]? : Option Value) with | some (Value.str z _) => file == z | _ => true) | _ => true) && filAll file r
theorem fil_of {file : Str} : ∀ {K : PySem.W.Frag}, filAll file K = true → ∀ cda ccl cdd fs ccs z tf, K.lookup cda = some ⟨ccl, cdd, .fields fs, ccs⟩ → fs[2]? = some (.str z tf) → (file == z) = true
  | [], _, _, _, _, _, _, _, _, l, _ => by cases l
  | (a, o) :: r, h, cda, ccl, cdd, fs, ccs, z, tf, l, e => by
    unfold filAll at h
    rw [Bool.and_eq_true] at h
    obtain ⟨h1, h2⟩ := h
    rw [List.lookup_cons] at l
    split at l
    · cases l
      simp only at h1
      rw [e] at h1
      exact h1
    · exact fil_of h2 cda ccl cdd fs ccs z tf l e
theorem with_fil {K : PySem.W.Frag} {h : Heap} {R : Prop} (file : Str) (_ : K.In h) (a : filAll file K = true) (tp : PySem.W.nsIn K cStatics "thirdparty.any" = some none)
    (next : filAll file K = true → PySem.W.nsIn K cStatics "thirdparty.any" = some none → R) : R := next a tp
theorem with_err {P : Program} {K : PySem.W.Frag} {h : Heap} {mg : Str → Option Value} {C F S cda cc : Addr} {nm q : Str} {N : Addr} {bs : List Value} {sn : List Str} {sub : List Value} {ab : Bool} {col : Option Bool} {dd : Option Addr} {m0 m1 m2 m3 m5 : Option Value} {R : Prop}
    {qn msg : Str} {k : Nat} {oc doc pm ct ccl cll : Value} {od an cdd cld : Option Addr} {osl ccs csl : Array (Option Value)} {fs : Array Value} {tf : Tok} {p1 p2 q1 q2 q3 q4 q5 q6 q7 q8 q9 q10 : Pos}
    (x f : Str) (X : K.In h) (G : h.Ns mainGlobals mg) (sup : mg "super" = none) (tp : PySem.W.nsIn K cStatics "thirdparty.any" = some none) (top : (P.main.scope.names.lookup ("super" : Str)).isSome = false) (fil : filAll P.main.file K = true)
    (kl : (iScope f).names.lookup f = some .local) (vs : f ≠ "self") (nd : (f == ("__debug__" : Str)) = false) (ks : (iScope f).names.lookup ("super" : Str) = some .globalImplicit) (kc : (iScope f).names.lookup ("__class__" : Str) = some .free)
    (aC : PySem.W.nsIn K mainGlobals x = some (some (.ref C)))
    (xL : K.lookup C = some (excClassObj nm q C N bs (bmE S) true sn sub ab col dd m0 m1 m2 m3 m5 "ValueError.__new__"))
    (iC : PySem.W.findIn K (.ref C) "__init__" = some (some (.ref F))) (tI : PySem.W.typeIn K (.ref F) = some (.type "function"))
    (l1 : K.lookup F = some ⟨oc, od, .func (PySem.W.ksFn "__init__" qn (iArgs f p1 p2) (iBody f msg k q1 q2 q3 q4 q5 q6 q7 q8 q9 q10) (iScope f) .none .none doc pm an (.ref cda) ct cc), osl⟩)
    (c1 : PySem.W.codeIn K (.ref cda) qn = true) (l2 : K.lookup cda = some ⟨ccl, cdd, .fields fs, ccs⟩) (l3 : K.lookup cc = some ⟨cll, cld, .cell (some (.ref C)), csl⟩) (f2 : fs[2]? = some (.str P.main.file tf))
    (rd : Reads0 msg k q1 q2 q3 q4 q5)
    (su : PySem.W.ks_superIn K C C "__init__" = some (some (.builtin "ValueError.__init__"))) (qi : PySem.W.excInitIn K C [.type "ValueError", .type "Exception", .type "BaseException", .type "object"] "ValueError.__new__" = true)
    (sa : PySem.W.findIn K (.ref C) "__setattr__" = some (some (.builtin "object.__setattr__"))) (no : PySem.W.findIn K (.ref C) f = some none) (ve : PySem.W.subIn K (.ref C) (.type "ValueError") = some true) (me : PySem.W.mroIn K C (.ref C) = some true)
    (kC : PySem.W.keepIn K (.ref C) = true) (ga : PySem.W.findIn K (.ref C) "__getattribute__" = some (some (.builtin "BaseException.__getattribute__"))) (gg : PySem.W.findIn K (.ref C) "__getattr__" = some none)
    (exC : PySem.W.subIn K (.ref C) (.type "BaseException") = some true) (hdC : PySem.W.hasDictIn K C = true) (ca : PySem.W.findIn K (.ref C) "__class__" = some (some (.builtin "object.__class__")))
    (cg : PySem.W.specialIn K (.builtin "object.__class__") "__get__" = some (some (.builtin "getset_descriptor.__get__"))) (ck : PySem.W.takesIn K (.builtin "object.__class__") = some true) (mo : PySem.W.mroIn K C (.type "object") = some true) (isC : PySem.W.isClsIn K C = true)
    (next : ErrC P K mg x f C F → R) : R :=
  next
    { own := { cls := ⟨nm, q, N, bs, bmE S, sn, sub, ab, col, dd, m0, m1, m2, m3, m5, xL, rfl⟩, sa := sa, no := no, su := su, ve := ve, me := me, tp := tp, qi := qi, kl := kl, vs := vs, nd := nd, ks := ks, kc := kc,
               fn := ⟨qn, msg, k, oc, doc, pm, ct, ccl, cll, od, an, cdd, cld, osl, ccs, csl, cda, cc, fs, P.main.file, tf, p1, p2, q1, q2, q3, q4, q5, q6, q7, q8, q9, q10, l1, c1, l2, f2, l3, rd⟩ },
      gC := PySem.W.mg_of X G aC, kC := kC, iC := iC, tI := tI, ga := ga, gg := gg, exC := exC, hdC := hdC, ca := ca, cg := cg, ct := ck, mo := mo, isC := isC, sup := sup, top := top, fil := fil_of fil }
/-- a def of the module, at its place -/
structure DefA (K : PySem.W.Frag) (mg : Str → Option Value) (x : Str) (st : Stmt) (ps : List Str) (f : Addr) : Prop where
  ex : ∃ fd, Fun K x x st f fd ∧ mg x = some (.ref f) ∧ PySem.W.keepIn K (.ref f) = true ∧ Binds K fd ps [] ∧ ∀ (s : Shared) (us : List Value), us.length = ps.length → BindsTo s fd ⟨us, []⟩ (ps.zip us)
theorem DefA.def {K : PySem.W.Frag} {mg : Str → Option Value} {x : Str} {st : Stmt} {ps : List Str} {f : Addr} (D : DefA K mg x st ps f) : Def K mg x st ps := by
  obtain ⟨fd, F, g, k, b, _⟩ := D.ex
  exact ⟨f, fd, F, g, k, b⟩
theorem DefA.at_ {K : PySem.W.Frag} {mg : Str → Option Value} {x : Str} {st : Stmt} {ps : List Str} {f : Addr} (D : DefA K mg x st ps f) : mg x = some (.ref f) := by
  obtain ⟨_, _, g, _⟩ := D.ex
  exact g
theorem with_defA {K : PySem.W.Frag} {h : Heap} {mg : Str → Option Value} {R : Prop} {f : Addr} {oc kV doc pm cdv ct : Value} {od an : Option Addr} {osl : Array (Option Value)} (x : Str) (st : Stmt) (ps : List Str) (X : K.In h) (G : h.Ns mainGlobals mg)
    (hb : ∀ (kV doc pm : Value) (an : Option Addr) (cdv ct : Value) (us : List Value), us.length = ps.length → bindArgs (PySem.W.fnOf x x (defArgs st) (defBody st) (defScope st) .none kV doc pm an cdv ct) ⟨us, []⟩ = pure (ps.zip us))
    (a : PySem.W.nsIn K mainGlobals x = some (some (.ref f))) (l : K.lookup f = some ⟨oc, od, .func (PySem.W.fnOf x x (defArgs st) (defBody st) (defScope st) .none kV doc pm an cdv ct), osl⟩) (c : PySem.W.codeIn K cdv x = true) (k : PySem.W.keepIn K (.ref f) = true)
    (next : DefA K mg x st ps f → R) : R :=
  next ⟨_, fun_mk l c k, PySem.W.mg_of X G a, k, (fun_mk l c k).binds hb, fun s us hu => .of_eq (hb _ _ _ _ _ _ us hu)⟩
/-! ### the class of checks -/
structure ClA (K : PySem.W.Frag) (mg : Str → Option Value) (C fN : Addr) : Prop where
  cl : Cls K C
  n1 : NoAttr K C "trees"
  n2 : NoAttr K C "commands"
  n3 : NoAttr K C "variables"
  n4 : NoAttr K C "unfolded"
  n5 : NoAttr K C "functions"
  n6 : NoAttr K C "places"
  n7 : NoAttr K C "loops"
  n8 : NoAttr K C "returns"
  init : ∃ fd, Fun K "__init__" "Check.__init__" sInit fN fd ∧ Binds K fd ["self"] []
  mkk : Mk K C fN
  gC : mg "Check" = some (.ref C)
theorem with_cls {K : PySem.W.Frag} {h : Heap} {mg : Str → Option Value} {R : Prop} {C f : Addr} {oc kV doc pm cdv ct : Value} {od an : Option Addr} {osl : Array (Option Value)} (X : K.In h) (G : h.Ns mainGlobals mg)
    (aC : PySem.W.nsIn K mainGlobals "Check" = some (some (.ref C)))
    (a1 : PySem.W.findIn K (.ref C) "__init__" = some (some (.ref f))) (i1 : PySem.W.isFn K (.ref f) = true) (l1 : K.lookup f = some ⟨oc, od, .func (PySem.W.fnOf "__init__" "Check.__init__" (defArgs sInit) (defBody sInit) (defScope sInit) .none kV doc pm an cdv ct), osl⟩) (c1 : PySem.W.codeIn K cdv "Check.__init__" = true) (k1 : PySem.W.keepIn K (.ref f) = true)
    (pg : PySem.W.plainGet K C Str.empty = true) (hd : PySem.W.hasDictIn K C = true) (po : PySem.W.plainOver K C = true) (sa : PySem.W.findIn K (.ref C) "__setattr__" = some (some (.builtin "object.__setattr__"))) (mk : PySem.W.makesIn K C = true) (kc : PySem.W.keepIn K (.ref C) = true)
    (n1 : PySem.W.findIn K (.ref C) "trees" = some none) (n2 : PySem.W.findIn K (.ref C) "commands" = some none) (n3 : PySem.W.findIn K (.ref C) "variables" = some none) (n4 : PySem.W.findIn K (.ref C) "unfolded" = some none) (n5 : PySem.W.findIn K (.ref C) "functions" = some none) (n6 : PySem.W.findIn K (.ref C) "places" = some none) (n7 : PySem.W.findIn K (.ref C) "loops" = some none) (n8 : PySem.W.findIn K (.ref C) "returns" = some none)
    (next : ClA K mg C f → R) : R :=
  next ⟨⟨pg, hd, po, sa⟩, n1, n2, n3, n4, n5, n6, n7, n8, ⟨_, fun_mk (st := sInit) l1 c1 k1, (fun_mk (st := sInit) l1 c1 k1).binds fun _ _ _ _ _ _ us hl => match us, hl with | [_], _ => rfl⟩, ⟨mk, a1, i1, kc⟩, PySem.W.mg_of X G aC⟩
/-! ### the names of the module -/
structure MdA (mg : Str → Option Value) : Prop where
  mi : mg "isinstance" = none
  ml : mg "len" = none
  mm : mg "min" = none
  mint : mg "int" = none
  mbool : mg "bool" = none
  mstr : mg "str" = none
  mtup : mg "tuple" = none
  mrange : mg "range" = none
  menum : mg "enumerate" = none
  ln : ∃ t, mg "LONGEST_NAME" = some (.int 12 t)
  mf : ∃ t, mg "MOST_FUNCTIONS" = some (.int 20 t)
  mt : ∃ t, mg "MOST_TREES" = some (.int 3000 t)
  mv : ∃ t, mg "MOST_VARIABLES" = some (.int 40 t)
  mu : ∃ t, mg "MOST_UNFOLDED" = some (.int 3000 t)
  lp : ∃ t, mg "LONGEST_PATH" = some (.int 60 t)
  gn : ∃ t, mg "GREATEST_NUMBER" = some (.int 255 t)
  mr : ∃ t, mg "MOST_ROUNDS" = some (.int 1000 t)
theorem with_names {K : PySem.W.Frag} {h : Heap} {mg : Str → Option Value} {R : Prop} {t1 t2 t3 t4 t5 t6 t7 t8 : Tok} (X : K.In h) (G : h.Ns mainGlobals mg)
    (z1 : PySem.W.nsIn K mainGlobals "isinstance" = some none) (z2 : PySem.W.nsIn K mainGlobals "len" = some none) (z3 : PySem.W.nsIn K mainGlobals "min" = some none) (z4 : PySem.W.nsIn K mainGlobals "int" = some none) (z5 : PySem.W.nsIn K mainGlobals "bool" = some none) (z6 : PySem.W.nsIn K mainGlobals "str" = some none) (z7 : PySem.W.nsIn K mainGlobals "tuple" = some none) (z8 : PySem.W.nsIn K mainGlobals "range" = some none) (z9 : PySem.W.nsIn K mainGlobals "enumerate" = some none)
    (c1 : PySem.W.nsIn K mainGlobals "LONGEST_NAME" = some (some (.int 12 t1))) (c2 : PySem.W.nsIn K mainGlobals "MOST_FUNCTIONS" = some (some (.int 20 t2))) (c3 : PySem.W.nsIn K mainGlobals "MOST_TREES" = some (some (.int 3000 t3))) (c4 : PySem.W.nsIn K mainGlobals "MOST_VARIABLES" = some (some (.int 40 t4)))
    (c5 : PySem.W.nsIn K mainGlobals "MOST_UNFOLDED" = some (some (.int 3000 t5))) (c6 : PySem.W.nsIn K mainGlobals "LONGEST_PATH" = some (some (.int 60 t6))) (c7 : PySem.W.nsIn K mainGlobals "GREATEST_NUMBER" = some (some (.int 255 t7))) (c8 : PySem.W.nsIn K mainGlobals "MOST_ROUNDS" = some (some (.int 1000 t8)))
    (next : MdA mg → R) : R :=
  next ⟨PySem.W.mg_none_of X G z1, PySem.W.mg_none_of X G z2, PySem.W.mg_none_of X G z3, PySem.W.mg_none_of X G z4, PySem.W.mg_none_of X G z5, PySem.W.mg_none_of X G z6, PySem.W.mg_none_of X G z7, PySem.W.mg_none_of X G z8, PySem.W.mg_none_of X G z9,
    ⟨_, PySem.W.mg_of X G c1⟩, ⟨_, PySem.W.mg_of X G c2⟩, ⟨_, PySem.W.mg_of X G c3⟩, ⟨_, PySem.W.mg_of X G c4⟩, ⟨_, PySem.W.mg_of X G c5⟩, ⟨_, PySem.W.mg_of X G c6⟩, ⟨_, PySem.W.mg_of X G c7⟩, ⟨_, PySem.W.mg_of X G c8⟩⟩
/-! ### the two tables -/
theorem keys_cons {P : Params} {e : DictEntry} {r : List DictEntry} (h : ∃ x t, e.key = .str x t ∧ e.hash = PyData.keyHash P x) (t : PySem.W.KeysLit P r) : PySem.W.KeysLit P (e :: r) := ⟨h, t⟩
theorem keys_nil {P : Params} : PySem.W.KeysLit P [] := trivial
def keyStr (e : DictEntry) : Option Str × Value := (match e.key with | .str x _ => some x | _ => none, e.val)
theorem find_of (z : Str) : ∀ (l : List DictEntry) (kvs : List (Str × Value)), l.map keyStr = kvs.map (fun p => (some p.1, p.2)) → (∀ u, l.find? (fun e => e.key.isStr z) = some u → kvs.lookup z = some u.val) ∧ (l.find? (fun e => e.key.isStr z) = none → kvs.lookup z = none) ∧ (l.any fun e => e.refKey) = false
  | [], [], _ => ⟨fun u h => by simp at h, fun _ => rfl, rfl⟩
  | [], _ :: _, h => by simp at h
  | _ :: _, [], h => by simp at h
  | e :: r, (x, v) :: ks, h => by
    rw [List.map_cons, List.map_cons] at h
    injection h with h1 h2
    obtain ⟨i1, i2, i3⟩ := find_of z r ks h2
    obtain ⟨hs, key, val⟩ := e
    unfold keyStr at h1
    cases key with
    | str a t =>
      simp only [Prod.mk.injEq, Option.some.injEq] at h1
      obtain ⟨rfl, rfl⟩ := h1
      rw [List.find?_cons, List.lookup_cons, List.any_cons]
      have e1 : (Value.str a t).isStr z = (a == z) := rfl
      have e2 : (DictEntry.refKey ⟨hs, .str a t, val⟩) = false := rfl
      simp only [e1, e2, i3, Bool.or_self]
      cases c : (a == z) with
      | true =>
        have c2 : a = z := beq_iff_eq.mp c
        subst c2
        simp
      | false =>
        have c2 : (z == a) = false := by
          cases d : (z == a) with
          | false => rfl
          | true =>
            have d2 : z = a := beq_iff_eq.mp d
            subst d2
            simp at c
        rw [c2]
        exact ⟨i1, i2, trivial⟩
    | _ => simp at h1
theorem ns_of {K : PySem.W.Frag} {d : Addr} {cls : Value} {od : Option Addr} {es : Array DictEntry} {n : Nat} {sl : Array (Option Value)} {kvs : List (Str × Value)} (hl : K.lookup d = some ⟨cls, od, .dict es n, sl⟩) (hk : es.toList.map keyStr = kvs.map fun p => (some p.1, p.2)) (z : Str) : PySem.W.nsIn K d z = some (kvs.lookup z) := by
  obtain ⟨h1, h2, h3⟩ := find_of z es.toList kvs hk
  unfold PySem.W.nsIn
  rw [hl]
  simp only
  cases c : es.toList.find? (fun e => e.key.isStr z) with
  | some u =>
    simp only
    rw [h1 u c]
  | none =>
    simp only
    rw [h3, h2 c]
    rfl
theorem lookup_has (z : Str) : ∀ kvs : List (Str × Value), (kvs.lookup z).isSome = (kvs.map Prod.fst).contains z
  | [] => rfl
  | (x, v) :: r => by
    rw [List.lookup_cons, List.map_cons, List.contains_cons]
    cases c : (z == x) with
    | true => simp
    | false =>
      simp only [Bool.false_or]
      exact lookup_has z r
theorem lookup_map (g : Kind → Value) (z : Str) : ∀ ws : List (Str × Kind), (ws.map fun p => (p.1, g p.2)).lookup z = (ws.lookup z).map g
  | [] => rfl
  | (x, k) :: r => by
    rw [List.map_cons, List.lookup_cons, List.lookup_cons]
    cases c : (z == x) with
    | true => rfl
    | false => exact lookup_map g z r
def adr18 (a0 a1 a2 a3 a4 a5 a6 a7 a8 a9 a10 a11 a12 a13 a14 a15 a16 a17 : Addr) : Kind → Addr
  | .run => a0
  | .status => a1
  | .var => a2
  | .put => a3
  | .option => a4
  | .trap => a5
  | .seq => a6
  | .pipe => a7
  | .andor => a8
  | .not => a9
  | .sub => a10
  | .ife => a11
  | .whl => a12
  | .times => a13
  | .jump => a14
  | .call => a15
  | .ret => a16
  | .exit => a17
structure TbA (K : PySem.W.Frag) (w : World) (mg : Str → Option Value) (dR dS : Addr) (adr : Kind → Addr) : Prop where
  gR : mg "RESERVED" = some (.ref dR)
  gS : mg "SIZES" = some (.ref dS)
  kR : ∃ es n, KDict K w dR es n
  kS : ∃ es n, KDict K w dS es n
  inR : ∀ z, ∃ r, PySem.W.nsIn K dR z = some r ∧ r.isSome = reserved.contains z
  inS : ∀ z, PySem.W.nsIn K dS z = some ((kindOf z).map fun k => .ref (adr k))
theorem with_tables {K : PySem.W.Frag} {w : World} {h : Heap} {mg : Str → Option Value} {R : Prop} {dR dS : Addr} {esR esS : Array DictEntry} {nR nS : Nat} {f_run f_status f_var f_put f_option f_trap f_seq f_pipe f_andor f_not f_sub f_ife f_whl f_times f_jump f_call f_ret f_exit : Addr} (X : K.In h) (G : h.Ns mainGlobals mg)
    (D_run : DefA K mg "size_of_run" sRun ["check", "tree", "place"] f_run)
    (D_status : DefA K mg "size_of_status" sSta ["check", "tree", "place"] f_status)
    (D_var : DefA K mg "size_with_variable" sVar ["check", "tree", "place"] f_var)
    (D_put : DefA K mg "size_of_put" sPut ["check", "tree", "place"] f_put)
    (D_option : DefA K mg "size_of_option" sOpt ["check", "tree", "place"] f_option)
    (D_trap : DefA K mg "size_of_trap" sTra ["check", "tree", "place"] f_trap)
    (D_seq : DefA K mg "size_of_seq" sSeq ["check", "tree", "place"] f_seq)
    (D_pipe : DefA K mg "size_of_pipe" sPip ["check", "tree", "place"] f_pipe)
    (D_andor : DefA K mg "size_of_and_or" sAnd ["check", "tree", "place"] f_andor)
    (D_not : DefA K mg "size_of_not" sNot ["check", "tree", "place"] f_not)
    (D_sub : DefA K mg "size_of_sub" sSub ["check", "tree", "place"] f_sub)
    (D_ife : DefA K mg "size_of_if" sIff ["check", "tree", "place"] f_ife)
    (D_whl : DefA K mg "size_of_while" sWhi ["check", "tree", "place"] f_whl)
    (D_times : DefA K mg "size_of_times" sTim ["check", "tree", "place"] f_times)
    (D_jump : DefA K mg "size_of_jump" sJmp ["check", "tree", "place"] f_jump)
    (D_call : DefA K mg "size_of_call" sCal ["check", "tree", "place"] f_call)
    (D_ret : DefA K mg "size_of_return" sRet ["check", "tree", "place"] f_ret)
    (D_exit : DefA K mg "size_of_exit" sExi ["check", "tree", "place"] f_exit)
    (aR : PySem.W.nsIn K mainGlobals "RESERVED" = some (some (.ref dR))) (aS : PySem.W.nsIn K mainGlobals "SIZES" = some (some (.ref dS)))
    (lR : K.lookup dR = some { cls := .type "dict", data := .dict esR nR }) (lS : K.lookup dS = some { cls := .type "dict", data := .dict esS nS })
    (kR : PySem.W.KeysLit w.params esR.toList) (kS : PySem.W.KeysLit w.params esS.toList) (oR : (dR == sysModules) = false) (oS : (dS == sysModules) = false)
    (mR : ∃ vs : List (Str × Value), esR.toList.map keyStr = vs.map (fun p => (some p.1, p.2)) ∧ vs.map Prod.fst = reserved)
    (mS : esS.toList.map keyStr = (words.map fun p => (p.1, Value.ref (adr18 f_run f_status f_var f_put f_option f_trap f_seq f_pipe f_andor f_not f_sub f_ife f_whl f_times f_jump f_call f_ret f_exit p.2))).map fun p => (some p.1, p.2))
    (next : TbA K w mg dR dS (adr18 f_run f_status f_var f_put f_option f_trap f_seq f_pipe f_andor f_not f_sub f_ife f_whl f_times f_jump f_call f_ret f_exit) → R) : R := by
  refine next ⟨PySem.W.mg_of X G aR, PySem.W.mg_of X G aS, ⟨_, _, lR, kR, oR⟩, ⟨_, _, lS, kS, oS⟩, fun z => ?_, fun z => ?_⟩
  · obtain ⟨vs, e, f⟩ := mR
    exact ⟨_, ns_of lR e z, by rw [lookup_has, f]⟩
  · rw [ns_of lS mS z, lookup_map (fun k => Value.ref (adr18 f_run f_status f_var f_put f_option f_trap f_seq f_pipe f_andor f_not f_sub f_ife f_whl f_times f_jump f_call f_ret f_exit k))]
    rfl
theorem the_end {P : Program} {w : World} {K : PySem.W.Frag} {h : Heap} {mg : Str → Option Value} {fa IP fI C fN dR dS f_isInt f_isWithin f_isName f_isNew f_hasParts f_outline f_entry f_checked f_all f_into f_bar f_run f_status f_var f_put f_option f_trap f_seq f_pipe f_andor f_not f_sub f_ife f_whl f_times f_jump f_call f_ret f_exit f_lCheckP f_lSize f_lMixed f_lSource f_lTake f_lSaid f_lLetters f_lTrees f_lPaths f_lVars f_lUnf f_lFns f_lLaw : Addr} (X : K.In h) (G : h.Ns mainGlobals mg) (hfa : mg "law" = some (.ref fa))
    (E : ErrC P K mg "InvalidProgram" "path" IP fI) (tyC : PySem.W.typeIn K (.ref IP) = some (.type "type")) (sC : PySem.W.subIn K (.ref IP) (.ref IP) = some true)
    (Cl : ClA K mg C fN) (M : MdA mg) (T : TbA K w mg dR dS (adr18 f_run f_status f_var f_put f_option f_trap f_seq f_pipe f_andor f_not f_sub f_ife f_whl f_times f_jump f_call f_ret f_exit))
    (D_isInt : DefA K mg "is_integer" sIsInt ["value"] f_isInt)
    (D_isWithin : DefA K mg "is_integer_within" sIsWithin ["value", "least", "most"] f_isWithin)
    (D_isName : DefA K mg "is_name" sIsName ["value"] f_isName)
    (D_isNew : DefA K mg "is_new_name" sIsNew ["names", "value"] f_isNew)
    (D_hasParts : DefA K mg "has_parts" sHasParts ["tree"] f_hasParts)
    (D_outline : DefA K mg "is_outline" sOutline ["program"] f_outline)
    (D_entry : DefA K mg "is_entry" sEntry ["entry", "functions"] f_entry)
    (D_checked : DefA K mg "checked" sChecked ["program"] f_checked)
    (D_all : DefA K mg "size_of_all" sAll ["check", "trees", "place"] f_all)
    (D_into : DefA K mg "size_inside" sInto ["check", "parts", "place"] f_into)
    (D_bar : DefA K mg "size_behind_barrier" sBar ["check", "parts", "place"] f_bar)
    (D_run : DefA K mg "size_of_run" sRun ["check", "tree", "place"] f_run)
    (D_status : DefA K mg "size_of_status" sSta ["check", "tree", "place"] f_status)
    (D_var : DefA K mg "size_with_variable" sVar ["check", "tree", "place"] f_var)
    (D_put : DefA K mg "size_of_put" sPut ["check", "tree", "place"] f_put)
    (D_option : DefA K mg "size_of_option" sOpt ["check", "tree", "place"] f_option)
    (D_trap : DefA K mg "size_of_trap" sTra ["check", "tree", "place"] f_trap)
    (D_seq : DefA K mg "size_of_seq" sSeq ["check", "tree", "place"] f_seq)
    (D_pipe : DefA K mg "size_of_pipe" sPip ["check", "tree", "place"] f_pipe)
    (D_andor : DefA K mg "size_of_and_or" sAnd ["check", "tree", "place"] f_andor)
    (D_not : DefA K mg "size_of_not" sNot ["check", "tree", "place"] f_not)
    (D_sub : DefA K mg "size_of_sub" sSub ["check", "tree", "place"] f_sub)
    (D_ife : DefA K mg "size_of_if" sIff ["check", "tree", "place"] f_ife)
    (D_whl : DefA K mg "size_of_while" sWhi ["check", "tree", "place"] f_whl)
    (D_times : DefA K mg "size_of_times" sTim ["check", "tree", "place"] f_times)
    (D_jump : DefA K mg "size_of_jump" sJmp ["check", "tree", "place"] f_jump)
    (D_call : DefA K mg "size_of_call" sCal ["check", "tree", "place"] f_call)
    (D_ret : DefA K mg "size_of_return" sRet ["check", "tree", "place"] f_ret)
    (D_exit : DefA K mg "size_of_exit" sExi ["check", "tree", "place"] f_exit)
    (D_lCheckP : DefA K mg "check_program" sCheckP ["program"] f_lCheckP)
    (D_lSize : DefA K mg "program_size" sSize ["program"] f_lSize)
    (D_lMixed : DefA K mg "_law_mixed" sMixed ["_law_cell", "_law_draw"] f_lMixed)
    (D_lSource : DefA K mg "_law_source" sSource ["_law_cell"] f_lSource)
    (D_lTake : DefA K mg "_law_take" sTake ["_law_source_here", "_law_bound"] f_lTake)
    (D_lSaid : DefA K mg "_law_said" sSaid ["_law_plan"] f_lSaid)
    (D_lLetters : DefA K mg "_law_letters" sLetters ["_law_number"] f_lLetters)
    (D_lTrees : DefA K mg "_law_trees_right" sTrees ["_law_source_here"] f_lTrees)
    (D_lPaths : DefA K mg "_law_paths_right" sPaths ["_law_source_here"] f_lPaths)
    (D_lVars : DefA K mg "_law_variables_right" sVars ["_law_source_here"] f_lVars)
    (D_lUnf : DefA K mg "_law_unfolded_right" sUnf ["_law_source_here"] f_lUnf)
    (D_lFns : DefA K mg "_law_functions_right" sFns [] f_lFns)
    (D_lLaw : DefA K mg "law" sLaw ["_law_script"] f_lLaw) :
    ∃ fd : FuncData, (∀ (s : Shared) (u : Value), BindsTo s fd ⟨[u], []⟩ [("_law_script", u)]) ∧ ∀ base : Heap, K.In base → base.Ns mainGlobals mg → FnOk P w K mg base CX0 90 fa fd ["_law_script"] (spLaw K) := by
  have te : PySem.W.exmOne K (.ref IP) (.ref IP) = some true := by
    simp [PySem.W.exmOne, PySem.W.kitCls, E.exC, E.isC, tyC, sC]
  have Md0 : Md K mg w dR dS (adr18 f_run f_status f_var f_put f_option f_trap f_seq f_pipe f_andor f_not f_sub f_ife f_whl f_times f_jump f_call f_ret f_exit) := ⟨M.mi, M.ml, M.mm, M.mint, M.mbool, M.mstr, M.mtup, M.ln, M.mf, M.mt, M.mv, M.mu, M.lp, M.gn, M.mr, T.gR, T.gS, T.kR, T.kS, T.inR, T.inS⟩
  have Z : Mc P K mg C IP fI := ⟨Cl.cl, Cl.n1, Cl.n2, Cl.n3, Cl.n4, Cl.n5, Cl.n6, Cl.n7, Cl.n8, ⟨E, tyC, te⟩⟩
  have Ds : Defs K mg C fN (adr18 f_run f_status f_var f_put f_option f_trap f_seq f_pipe f_andor f_not f_sub f_ife f_whl f_times f_jump f_call f_ret f_exit) := {
    isInt := D_isInt.def
    isWithin := D_isWithin.def
    isName := D_isName.def
    isNew := D_isNew.def
    hasParts := D_hasParts.def
    outline := D_outline.def
    entry := D_entry.def
    checked := D_checked.def
    all := D_all.def
    into := D_into.def
    bar := D_bar.def
    run := D_run.def
    status := D_status.def
    var := D_var.def
    put := D_put.def
    option := D_option.def
    trap := D_trap.def
    seq := D_seq.def
    pipe := D_pipe.def
    andor := D_andor.def
    not := D_not.def
    sub := D_sub.def
    ife := D_ife.def
    whl := D_whl.def
    times := D_times.def
    jump := D_jump.def
    call := D_call.def
    ret := D_ret.def
    exit := D_exit.def
    table := fun k => by
      cases k
      · exact D_run.at_
      · exact D_status.at_
      · exact D_var.at_
      · exact D_put.at_
      · exact D_option.at_
      · exact D_trap.at_
      · exact D_seq.at_
      · exact D_pipe.at_
      · exact D_andor.at_
      · exact D_not.at_
      · exact D_sub.at_
      · exact D_ife.at_
      · exact D_whl.at_
      · exact D_times.at_
      · exact D_jump.at_
      · exact D_call.at_
      · exact D_ret.at_
      · exact D_exit.at_
    init := Cl.init
    mkk := Cl.mkk
    gC := Cl.gC }
  obtain ⟨fd, FW, gW, _, _, tW⟩ := D_lLaw.ex
  have e := hfa.symm.trans gW
  cases e
  refine ⟨fd, fun s u => tW s [u] rfl, fun base _ _ => ?_⟩
  have GCk : GCk P w K mg base C IP := D_checked.def.go fun _ _ F => (ok_checked F Ds Md0 Z).ok (by decide) (by decide)
  have GCp : GCp P w K mg base IP := D_lCheckP.def.go fun _ _ F => ok_checkP F GCk
  have GSz : GSz P w K mg base IP := D_lSize.def.go fun _ _ F => ok_size F Z GCk
  have GS : GSd P w K mg base := D_lSaid.def.go fun _ _ F => ok_said F Z GCp GSz
  obtain ⟨fM, dM, FM, gM, kM, bM⟩ := D_lMixed.def.ex
  have GT : GTk P w K mg base := D_lTake.def.go fun _ _ F => (ok_take F (ok_mixed FM M.mint) gM kM bM M.mint).mono (by decide)
  have GL : GLt P w K mg base := D_lLetters.def.go fun _ _ F => (ok_letters F M.mint).mono (by decide)
  have GO : GSo P w K mg base := D_lSource.def.go fun _ _ F => (ok_source F).mono (by decide)
  have G1 : GYes P w K mg base "_law_trees_right" := D_lTrees.def.go fun _ _ F => ok_trees F GT GS M.mtup
  have G2 : GYes P w K mg base "_law_paths_right" := D_lPaths.def.go fun _ _ F => ok_paths F GT GS M.mrange
  have G3 : GYes P w K mg base "_law_variables_right" := D_lVars.def.go fun _ _ F => ok_vars F GT GL GS M.mrange M.mtup M.mint
  have G4 : GYes P w K mg base "_law_unfolded_right" := D_lUnf.def.go fun _ _ F => ok_unf F GT GS M.mint
  have G5 : GFu P w K mg base := D_lFns.def.go fun _ _ F => ok_funs F GL GS M.mrange M.mtup
  exact ok_law FW GO G1 G2 G3 G4 G5 M.menum
theorem the_walk {l : PySem.W.OpenLaw} {q : Program} {loose : List Str} {XP : (Str → Option Value) → Heap → Prop} {YP : World → Heap → Prop} {d : DefRec} {K : Params → PySem.W.Frag} (hn : l.most = some 63) (hdf : d.params.defaults = [])
    (hY : ∀ (w : World) (h : Heap), YP w h → (K w.params).In h)
    (F : ∀ (w : World) (mg : Str → Option Value) (fa : Addr) (h : Heap), (K w.params).In h → h.Ns mainGlobals mg → mg d.name = some (.ref fa) →
      ∃ fd : FuncData, (∀ (s : Shared) (u : Value), BindsTo s fd ⟨[u], []⟩ [("_law_script", u)]) ∧ ∀ base : Heap, (K w.params).In base → base.Ns mainGlobals mg → FnOk l.prog w (K w.params) mg base CX0 90 fa fd ["_law_script"] (spLaw (K w.params))) :
    PySem.W.WalkO q loose XP YP l.row.toRowW d [] (fun f vs => PySem.call f vs) :=
  L2.walk_of (n := 63) (k := 90) (x := "_law_script") (CX := fun _ => CX0) (sp := fun w => spLaw (K w.params)) hn (by decide) hdf ⟨rfl, by decide, by decide⟩ hY F (fun _ _ a ns hl _ hS => ⟨a, ns, rfl, hS, hl, fun _ => rfl⟩) fun _ _ _ _ _ z => z
end Ck

open PySem PySem.W PyProof.Rows in
set_option maxHeartbeats 0 in
theorem PySem.Challenge.cw_shellways_k06_bounds_of_programs_holds : PySem.Challenge.rw_shellways_k06_bounds_of_programs.Holds := by
  w_on; o_law; k_head; (case hw => w_witness2)
  k_fill
  refine Ck.the_walk (l := PySem.Challenge.rw_shellways_k06_bounds_of_programs) rfl rfl (fun w h Y => PySem.W.kIn_of Y) ?F
  case F =>
    intro w mg fa h KX G hmg
    have zs := PySem.W.mg_none_of (n := "super") KX G (by k_is)
    refine' Ck.with_fil (PySem.Challenge.pw_shellways_k06_bounds_of_programs).main.file KX ?fil_0 ?tp_0 ?next_0
    (case fil_0 => with_unfolding_all rfl)
    (case tp_0 => k_is)
    intro fil tp
    refine' Ck.with_err (P := PySem.Challenge.pw_shellways_k06_bounds_of_programs) "InvalidProgram" "path" KX G zs tp rfl fil rfl (by decide) (by decide) rfl rfl ?aC_1 ?xL_1 ?iC_1 ?tI_1 ?l1_1 ?c1_1 ?l2_1 ?l3_1 ?f2_1 ?rd_1 ?su_1 ?qi_1 ?sa_1 ?no_1 ?ve_1 ?me_1 ?kC_1 ?ga_1 ?gg_1 ?exC_1 ?hdC_1 ?ca_1 ?cg_1 ?ck_1 ?mo_1 ?isC_1 ?next_1
    (case aC_1 => k_is)
    (case xL_1 => k_is)
    (case iC_1 => k_is)
    (case tI_1 => k_is)
    (case l1_1 => k_is)
    (case c1_1 => k_is)
    (case l2_1 => k_is)
    (case l3_1 => k_is)
    (case f2_1 => exact rfl)
    (case rd_1 => exact ⟨_, fun _ => by with_unfolding_all rfl⟩)
    (case su_1 => ks_is)
    (case qi_1 => with_unfolding_all rfl)
    (case sa_1 => k_is)
    (case no_1 => k_is)
    (case ve_1 => k_is)
    (case me_1 => k_is)
    (case kC_1 => k_is)
    (case ga_1 => k_is)
    (case gg_1 => k_is)
    (case exC_1 => k_is)
    (case hdC_1 => k_is)
    (case ca_1 => k_is)
    (case cg_1 => k_is)
    (case ck_1 => k_is)
    (case mo_1 => k_is)
    (case isC_1 => k_is)
    intro E0
    refine' Ck.with_cls KX G ?aC_2 ?a1_2 ?i1_2 ?l1_2 ?c1_2 ?k1_2 ?pg_2 ?hd_2 ?po_2 ?sa_2 ?mk_2 ?kc_2 ?n1_2 ?n2_2 ?n3_2 ?n4_2 ?n5_2 ?n6_2 ?n7_2 ?n8_2 ?next_2
    (case aC_2 => k_is)
    (case a1_2 => k_is)
    (case i1_2 => k_is)
    (case l1_2 => k_is)
    (case c1_2 => k_is)
    (case k1_2 => k_is)
    (case pg_2 => k_is)
    (case hd_2 => k_is)
    (case po_2 => k_is)
    (case sa_2 => k_is)
    (case mk_2 => k_is)
    (case kc_2 => k_is)
    (case n1_2 => k_is)
    (case n2_2 => k_is)
    (case n3_2 => k_is)
    (case n4_2 => k_is)
    (case n5_2 => k_is)
    (case n6_2 => k_is)
    (case n7_2 => k_is)
    (case n8_2 => k_is)
    intro Cl
    refine' Ck.with_names KX G ?z1_3 ?z2_3 ?z3_3 ?z4_3 ?z5_3 ?z6_3 ?z7_3 ?z8_3 ?z9_3 ?c1_3 ?c2_3 ?c3_3 ?c4_3 ?c5_3 ?c6_3 ?c7_3 ?c8_3 ?next_3
    (case z1_3 => k_is)
    (case z2_3 => k_is)
    (case z3_3 => k_is)
    (case z4_3 => k_is)
    (case z5_3 => k_is)
    (case z6_3 => k_is)
    (case z7_3 => k_is)
    (case z8_3 => k_is)
    (case z9_3 => k_is)
    (case c1_3 => k_is)
    (case c2_3 => k_is)
    (case c3_3 => k_is)
    (case c4_3 => k_is)
    (case c5_3 => k_is)
    (case c6_3 => k_is)
    (case c7_3 => k_is)
    (case c8_3 => k_is)
    intro M0
    refine' Ck.with_defA "is_integer" Ck.sIsInt ["value"] KX G (fun _ _ _ _ _ _ us hl => match us, hl with | [_], _ => rfl) ?a_4 ?l_4 ?c_4 ?k_4 ?next_4
    (case a_4 => k_is)
    (case l_4 => k_is)
    (case c_4 => k_is)
    (case k_4 => k_is)
    intro D_isInt
    refine' Ck.with_defA "is_integer_within" Ck.sIsWithin ["value", "least", "most"] KX G (fun _ _ _ _ _ _ us hl => match us, hl with | [_, _, _], _ => rfl) ?a_5 ?l_5 ?c_5 ?k_5 ?next_5
    (case a_5 => k_is)
    (case l_5 => k_is)
    (case c_5 => k_is)
    (case k_5 => k_is)
    intro D_isWithin
    refine' Ck.with_defA "is_name" Ck.sIsName ["value"] KX G (fun _ _ _ _ _ _ us hl => match us, hl with | [_], _ => rfl) ?a_6 ?l_6 ?c_6 ?k_6 ?next_6
    (case a_6 => k_is)
    (case l_6 => k_is)
    (case c_6 => k_is)
    (case k_6 => k_is)
    intro D_isName
    refine' Ck.with_defA "is_new_name" Ck.sIsNew ["names", "value"] KX G (fun _ _ _ _ _ _ us hl => match us, hl with | [_, _], _ => rfl) ?a_7 ?l_7 ?c_7 ?k_7 ?next_7
    (case a_7 => k_is)
    (case l_7 => k_is)
    (case c_7 => k_is)
    (case k_7 => k_is)
    intro D_isNew
    refine' Ck.with_defA "has_parts" Ck.sHasParts ["tree"] KX G (fun _ _ _ _ _ _ us hl => match us, hl with | [_], _ => rfl) ?a_8 ?l_8 ?c_8 ?k_8 ?next_8
    (case a_8 => k_is)
    (case l_8 => k_is)
    (case c_8 => k_is)
    (case k_8 => k_is)
    intro D_hasParts
    refine' Ck.with_defA "is_outline" Ck.sOutline ["program"] KX G (fun _ _ _ _ _ _ us hl => match us, hl with | [_], _ => rfl) ?a_9 ?l_9 ?c_9 ?k_9 ?next_9
    (case a_9 => k_is)
    (case l_9 => k_is)
    (case c_9 => k_is)
    (case k_9 => k_is)
    intro D_outline
    refine' Ck.with_defA "is_entry" Ck.sEntry ["entry", "functions"] KX G (fun _ _ _ _ _ _ us hl => match us, hl with | [_, _], _ => rfl) ?a_10 ?l_10 ?c_10 ?k_10 ?next_10
    (case a_10 => k_is)
    (case l_10 => k_is)
    (case c_10 => k_is)
    (case k_10 => k_is)
    intro D_entry
    refine' Ck.with_defA "checked" Ck.sChecked ["program"] KX G (fun _ _ _ _ _ _ us hl => match us, hl with | [_], _ => rfl) ?a_11 ?l_11 ?c_11 ?k_11 ?next_11
    (case a_11 => k_is)
    (case l_11 => k_is)
    (case c_11 => k_is)
    (case k_11 => k_is)
    intro D_checked
    refine' Ck.with_defA "size_of_all" Ck.sAll ["check", "trees", "place"] KX G (fun _ _ _ _ _ _ us hl => match us, hl with | [_, _, _], _ => rfl) ?a_12 ?l_12 ?c_12 ?k_12 ?next_12
    (case a_12 => k_is)
    (case l_12 => k_is)
    (case c_12 => k_is)
    (case k_12 => k_is)
    intro D_all
    refine' Ck.with_defA "size_inside" Ck.sInto ["check", "parts", "place"] KX G (fun _ _ _ _ _ _ us hl => match us, hl with | [_, _, _], _ => rfl) ?a_13 ?l_13 ?c_13 ?k_13 ?next_13
    (case a_13 => k_is)
    (case l_13 => k_is)
    (case c_13 => k_is)
    (case k_13 => k_is)
    intro D_into
    refine' Ck.with_defA "size_behind_barrier" Ck.sBar ["check", "parts", "place"] KX G (fun _ _ _ _ _ _ us hl => match us, hl with | [_, _, _], _ => rfl) ?a_14 ?l_14 ?c_14 ?k_14 ?next_14
    (case a_14 => k_is)
    (case l_14 => k_is)
    (case c_14 => k_is)
    (case k_14 => k_is)
    intro D_bar
    refine' Ck.with_defA "size_of_run" Ck.sRun ["check", "tree", "place"] KX G (fun _ _ _ _ _ _ us hl => match us, hl with | [_, _, _], _ => rfl) ?a_15 ?l_15 ?c_15 ?k_15 ?next_15
    (case a_15 => k_is)
    (case l_15 => k_is)
    (case c_15 => k_is)
    (case k_15 => k_is)
    intro D_run
    refine' Ck.with_defA "size_of_status" Ck.sSta ["check", "tree", "place"] KX G (fun _ _ _ _ _ _ us hl => match us, hl with | [_, _, _], _ => rfl) ?a_16 ?l_16 ?c_16 ?k_16 ?next_16
    (case a_16 => k_is)
    (case l_16 => k_is)
    (case c_16 => k_is)
    (case k_16 => k_is)
    intro D_status
    refine' Ck.with_defA "size_with_variable" Ck.sVar ["check", "tree", "place"] KX G (fun _ _ _ _ _ _ us hl => match us, hl with | [_, _, _], _ => rfl) ?a_17 ?l_17 ?c_17 ?k_17 ?next_17
    (case a_17 => k_is)
    (case l_17 => k_is)
    (case c_17 => k_is)
    (case k_17 => k_is)
    intro D_var
    refine' Ck.with_defA "size_of_put" Ck.sPut ["check", "tree", "place"] KX G (fun _ _ _ _ _ _ us hl => match us, hl with | [_, _, _], _ => rfl) ?a_18 ?l_18 ?c_18 ?k_18 ?next_18
    (case a_18 => k_is)
    (case l_18 => k_is)
    (case c_18 => k_is)
    (case k_18 => k_is)
    intro D_put
    refine' Ck.with_defA "size_of_option" Ck.sOpt ["check", "tree", "place"] KX G (fun _ _ _ _ _ _ us hl => match us, hl with | [_, _, _], _ => rfl) ?a_19 ?l_19 ?c_19 ?k_19 ?next_19
    (case a_19 => k_is)
    (case l_19 => k_is)
    (case c_19 => k_is)
    (case k_19 => k_is)
    intro D_option
    refine' Ck.with_defA "size_of_trap" Ck.sTra ["check", "tree", "place"] KX G (fun _ _ _ _ _ _ us hl => match us, hl with | [_, _, _], _ => rfl) ?a_20 ?l_20 ?c_20 ?k_20 ?next_20
    (case a_20 => k_is)
    (case l_20 => k_is)
    (case c_20 => k_is)
    (case k_20 => k_is)
    intro D_trap
    refine' Ck.with_defA "size_of_seq" Ck.sSeq ["check", "tree", "place"] KX G (fun _ _ _ _ _ _ us hl => match us, hl with | [_, _, _], _ => rfl) ?a_21 ?l_21 ?c_21 ?k_21 ?next_21
    (case a_21 => k_is)
    (case l_21 => k_is)
    (case c_21 => k_is)
    (case k_21 => k_is)
    intro D_seq
    refine' Ck.with_defA "size_of_pipe" Ck.sPip ["check", "tree", "place"] KX G (fun _ _ _ _ _ _ us hl => match us, hl with | [_, _, _], _ => rfl) ?a_22 ?l_22 ?c_22 ?k_22 ?next_22
    (case a_22 => k_is)
    (case l_22 => k_is)
    (case c_22 => k_is)
    (case k_22 => k_is)
    intro D_pipe
    refine' Ck.with_defA "size_of_and_or" Ck.sAnd ["check", "tree", "place"] KX G (fun _ _ _ _ _ _ us hl => match us, hl with | [_, _, _], _ => rfl) ?a_23 ?l_23 ?c_23 ?k_23 ?next_23
    (case a_23 => k_is)
    (case l_23 => k_is)
    (case c_23 => k_is)
    (case k_23 => k_is)
    intro D_andor
    refine' Ck.with_defA "size_of_not" Ck.sNot ["check", "tree", "place"] KX G (fun _ _ _ _ _ _ us hl => match us, hl with | [_, _, _], _ => rfl) ?a_24 ?l_24 ?c_24 ?k_24 ?next_24
    (case a_24 => k_is)
    (case l_24 => k_is)
    (case c_24 => k_is)
    (case k_24 => k_is)
    intro D_not
    refine' Ck.with_defA "size_of_sub" Ck.sSub ["check", "tree", "place"] KX G (fun _ _ _ _ _ _ us hl => match us, hl with | [_, _, _], _ => rfl) ?a_25 ?l_25 ?c_25 ?k_25 ?next_25
    (case a_25 => k_is)
    (case l_25 => k_is)
    (case c_25 => k_is)
    (case k_25 => k_is)
    intro D_sub
    refine' Ck.with_defA "size_of_if" Ck.sIff ["check", "tree", "place"] KX G (fun _ _ _ _ _ _ us hl => match us, hl with | [_, _, _], _ => rfl) ?a_26 ?l_26 ?c_26 ?k_26 ?next_26
    (case a_26 => k_is)
    (case l_26 => k_is)
    (case c_26 => k_is)
    (case k_26 => k_is)
    intro D_ife
    refine' Ck.with_defA "size_of_while" Ck.sWhi ["check", "tree", "place"] KX G (fun _ _ _ _ _ _ us hl => match us, hl with | [_, _, _], _ => rfl) ?a_27 ?l_27 ?c_27 ?k_27 ?next_27
    (case a_27 => k_is)
    (case l_27 => k_is)
    (case c_27 => k_is)
    (case k_27 => k_is)
    intro D_whl
    refine' Ck.with_defA "size_of_times" Ck.sTim ["check", "tree", "place"] KX G (fun _ _ _ _ _ _ us hl => match us, hl with | [_, _, _], _ => rfl) ?a_28 ?l_28 ?c_28 ?k_28 ?next_28
    (case a_28 => k_is)
    (case l_28 => k_is)
    (case c_28 => k_is)
    (case k_28 => k_is)
    intro D_times
    refine' Ck.with_defA "size_of_jump" Ck.sJmp ["check", "tree", "place"] KX G (fun _ _ _ _ _ _ us hl => match us, hl with | [_, _, _], _ => rfl) ?a_29 ?l_29 ?c_29 ?k_29 ?next_29
    (case a_29 => k_is)
    (case l_29 => k_is)
    (case c_29 => k_is)
    (case k_29 => k_is)
    intro D_jump
    refine' Ck.with_defA "size_of_call" Ck.sCal ["check", "tree", "place"] KX G (fun _ _ _ _ _ _ us hl => match us, hl with | [_, _, _], _ => rfl) ?a_30 ?l_30 ?c_30 ?k_30 ?next_30
    (case a_30 => k_is)
    (case l_30 => k_is)
    (case c_30 => k_is)
    (case k_30 => k_is)
    intro D_call
    refine' Ck.with_defA "size_of_return" Ck.sRet ["check", "tree", "place"] KX G (fun _ _ _ _ _ _ us hl => match us, hl with | [_, _, _], _ => rfl) ?a_31 ?l_31 ?c_31 ?k_31 ?next_31
    (case a_31 => k_is)
    (case l_31 => k_is)
    (case c_31 => k_is)
    (case k_31 => k_is)
    intro D_ret
    refine' Ck.with_defA "size_of_exit" Ck.sExi ["check", "tree", "place"] KX G (fun _ _ _ _ _ _ us hl => match us, hl with | [_, _, _], _ => rfl) ?a_32 ?l_32 ?c_32 ?k_32 ?next_32
    (case a_32 => k_is)
    (case l_32 => k_is)
    (case c_32 => k_is)
    (case k_32 => k_is)
    intro D_exit
    refine' Ck.with_defA "check_program" Ck.sCheckP ["program"] KX G (fun _ _ _ _ _ _ us hl => match us, hl with | [_], _ => rfl) ?a_33 ?l_33 ?c_33 ?k_33 ?next_33
    (case a_33 => k_is)
    (case l_33 => k_is)
    (case c_33 => k_is)
    (case k_33 => k_is)
    intro D_lCheckP
    refine' Ck.with_defA "program_size" Ck.sSize ["program"] KX G (fun _ _ _ _ _ _ us hl => match us, hl with | [_], _ => rfl) ?a_34 ?l_34 ?c_34 ?k_34 ?next_34
    (case a_34 => k_is)
    (case l_34 => k_is)
    (case c_34 => k_is)
    (case k_34 => k_is)
    intro D_lSize
    refine' Ck.with_defA "_law_mixed" Ck.sMixed ["_law_cell", "_law_draw"] KX G (fun _ _ _ _ _ _ us hl => match us, hl with | [_, _], _ => rfl) ?a_35 ?l_35 ?c_35 ?k_35 ?next_35
    (case a_35 => k_is)
    (case l_35 => k_is)
    (case c_35 => k_is)
    (case k_35 => k_is)
    intro D_lMixed
    refine' Ck.with_defA "_law_source" Ck.sSource ["_law_cell"] KX G (fun _ _ _ _ _ _ us hl => match us, hl with | [_], _ => rfl) ?a_36 ?l_36 ?c_36 ?k_36 ?next_36
    (case a_36 => k_is)
    (case l_36 => k_is)
    (case c_36 => k_is)
    (case k_36 => k_is)
    intro D_lSource
    refine' Ck.with_defA "_law_take" Ck.sTake ["_law_source_here", "_law_bound"] KX G (fun _ _ _ _ _ _ us hl => match us, hl with | [_, _], _ => rfl) ?a_37 ?l_37 ?c_37 ?k_37 ?next_37
    (case a_37 => k_is)
    (case l_37 => k_is)
    (case c_37 => k_is)
    (case k_37 => k_is)
    intro D_lTake
    refine' Ck.with_defA "_law_said" Ck.sSaid ["_law_plan"] KX G (fun _ _ _ _ _ _ us hl => match us, hl with | [_], _ => rfl) ?a_38 ?l_38 ?c_38 ?k_38 ?next_38
    (case a_38 => k_is)
    (case l_38 => k_is)
    (case c_38 => k_is)
    (case k_38 => k_is)
    intro D_lSaid
    refine' Ck.with_defA "_law_letters" Ck.sLetters ["_law_number"] KX G (fun _ _ _ _ _ _ us hl => match us, hl with | [_], _ => rfl) ?a_39 ?l_39 ?c_39 ?k_39 ?next_39
    (case a_39 => k_is)
    (case l_39 => k_is)
    (case c_39 => k_is)
    (case k_39 => k_is)
    intro D_lLetters
    refine' Ck.with_defA "_law_trees_right" Ck.sTrees ["_law_source_here"] KX G (fun _ _ _ _ _ _ us hl => match us, hl with | [_], _ => rfl) ?a_40 ?l_40 ?c_40 ?k_40 ?next_40
    (case a_40 => k_is)
    (case l_40 => k_is)
    (case c_40 => k_is)
    (case k_40 => k_is)
    intro D_lTrees
    refine' Ck.with_defA "_law_paths_right" Ck.sPaths ["_law_source_here"] KX G (fun _ _ _ _ _ _ us hl => match us, hl with | [_], _ => rfl) ?a_41 ?l_41 ?c_41 ?k_41 ?next_41
    (case a_41 => k_is)
    (case l_41 => k_is)
    (case c_41 => k_is)
    (case k_41 => k_is)
    intro D_lPaths
    refine' Ck.with_defA "_law_variables_right" Ck.sVars ["_law_source_here"] KX G (fun _ _ _ _ _ _ us hl => match us, hl with | [_], _ => rfl) ?a_42 ?l_42 ?c_42 ?k_42 ?next_42
    (case a_42 => k_is)
    (case l_42 => k_is)
    (case c_42 => k_is)
    (case k_42 => k_is)
    intro D_lVars
    refine' Ck.with_defA "_law_unfolded_right" Ck.sUnf ["_law_source_here"] KX G (fun _ _ _ _ _ _ us hl => match us, hl with | [_], _ => rfl) ?a_43 ?l_43 ?c_43 ?k_43 ?next_43
    (case a_43 => k_is)
    (case l_43 => k_is)
    (case c_43 => k_is)
    (case k_43 => k_is)
    intro D_lUnf
    refine' Ck.with_defA "_law_functions_right" Ck.sFns [] KX G (fun _ _ _ _ _ _ us hl => match us, hl with | [], _ => rfl) ?a_44 ?l_44 ?c_44 ?k_44 ?next_44
    (case a_44 => k_is)
    (case l_44 => k_is)
    (case c_44 => k_is)
    (case k_44 => k_is)
    intro D_lFns
    refine' Ck.with_defA "law" Ck.sLaw ["_law_script"] KX G (fun _ _ _ _ _ _ us hl => match us, hl with | [_], _ => rfl) ?a_45 ?l_45 ?c_45 ?k_45 ?next_45
    (case a_45 => k_is)
    (case l_45 => k_is)
    (case c_45 => k_is)
    (case k_45 => k_is)
    intro D_lLaw
    refine' Ck.with_tables (w := w) KX G D_run D_status D_var D_put D_option D_trap D_seq D_pipe D_andor D_not D_sub D_ife D_whl D_times D_jump D_call D_ret D_exit ?aR_46 ?aS_46 ?lR_46 ?lS_46 ?kR_46 ?kS_46 ?oR_46 ?oS_46 ?mR_46 ?mS_46 ?next_46
    (case aR_46 => k_is)
    (case aS_46 => k_is)
    (case lR_46 => k_is)
    (case lS_46 => k_is)
    (case kR_46 => repeat (first | exact Ck.keys_nil | apply Ck.keys_cons ⟨_, _, rfl, rfl⟩))
    (case kS_46 => repeat (first | exact Ck.keys_nil | apply Ck.keys_cons ⟨_, _, rfl, rfl⟩))
    (case oR_46 => decide)
    (case oS_46 => decide)
    (case mR_46 => exact ⟨Ck.reserved.map fun z => (z, PySem.Value.bool true), rfl, rfl⟩)
    (case mS_46 => rfl)
    intro T0
    refine' Ck.the_end KX G hmg E0 ?tyC_47 ?sC_47 Cl M0 T0 D_isInt D_isWithin D_isName D_isNew D_hasParts D_outline D_entry D_checked D_all D_into D_bar D_run D_status D_var D_put D_option D_trap D_seq D_pipe D_andor D_not D_sub D_ife D_whl D_times D_jump D_call D_ret D_exit D_lCheckP D_lSize D_lMixed D_lSource D_lTake D_lSaid D_lLetters D_lTrees D_lPaths D_lVars D_lUnf D_lFns D_lLaw
    (case tyC_47 => k_is)
    (case sC_47 => k_is)

