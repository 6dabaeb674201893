import PyProof.Rows.All
import Wide.All
import OpenK.AllK
import Wide.FinOn
import KE.KExcStr
import HandS.ForExc
import HandS.ExcInit
import KE.KExcIs
import HandS.IsInst
import KE.DataEq
import HandS.ForMost
import HandS.More
import HandS.OwnEq
import HandS.Walk
import PySem.Challenge.RW_shellways_k04_error_types
import HandS.Wide
set_option Elab.async false
set_option linter.all false
set_option maxRecDepth 100000
set_option maxHeartbeats 4000000
/-! An own error made with its value by keyword: the built-in __new__ lets the keyword by, the own __init__ gets it. -/
namespace PySem
namespace ErrKw
open PySem.HandSPX
section
variable {mo : Model} {ar : Around} {er : Value → Shared → Prop} {hp : Heap} {ge : Array GenState} {dr : Drawn} {tn : Nat} {osx : OsState}
variable {nm qn : Str} {C N : Addr} {bs bm bB : List Value} {hd : Bool} {sn : List Str} {sb : List Value} {ab : Bool} {co : Option Bool} {dd : Option Addr} {k0 k1 k2 k3 k5 : Option Value} {B nI iI : String} {kw : List (Str × Value)}
theorem kw_check (FB : ExcBaseFacts B nI iI bB) (same : ∀ X : String, bm.contains (.type X) = bB.contains (.type X)) {ps : List Value} {Q : Unit → Shared → Prop}
    (cC : hp.get? C = some (excClassObj nm qn C N bs bm hd sn sb ab co dd k0 k1 k2 k3 k5 nI)) (fin : Q () ⟨hp, ge, dr, tn, osx⟩) :
    wpAny mo ar (checkBuiltinCall nI ⟨.ref C :: ps, kw⟩) Q er ⟨hp, ge, dr, tn, osx⟩ := by
  have inB : (Value.ref C :: bm).contains (.type B) = true := by
    rw [List.contains_cons, same, FB.hasB, Bool.or_true]
  have star := FB.noStar
  simp only [checkBuiltinCall, FB.newKind, FB.newSplit, FB.newRow]
  repeat (first
    | refine wpAny_loadPart_at cC ?_
    | (refine wpAny_isSubtype_exc cC ?_; rw [inB])
    | refine wpAny_staticBase_exc cC ?_
    | refine wpAny_madeBy_exc cC ?_
    | simp only [bne_self_eq_false, Bool.false_eq_true, if_false]
    | wp_step)
  exact fin
end
section
variable {prog : Program} {w : World} {ar : Around} {er : Value → Shared → Prop} {R : Result → Shared → Prop} {hp : Heap} {ge : Array GenState} {dr : Drawn} {tn : Nat} {osx : OsState}
variable {nm qn : Str} {C N : Addr} {bs bm bB : List Value} {hd : Bool} {sn : List Str} {sb : List Value} {ab : Bool} {co : Option Bool} {dd : Option Addr} {k0 k1 k2 k3 k5 : Option Value} {B nI iI : String} {kw : List (Str × Value)}
theorem kw_new (FB : ExcBaseFacts B nI iI bB) (same : ∀ X : String, bm.contains (.type X) = bB.contains (.type X)) {ps : List Value}
    (cC : hp.get? C = some (excClassObj nm qn C N bs bm hd sn sb ab co dd k0 k1 k2 k3 k5 nI))
    (fin : R (.ok (.ret (.ref (hp.objs.size + 1)))) ⟨(hp.push (W.kdv_tup ps)).push (excO C hp.objs.size), ge, dr, tn, osx⟩) (small : ps.length ≤ sizeLine) :
    codeAny (model prog w) ar (.builtin nI ⟨.ref C :: ps, kw⟩) R ⟨hp, ge, dr, tn, osx⟩ := by
  have ends := FB.ends
  have inB : (Value.ref C :: bm).contains (.type B) = true := by
    rw [List.contains_cons, same, FB.hasB, Bool.or_true]
  have noA : (Value.ref C :: bm).contains (.type "AttributeError") = false := by
    rw [List.contains_cons, same, FB.noAttr]; rfl
  have noN : (Value.ref C :: bm).contains (.type "NameError") = false := by
    rw [List.contains_cons, same, FB.noName]; rfl
  refine codeAny_builtinAt FB.entry ?_
  unfold Builtin.«BaseException.__new__»
  refine wpAt_bind ?_
  show wpAt _ _ _ (stack >>= _) _ _ _
  refine wpAt_bind (wpAt_stack fun p below => wpAt_of_wpAny ?_)
  wp_walk
  refine wpAt_of_wpAny ?_
  rw [FB.owner]
  repeat (first
    | with_reducible refine wpAny_madeHere_exc FB.canon cC ?_
    | with_reducible refine wpAny_loadPart_at cC ?_
    | (with_reducible refine wpAny_isSubtype_exc cC ?_; first | rw [inB] | rw [noA] | rw [noN])
    | wp_step)
  show R _ _
  rw [Heap.size_push]
  exact fin
theorem kw_typecall (FB : ExcBaseFacts B nI iI bB) (same : ∀ X : String, bm.contains (.type X) = bB.contains (.type X)) {ps : List Value} {fI : Addr} {Q : Fin → Shared → Prop}
    (cC : hp.get? C = some (excClassObj nm qn C N bs bm hd sn sb ab co dd k0 k1 k2 k3 k5 nI))
    (lk : W.Looks (model prog w) hp (typeLookup (.ref C) "__init__") (some (.ref fI)))
    (bd : ∀ self, W.Looks (model prog w) hp (bindSpecial (.ref fI) self) (.ref fI, [self])) (small : ps.length ≤ sizeLine)
    (fin : codeAny (model prog w) ar (.call (.ref fI) ⟨.ref (hp.objs.size + 1) :: ps, kw⟩)
      (fun r s' => match r with | .ok (.ret v) => v = .none ∧ Q (.done (.ret (.ref (hp.objs.size + 1)))) s' | .ok _ => False | .error e => er e s')
      ⟨(hp.push (W.kdv_tup ps)).push (excO C hp.objs.size), ge, dr, tn, osx⟩) :
    wpAny (model prog w) ar (Builtin.«type.__call__» ⟨.ref C :: ps, kw⟩) Q er ⟨hp, ge, dr, tn, osx⟩ := by
  repeat (first
    | with_reducible refine wpAny_loadPart_at cC ?_
    | with_reducible refine wpAny_madeBy_exc cC ?_
    | wp_step)
  refine codeAny_call_builtin_code (Code.quiet_builtin _ FB.quiet) (kw_check FB same cC ?_)
  refine kw_new FB same cC ?_ small
  show wpAny _ _ _ _ _ _
  have keep : ∀ b o, hp.get? b = some o → ((hp.push (W.kdv_tup ps)).push (excO C hp.objs.size)).get? b = some o := fun b o e =>
    Heap.get?_push_of_some _ (Heap.get?_push_of_some _ e)
  have cC' := keep _ _ cC
  have new : ((hp.push (W.kdv_tup ps)).push (excO C hp.objs.size)).get? (hp.objs.size + 1) = some (excO C hp.objs.size) := by heap_get
  have inC : (Value.ref C :: bm).contains (.ref C) = true := by simp
  have lk' := lk.keeps keep
  have bd' := (bd (.ref (hp.objs.size + 1))).keeps keep
  unfold isInstance
  repeat (first
    | with_reducible refine wpAny_loadPart_at new ?_
    | (with_reducible refine wpAny_isSubtype_exc cC' ?_; rw [inC])
    | wp_step)
  show wpAny _ _ (typeLookup (.ref C) _) _ _ _
  refine lk'.at ?_
  refine wpAny_holding (wpAny_bind (bd'.at ?_))
  refine wpAny_bind (wpAny_call (codeAny_mono fin fun r s' z => ?_))
  rcases r with e | (v | _ | _ | _) <;> first | exact z | exact z.elim | skip
  obtain ⟨rfl, z⟩ := z
  first
    | exact wpAny_pure (wpAny_pure z)
    | (wp_walk; exact z)
theorem kw_call (FB : ExcBaseFacts B nI iI bB) (same : ∀ X : String, bm.contains (.type X) = bB.contains (.type X)) {ps : List Value} {fI : Addr}
    (cC : hp.get? C = some (excClassObj nm qn C N bs bm hd sn sb ab co dd k0 k1 k2 k3 k5 nI))
    (lk : W.Looks (model prog w) hp (typeLookup (.ref C) "__init__") (some (.ref fI)))
    (bd : ∀ self, W.Looks (model prog w) hp (bindSpecial (.ref fI) self) (.ref fI, [self])) (small : ps.length ≤ sizeLine)
    (fin : codeAny (model prog w) (ar.under (.builtin "type.__call__" ⟨.ref C :: ps, kw⟩)) (.call (.ref fI) ⟨.ref (hp.objs.size + 1) :: ps, kw⟩) (W.InitBack (hp.objs.size + 1) R)
      ⟨(hp.push (W.kdv_tup ps)).push (excO C hp.objs.size), ge, dr, tn, osx⟩) :
    codeAny (model prog w) ar (.call (.ref C) ⟨ps, kw⟩) R ⟨hp, ge, dr, tn, osx⟩ := by
  have f1 := tc_lookup
  have f2 := tc_bind (.ref C)
  have ty : (⟨hp, ge, dr, tn, osx⟩ : Shared).TypeIs (.ref C) "type" := ⟨_, cC, rfl⟩
  refine codeAny_of_tree ?_
  show wpAny _ _ (callAny (.ref C) _) _ _ _
  repeat (any_goals (first | assumption | with_reducible refine wpAny_loadPart_at cC ?_ | wp_step))
  refine ⟨rfl, ?_⟩
  refine codeAny_call_builtin_at (Code.quiet_builtin _ (by decide +kernel)) entry_typeCall (wpAny_check_type_call_sub cC (kw_typecall FB same cC lk bd small ?_))
  refine codeAny_mono fin fun r s' z => ?_
  rcases r with e | (v | _ | _ | _) <;> exact z
end
end ErrKw
end PySem
/-! The own __init__: the base's one through super, then one field. -/
namespace PySem
namespace ErrKw
open PySem.W PySem.Calls PyProof.Rows PySem.HandSPX
def iArgs (f : Str) (p1 p2 : Pos) : Arguments := { posonlyargs := [], args := [{ arg := "self", annotation := none, pos := p1 }, { arg := f, annotation := none, pos := p2 }], vararg := none, kwonlyargs := [], kw_defaults := [], kwarg := none, defaults := [] }
def iBody (f msg : Str) (k : Nat) (q1 q2 q3 q4 q5 q6 q7 q8 q9 q10 : Pos) : List Stmt :=
  [.Expr (.Call (.Attribute (.Call (.Name "super" q1) [] [] q2) "__init__" q3) [.Constant (.str msg) k q4] [] q5) q6,
   .Assign [.Attribute (.Name "self" q7) f q8] (.Name f q9) q10]
def iScope (f : Str) : Scope := { kind := .function, names := [("self", .local), (f, .local), ("__class__", .free), ("super", .globalImplicit)], isGenerator := false, isCoroutine := false, more := [] }
/-- how the call of the base's __init__ is read, for these places -/
def Reads0 (msg : Str) (k : Nat) (q1 q2 q3 q4 q5 : Pos) : Prop := ∃ pl : Env → Sem Bool, ∀ env : Env, eval (.Call (.Attribute (.Call (.Name "super" q1) [] [] q2) "__init__" q3) [.Constant (.str msg) k q4] [] q5) env = (do
  let ov ← attributeBase (.Call (.Name "super" q1) [] [] q2) "__init__" env (eval (.Call (.Name "super" q1) [] [] q2) env)
  standAt q3.atName
  let (g, first) ← holding [ov] (getMethod ov "__init__" (pl env))
  callWith q5 g first (backTo q5 (starEach [.Constant (.str msg) k q4] env)) [])
/-- what stands of an own error class at C (its field f), and of its __init__ at fI; D: the class that its __class__ cell names (itself) -/
structure Own (K : Frag) (C fI : Addr) (f : Str) : Prop where
  cls : ∃ nm qn N bs bm sn sub ab col dd k0 k1 k2 k3 k5, K.lookup C = some (excClassObj nm qn C N bs bm true sn sub ab col dd k0 k1 k2 k3 k5 "ValueError.__new__") ∧ refsVE bm = true
  sa : findIn K (.ref C) "__setattr__" = some (some (.builtin "object.__setattr__"))
  no : findIn K (.ref C) f = some none
  su : ks_superIn K C C "__init__" = some (some (.builtin "ValueError.__init__"))
  ve : subIn K (.ref C) (.type "ValueError") = some true
  me : mroIn K C (.ref C) = some true
  tp : nsIn K cStatics "thirdparty.any" = some none
  qi : excInitIn K C [.type "ValueError", .type "Exception", .type "BaseException", .type "object"] "ValueError.__new__" = true
  kl : (iScope f).names.lookup f = some .local
  vs : f ≠ "self"
  nd : (f == ("__debug__" : Str)) = false
  ks : (iScope f).names.lookup ("super" : Str) = some .globalImplicit
  kc : (iScope f).names.lookup ("__class__" : Str) = some .free
  fn : ∃ (qn msg : Str) (k : Nat) (oc doc pm ct ccl cll : Value) (od an cdd cld : Option Addr) (osl ccs csl : Array (Option Value)) (cda cc : Addr) (fs : Array Value) (file : Str) (tf : Tok) (p1 p2 q1 q2 q3 q4 q5 q6 q7 q8 q9 q10 : Pos),
    K.lookup fI = some ⟨oc, od, .func (ksFn "__init__" qn (iArgs f p1 p2) (iBody f msg k q1 q2 q3 q4 q5 q6 q7 q8 q9 q10) (iScope f) .none .none doc pm an (.ref cda) ct cc), osl⟩ ∧ codeIn K (.ref cda) qn = true ∧
    K.lookup cda = some ⟨ccl, cdd, .fields fs, ccs⟩ ∧ fs[2]? = some (.str file tf) ∧ K.lookup cc = some ⟨cll, cld, .cell (some (.ref C)), csl⟩ ∧ Reads0 msg k q1 q2 q3 q4 q5
/-- how the value comes to the field's parameter: by place, by keyword -/
structure Giv (f : Str) : Prop where
  place : ∀ (s : Shared) (x u : Value) qn p1 p2 body doc pm an cdv ct cc, BindsTo s (ksFn "__init__" qn (iArgs f p1 p2) body (iScope f) .none .none doc pm an cdv ct cc) ⟨[x, u], []⟩ [("self", x), (f, u)]
  word : ∀ (s : Shared) (x u : Value) qn p1 p2 body doc pm an cdv ct cc, BindsTo s (ksFn "__init__" qn (iArgs f p1 p2) body (iScope f) .none .none doc pm an cdv ct cc) ⟨[x], [(f, u)]⟩ [("self", x), (f, u)]
theorem given_path : Giv "path" := ⟨fun _ _ _ _ _ _ _ _ _ _ _ _ _ => .of_eq rfl, fun _ _ _ _ _ _ _ _ _ _ _ _ _ => .of_eq (by with_unfolding_all rfl)⟩
theorem given_place : Giv "place" := ⟨fun _ _ _ _ _ _ _ _ _ _ _ _ _ => .of_eq rfl, fun _ _ _ _ _ _ _ _ _ _ _ _ _ => .of_eq (by with_unfolding_all rfl)⟩
theorem given_index : Giv "index" := ⟨fun _ _ _ _ _ _ _ _ _ _ _ _ _ => .of_eq rfl, fun _ _ _ _ _ _ _ _ _ _ _ _ _ => .of_eq (by with_unfolding_all rfl)⟩
theorem given_name : Giv "name" := ⟨fun _ _ _ _ _ _ _ _ _ _ _ _ _ => .of_eq rfl, fun _ _ _ _ _ _ _ _ _ _ _ _ _ => .of_eq (by with_unfolding_all rfl)⟩
theorem given_status : Giv "status" := ⟨fun _ _ _ _ _ _ _ _ _ _ _ _ _ => .of_eq rfl, fun _ _ _ _ _ _ _ _ _ _ _ _ _ => .of_eq (by with_unfolding_all rfl)⟩
theorem given_limit : Giv "limit" := ⟨fun _ _ _ _ _ _ _ _ _ _ _ _ _ => .of_eq rfl, fun _ _ _ _ _ _ _ _ _ _ _ _ _ => .of_eq (by with_unfolding_all rfl)⟩
/-- what __init__ leaves -/
structure After (h h' : Heap) (x C dx t1 : Addr) (f : Str) (v : Value) : Prop where
  keep : ∀ b o, b ≠ x → h.get? b = some o → h'.get? b = some o
  obj : h'.get? x = some { cls := .ref C, dict := some dx, data := .fields #[.ref t1, .none, .none, .none, .bool false, .none] }
  big : h.objs.size ≤ dx
  ne : dx ≠ x
  ns : h'.Ns1 dx (fun y => if y = f then some v else none)
section
variable {prog : Program} {w : World} {A : Around} {R : Result → Shared → Prop} {s : Shared} {K : Frag} {mg mb : Str → Option Value} {C fI : Addr} {f : Str}
theorem err_init (T : Own K C fI f) {x t0 : Addr} {v : Value} {args : Args} (X : K.In s.heap) (G : s.heap.Ns mainGlobals mg) (Bt : s.heap.Ns builtinsNs mb) (hmg : mg "super" = none) (hmb : mb "super" = some (.type "super")) (hlim : s.heap.NoLimit)
    (hx : s.heap.get? x = some (excO C t0)) (hnx : K.lookup x = none) (hroom : A.depth < recursionLimit) (htop : (prog.main.scope.names.lookup ("super" : Str)).isSome = false)
    (hfile : ∀ cda ccl cdd fs ccs file tf, K.lookup cda = some ⟨ccl, cdd, .fields fs, ccs⟩ → fs[2]? = some (.str file tf) → ((prog.main.file : Str) == file) = true)
    (bnd : ∀ qn p1 p2 body doc pm an cdv ct cc, BindsTo s (ksFn "__init__" qn (iArgs f p1 p2) body (iScope f) .none .none doc pm an cdv ct cc) args [("self", .ref x), (f, v)])
    (hq : ∀ h' tk dx t1, After s.heap h' x C dx t1 f v → R (.ok (.ret .none)) { s with heap := h', toks := tk }) :
    codeAny (model prog w) A (.call (.ref fI) args) R s := by
  obtain ⟨qn, msg, k, oc, doc, pm, ct, ccl, cll, od, an, cdd, cld, osl, ccs, csl, cda, cc, fs, file, tf, p1, p2, q1, q2, q3, q4, q5, q6, q7, q8, q9, q10, ho, hcd, hcode, hfs, hcell, pl, hread⟩ := T.fn
  obtain ⟨nm, qc, N, bs, bm, sn, sub, ab, col, dd, k0, k1, k2, k3, k5, hC, hbm⟩ := T.cls
  have fl := hfile _ _ _ _ _ _ _ hcode hfs
  have nsf : (f == ("self" : Str)) = false := by simpa using T.vs
  refine ks_codeAny_call_defAt (fd := ksFn "__init__" qn (iArgs f p1 p2) (iBody f msg k q1 q2 q3 q4 q5 q6 q7 q8 q9 q10) (iScope f) .none .none doc pm an (.ref cda) ct cc) (body := iBody f msg k q1 q2 q3 q4 q5 q6 q7 q8 q9 q10)
    (binds := [("self", .ref x), (f, v)]) hroom (X _ _ ho) rfl hlim (codeRec_of X hcd) rfl (bnd _ _ _ _ _ _ _ _ _ _) ?_ ?_ (fun h₁ ns₁ kp₁ => ?_) rfl rfl rfl
  · intro y hy
    simp only [ksFn, fnX, iScope, List.mem_cons, List.not_mem_nil, or_false] at hy
    rcases hy with rfl | rfl | rfl | rfl <;> first | decide | (show NameKind.local ≠ NameKind.cell; decide)
  · intro y hy
    simp only [List.mem_cons, List.not_mem_nil, or_false] at hy
    rcases hy with rfl | rfl
    · rfl
    · exact T.kl
  show PySem.wpAt (model prog w) (A.deeper (ksEnv qn (iScope f) s.heap.objs.size fI (.ref cda) cc)) (.func _ (ksEnv qn (iScope f) s.heap.objs.size fI (.ref cda) cc)) (execs _ (ksEnv qn (iScope f) s.heap.objs.size fI (.ref cda) cc)) _ _ _
  have lt : x < s.heap.objs.size := Heap.lt_size hx
  have F₁ : Fr (hideAll s.heap [x]) s.heap.objs.size h₁ (fun y => List.lookup y [(f, v), (("self" : Str), Value.ref x)]) :=
    ⟨ns₁, fun b o e => kp₁ b o (of_hideAll _ e), Nat.le_of_eq (hideAll_size _ _)⟩
  have N₁ : News (hideAll s.heap [x]) s.heap.objs.size h₁ [(x, excObj C t0 none .none)] := by
    intro p hp
    simp only [List.mem_cons, List.not_mem_nil, or_false] at hp
    subst hp
    exact ⟨kp₁ _ _ hx, Nat.ne_of_lt lt, hideAll_none _ (by simp)⟩
  have X₀ : K.In (hideAll s.heap [x]) := fun a o e => hideAll_get _ (X a o e) (by
    intro z
    simp only [List.mem_cons, List.not_mem_nil, or_false] at z
    rw [z, hnx] at e
    cases e)
  have X₁ : K.In h₁ := X.keeps kp₁
  have vself : (fun y => List.lookup y [(f, v), (("self" : Str), Value.ref x)]) "self" = some (.ref x) := by
    show List.lookup ("self" : Str) [(f, v), (("self" : Str), Value.ref x)] = some (.ref x)
    have : (("self" : Str) == f) = false := by
      rw [Bool.eq_false_iff]; intro z; exact T.vs (beq_iff_eq.mp z).symm
    simp [List.lookup, this]
  refine ks_wpAt_execs_cons ?_
  refine ks_wpAt_Expr_any ?_ (hi := by rfl) (hs := by rfl)
  refine ks_wpAt_MethodCall (pl := pl _) ?_ (he := hread _)
  refine ks_wpAt_super_base (f := fI) (cc := cda) (ar := { arg := "self", annotation := none, pos := p1 }) ?a1 ?a2 (by decide) rfl (X₁ _ _ ho) rfl rfl rfl (X₁ _ _ hcode) rfl hfs fl htop ?_
  case a1 => exact T.ks
  case a2 => exact T.kc
  refine ks_loadName_global rfl T.ks (Calls.loadGlobal_builtin (mg := mg) (mb := mb) (G.at fun o e => kp₁ _ _ e) hmg (Bt.at fun o e => kp₁ _ _ e) hmb ⟨rfl, ?_⟩)
  refine wpAny_loadName_free rfl T.kc rfl ⟨_, X₁ _ _ hcell, rfl⟩ ?_
  refine wpAny_loadName_local rfl rfl F₁.ns vself ?_
  refine ks_wpAny_isType_cls (X₁ _ _ hC) rfl ⟨rfl, ?_⟩
  refine ks_wpAny_call_super (X₁ _ _ hC) rfl (N₁ (x, excObj C t0 none .none) (by simp)).1 rfl (fun c z => by cases z) (looks_mroIn X₁ T.me) (fun h₂ e₂ kp₂ => ?_)
  obtain ⟨F₂, N₂, l₂⟩ := ks_newsPush (s := ⟨h₁, s.gens, s.drawn, s.toks + 2, s.os⟩) F₁ N₁ rfl e₂ kp₂
  refine kxs_method (i := "ValueError.__init__") kxs_ValueError F₂ X₀ N₂ (so := h₁.objs.size) (x := x) (C := C) (D := C) (by simp) (InstAt.of_exc0 N₂ (t := t0) (c2 := .none) (by simp)) T.tp T.su T.ve (by decide) (fun q h₃ F₃ N₃ l₃ => ?_)
  refine kxs_callWith1 N₃ (x := x) (i := "ValueError.__init__") (by simp) ?_ (by rfl) (by rfl)
  refine spliced_more (Calls.Constant_str (spliced_none ⟨kxs_at N₃ (by simp), ?_⟩))
  have qx : q ≠ x := Nat.ne_of_gt (l₃ (x, excObj C t0 none .none) (by simp))
  have sx : h₁.objs.size ≠ x := Nat.ne_of_gt (l₂ (x, excObj C t0 none .none) (by simp))
  refine kxs_call (i := "ValueError.__init__") F₃ X₀ N₃ F.excBase_ValueError T.qi (by simp) (UpdF.tail qx (UpdF.tail sx (UpdF.head (fun p hp => by simp at hp)))) (show 1 ≤ sizeLine by rw [sizeLine_eq]; decide) (fun t' h₄ F₄ N₄ l₄ => ?_)
  have hx₄ := (N₄ (x, excObj C t' none .none) (by simp)).1
  have X₄ : K.In h₄ := X₀.keeps F₄.keep
  have hcl : clsIn K C = some { name := nm, bases := bs, mro := .ref C :: bm, ns := N, qualname := qc, hasDict := true, slotNames := sn, subclasses := sub, abstract := ab, collection := col, hasDel := false } := by
    unfold clsIn; rw [hC] <;> rfl
  show PySem.wpAt _ _ _ (execs _ _) _ _ _
  refine ks_wpAt_execs_cons (wpAt_of_wpAny (plainObj_wpAny_Assign_Attribute ?_ (by rfl)))
  refine wpAny_Name (wpAny_loadName_local rfl T.kl F₄.ns (v := v) (by simp [List.lookup]) ?_) T.nd
  refine wpAny_Name (wpAny_loadName_local rfl rfl F₄.ns vself ?_) (by decide)
  refine set_plain X₄ (ox := excObj C t' none .none) (od := none) ⟨hx₄, rfl, rfl, trivial⟩ T.sa ?_
  refine exc_osa X₄ hx₄ hcl (show refsVE (.ref C :: bm) = true from hbm) rfl T.no (fun h₅ tk₅ dx k₅ dn dne hx₅ hn₅ => ?_)
  show PySem.wpAt _ _ _ (execs [] _) _ _ _
  have sz : s.heap.objs.size < h₄.objs.size := F₄.ns.lt
  refine wpAt_of_wpAny (wpAny_execs_nil (hq h₅ tk₅ dx t' ⟨fun b o hb e => k₅ b o hb (F₄.keep b o (hideAll_get _ e (by
    intro z
    simp only [List.mem_cons, List.not_mem_nil, or_false] at z
    exact hb z))), hx₅, Nat.le_of_lt (Nat.lt_of_lt_of_le sz dn), dne, hn₅⟩))
end
end ErrKw
end PySem
namespace L2
open PySem PySem.Spec PyProof.Rows PySem.ErrKw
/-- an own error class of this program, at C, called x, with the field f -/
structure ErrC (P : Program) (K : PySem.W.Frag) (mg : Str → Option Value) (x f : Str) (C fI : Addr) : Prop where
  own : Own K C fI f
  gC : mg x = some (.ref C)
  kC : PySem.W.keepIn K (.ref C) = true
  iC : PySem.W.findIn K (.ref C) "__init__" = some (some (.ref fI))
  tI : PySem.W.typeIn K (.ref fI) = some (.type "function")
  ga : PySem.W.findIn K (.ref C) "__getattribute__" = some (some (.builtin "BaseException.__getattribute__"))
  gg : PySem.W.findIn K (.ref C) "__getattr__" = some none
  exC : PySem.W.subIn K (.ref C) (.type "BaseException") = some true
  hdC : PySem.W.hasDictIn K C = true
  ca : PySem.W.findIn K (.ref C) "__class__" = some (some (.builtin "object.__class__"))
  cg : PySem.W.specialIn K (.builtin "object.__class__") "__get__" = some (some (.builtin "getset_descriptor.__get__"))
  ct : PySem.W.takesIn K (.builtin "object.__class__") = some true
  mo : PySem.W.mroIn K C (.type "object") = some true
  isC : (PySem.W.clsIn K C).isSome = true
  sup : mg "super" = none
  top : (P.main.scope.names.lookup ("super" : Str)).isSome = false
  fil : ∀ cda ccl cdd fs ccs file tf, K.lookup cda = some ⟨ccl, cdd, .fields fs, ccs⟩ → fs[2]? = some (.str file tf) → ((P.main.file : Str) == file) = true
/-- at e: such an error with this value -/
def ErrAt (H : Hp) (e C : Addr) (f : Str) (v : V) : Prop := ∃ d, H e = some (exo e C (some d)) ∧ H d = some (exd d [(f, v)])
def sErr (C : Addr) (f : Str) (v : V) (H : Hp) (Q : VK) : Prop := ∀ e d, H e = none → H d = none → d ≠ e → Q (.ref e) (upd (upd H d (exd d [(f, v)])) e (exo e C (some d)))
section
variable {X : Cx} {x f : Str} {C fI : Addr} {pins : List (Addr × Obj)} {σ : St}
theorem run_err (Z : ErrC X.prog X.K X.mg x f C fI) (hr : Room 1 X.A) {H : Hp} {s : Shared} {Q : VK} {ps : List Value} {kw : List (Str × Value)} {v : V} {u : Value} (I : Inv X pins σ H s) (rv : RelV v u) (small : ps.length ≤ sizeLine)
    (bnd : ∀ (s' : Shared) (e : Addr) qn p1 p2 body doc pm an cdv ct cc, BindsTo s' (PySem.W.ksFn "__init__" qn (iArgs f p1 p2) body (iScope f) .none .none doc pm an cdv ct cc) ⟨.ref e :: ps, kw⟩ [("self", .ref e), (f, u)])
    (q : sErr C f v H Q) : wpAny (model X.prog X.w) X.A (call (.ref C) ps kw) (EP X pins σ Q) X.xe s := by
  obtain ⟨nm, qn, N, bs, bm, sn, sub, ab, col, dd, k0, k1, k2, k3, k5, hC, hbm⟩ := Z.own.cls
  have hlim := I.nolimit
  have Kn := I.kIn
  have G : s.heap.Ns mainGlobals X.mg := I.mod.glob.keeps I.bk
  obtain ⟨mb, B0, hmb⟩ := I.mod.blt
  have Bt : s.heap.Ns builtinsNs mb := B0.keeps I.bk
  have hsup : mb "super" = some (.type "super") := (hmb _ (by decide)).trans PyProof.Rows.Boot.«super»
  obtain ⟨hp, g, dr, tk, os⟩ := s
  have kk : ∀ b o, hp.get? b = some o → ((hp.push (PySem.W.kdv_tup ps)).push (PySem.HandSPX.excO C hp.objs.size)).get? b = some o := fun b o e => Heap.get?_push_of_some _ (Heap.get?_push_of_some _ e)
  have hget : ((hp.push (PySem.W.kdv_tup ps)).push (PySem.HandSPX.excO C hp.objs.size)).get? (hp.objs.size + 1) = some (PySem.HandSPX.excO C hp.objs.size) := by heap_get
  have hnx : X.K.lookup (hp.objs.size + 1) = none := by
    cases e : X.K.lookup (hp.objs.size + 1) with
    | none => rfl
    | some o =>
      have z : hp.get? (hp.objs.size + 1) = some o := Kn _ _ e
      exact absurd (Nat.lt_of_succ_lt (Heap.lt_size z)) (Nat.lt_irrefl _)
  refine wpAny_call (kw_call F.excBase_ValueError (fun Y => PySem.HandSPX.refsVE_contains Y bm hbm) (Kn _ _ hC) (PySem.W.looks_findIn Kn Z.iC) (fun self => PySem.W.bind_fn Kn self Z.tI) small ?_)
  refine err_init (s := ⟨(hp.push (PySem.W.kdv_tup ps)).push (PySem.HandSPX.excO C hp.objs.size), g, dr, tk, os⟩) (mg := X.mg) (mb := mb) Z.own (v := u) (Kn.keeps kk) (G.at fun o e => kk _ _ e) (Bt.at fun o e => kk _ _ e) Z.sup hsup (hlim.keeps kk) hget hnx ?_ Z.top Z.fil (bnd _ _) fun h' tk' d t1 M => ?_
  · have z := (hr.make C ps kw).dp
    omega
  · have old : ∀ b o, hp.get? b = some o → h'.get? b = some o := fun b o e => M.keep b o (Nat.ne_of_lt (Nat.lt_succ_of_lt (Heap.lt_size e))) (kk b o e)
    have dbig : hp.objs.size ≤ d := by
      have z := M.big
      rw [Heap.size_push, Heap.size_push] at z
      omega
    have He : H (hp.objs.size + 1) = none := I.hok.fresh (Nat.le_succ _)
    have Hd : H d = none := I.hok.fresh dbig
    have ned : ∀ {b : Addr} {o : Obj}, hp.get? b = some o → b ≠ d := fun {b o} z => Nat.ne_of_lt (Nat.lt_of_lt_of_le (Heap.lt_size z) dbig)
    have nee : ∀ {b : Addr} {o : Obj}, hp.get? b = some o → b ≠ hp.objs.size + 1 := fun {b o} z => Nat.ne_of_lt (Nat.lt_succ_of_lt (Heap.lt_size z))
    have Un1 : Un X.fs [] H (upd (upd H d (exd d [(f, v)])) (hp.objs.size + 1) (exo (hp.objs.size + 1) C (some d))) hp h' := {
      keep := fun b o z n _ _ => old b o z
      slot := fun b o z n _ _ => ⟨o.slots, old b o z⟩
      free := fun b o z n _ => by rw [upd_ne (nee z), upd_ne (ned z)]; exact n
      there := fun b o z _ => ⟨o, old b o z⟩
      tups := fun b xs z => by rw [upd_ne (ne_of_none z He), upd_ne (ne_of_none z Hd)]; exact z
      frzs := fun b o w z => by rw [upd_ne (ne_of_none z He), upd_ne (ne_of_none z Hd)]; exact z
      tbls := fun b ps z => ⟨#[], by rw [upd_ne (ne_of_none z He), upd_ne (ne_of_none z Hd), z]; simp⟩ }
    have J := I.un (t' := tk') Un1 (fun b o z => by
      by_cases hb : b = hp.objs.size + 1
      · subst hb
        rw [upd_same] at z
        cases z
        exact exo_ok M.obj
      · rw [upd_ne hb] at z
        by_cases hbd : b = d
        · subst hbd
          rw [upd_same] at z
          cases z
          exact exd_ok M.ns (relO_put (fs := []) rv fun g => True.intro)
        · rw [upd_ne hbd] at z
          exact (I.hok b o z).stay (fun c w _ y => old c w y) (fun c y => by rw [upd_ne (ne_of_none y He), upd_ne (ne_of_none y Hd)]; exact y) (fun c xs y => by rw [upd_ne (ne_of_none y He), upd_ne (ne_of_none y Hd)]; exact y))
    exact ⟨rfl, ⟨V.ref _, _, J, rfl, q _ d He Hd M.ne⟩⟩
/-- C(e) -/
def tErr (C : Addr) (f : Str) (te : TE) : TE := fun σ H Q => te σ H fun v H1 => sErr C f v H1 Q
theorem pe_err {e : Expr} {te : TE} {p pos : Pos} (Z : ErrC X.prog X.K X.mg x f C fI) (B : Giv f) (hr : Room 1 X.A) (ha : PE X e te) (hg : Gl X x := by rfl)
    (hdb : (x == ("__debug__" : Str)) = false := by decide) (he : starEach (e :: []) X.env = (false, eval e X.env) :: starEach [] X.env := by rfl) (hpl : (backTo pos (starEach [] X.env)).any (·.1) = false := by rfl) :
    PE X (.Call (.Name x p) [e] [] pos) (tErr C f te) := by
  refine ⟨fun pins s σ H Q I h => ?_⟩
  refine wpAny_Call_Name_kw (ld_glob I hg Z.gC ?_ hdb)
  have pa : PA X [e] (tCons te tNil) := pa_cons ha pa_nil he
  refine PySem.W.callWith_K (h₀ := X.base) I.ok.mod.kin Z.kC (thn (pa.run pos pins s σ H (fun vs H1 => match vs with | [v] => sErr C f v H1 Q | _ => False) I h) fun us s1 hh => ?_) he hpl
  obtain ⟨vs, H1, I1, r1, q1⟩ := hh
  refine ⟨I1.kIn, ?_⟩
  cases r1 with
  | nil => exact q1.elim
  | cons rv rn =>
    cases rn with
    | cons _ _ => exact q1.elim
    | nil => exact run_err Z hr I1 rv (show 1 ≤ sizeLine by rw [sizeLine_eq]; decide) (fun s' a => B.place s' (.ref a) _) q1
/-- C(f=e) -/
theorem pe_errK {e : Expr} {te : TE} {p pos kpos : Pos} (Z : ErrC X.prog X.K X.mg x f C fI) (B : Giv f) (hr : Room 1 X.A) (ha : PE X e te) (hg : Gl X x := by rfl)
    (hdb : (x == ("__debug__" : Str)) = false := by decide) (hall : (backToKw pos (keywordEach [⟨some f, e, kpos⟩] X.env)).all (·.1.isSome) = true := by rfl) (hks : (backToKw pos (keywordEach [⟨some f, e, kpos⟩] X.env)).filterMap (·.1) = [f] := by rfl)
    (hpl : ((backTo pos (starEach [] X.env)).any (·.1) || (backToKw pos (keywordEach [⟨some f, e, kpos⟩] X.env)).any (·.1.isNone)) = false := by rfl) :
    PE X (.Call (.Name x p) [] [⟨some f, e, kpos⟩] pos) (tErr C f te) := by
  refine ⟨fun pins s σ H Q I h => ?_⟩
  refine wpAny_Call_Name_kw (ld_glob I hg Z.gC ?_ hdb)
  have pk : PK X [⟨some f, e, kpos⟩] (tCons te tNil) := pk_cons ha pk_nil
  refine PySem.W.callWith_KW0 (h₀ := X.base) I.ok.mod.kin Z.kC hall (thn (pk.run pos pins s σ H (fun vs H1 => match vs with | [v] => sErr C f v H1 Q | _ => False) I h) fun us s1 hh => ?_) hpl
  obtain ⟨vs, H1, I1, r1, q1⟩ := hh
  refine ⟨I1.kIn, ?_⟩
  rw [hks]
  cases r1 with
  | nil => exact q1.elim
  | cons rv rn =>
    cases rn with
    | cons _ _ => exact q1.elim
    | nil => exact run_err Z hr I1 rv (Nat.zero_le _) (fun s' a => B.word s' (.ref a) _) q1
/-- e.f of such an error -/
def tErrF (P : Program) (K : PySem.W.Frag) (mg : Str → Option Value) (f : Str) (te : TE) : TE := fun σ H Q => te σ H fun x H1 => ∃ a n C fI v, x = .ref a ∧ ErrC P K mg n f C fI ∧ ErrAt H1 a C f v ∧ Q v H1
theorem pe_errF {e : Expr} {te : TE} {pos : Pos} (he : PE X e te) (hb : attributeBase e f X.env (eval e X.env) = eval e X.env := by rfl) : PE X (.Attribute e f pos) (tErrF X.prog X.K X.mg f te) := by
  refine ⟨fun pins s σ H Q I h => ?_⟩
  refine attr_of hb (thn (he.run pins s σ H _ I h) fun u s1 hh => ?_)
  obtain ⟨y, H1, I1, rx, a, n, C, fI, v, ex, Z, ⟨d, ea, ed⟩, q⟩ := hh
  subst ex
  obtain rfl : u = Value.ref a := rx
  obtain ⟨t1, ho⟩ := exo_at I1.hok ea
  obtain ⟨mA, hns, hrl⟩ := exd_at I1.hok ed
  obtain ⟨od, hod, hl⟩ := lookIn_ns hns
  have l : List.lookup f [(f, v)] = some v := by simp [List.lookup]
  obtain ⟨u, hu, ru⟩ := RelO.some_of (v := v) (o := mA f) (by rw [← l]; exact hrl f)
  have J : PySem.W.InstAt s1.heap a { cls := .ref C, dict := some d, data := .fields #[.ref t1, .none, .none, .none, .bool false, .none] } C (some od) := ⟨ho, rfl, rfl, hod⟩
  exact HandSPX.exc_get I1.kIn J Z.ga Z.gg Z.exC (PySem.W.findObj_own Z.hdC Z.own.no rfl (by rw [hl, hu])) (handed_of ru) ⟨v, H1, I1.tok _, ru, q⟩
/-- isinstance(e, D) -/
def rErrIs (P : Program) (K : PySem.W.Frag) (mg : Str → Option Value) : List V → Hp → VK → Prop := fun xs H Q => ∃ (a C fI : Addr) (n f : Str) (v c : V) (u : Value) (b : Bool), xs = [.ref a, c] ∧ ClsV c u ∧ ErrC P K mg n f C fI ∧ ErrAt H a C f v ∧ PySem.W.kitOne K (.ref C) u = some b ∧ Q (.bl b) H
theorem call_errIs : CallR X (.builtin "isinstance") (rErrIs X.prog X.K X.mg) := by
  intro pins s σ H xs us Q I r h
  obtain ⟨a, C, fI, n, f, v, c, u, b, rfl, k, Z, ⟨d, ea, ed⟩, e, q⟩ := h
  obtain ⟨u1, u2, rfl, r1, r2⟩ := vals2 r
  have e2 := k.eq r2
  subst e2
  obtain rfl : u1 = Value.ref a := r1
  obtain ⟨t1, ho⟩ := exo_at I.hok ea
  obtain ⟨mA, hns, hrl⟩ := exd_at I.hok ed
  obtain ⟨od, hod, hl⟩ := lookIn_ns hns
  have J : PySem.W.InstAt s.heap a { cls := .ref C, dict := some d, data := .fields #[.ref t1, .none, .none, .none, .bool false, .none] } C (some od) := ⟨ho, rfl, rfl, hod⟩
  exact PySem.W.kia_one (PySem.W.kitx_exc Z.isC Z.ga Z.gg Z.exC Z.ca Z.cg Z.ct Z.mo) I.kIn J e (fun z => by cases z) fun tk => ⟨.bl b, H, I.tok tk, rfl, q⟩
end
end L2
/-! A promise of a def that is called where no repr is under way (guards some []): what FnOk says, for such callers alone. -/
namespace L2
open PySem PySem.Spec PyProof.Rows
structure FnG (P : Program) (w : World) (K : PySem.W.Frag) (mg : Str → Option Value) (base : Heap) (k : Nat) (f : Addr) (fd : FuncData) (ps : List Str) (sp : Sp) : Prop where
  many : ∀ vs H Q E, sp vs H Q E → vs.length = ps.length
  go : ∀ (A : Around) (outer : List Env) (st : Shared) (H : Hp) (us : List Value) (vs : List V) (Q : VK) (E : XK), A.guards = some [] → Room k A → Env0 P w K mg base A outer st H → BindsTo st fd ⟨us, []⟩ (ps.zip us) → Vals vs us → sp vs H Q E →
    codeAny (model P w) A (.call (.ref f) ⟨us, []⟩) (CR CX0 outer P w H st Q E) st
theorem FnOk.g {P : Program} {w : World} {K : PySem.W.Frag} {mg : Str → Option Value} {base : Heap} {k : Nat} {f : Addr} {fd : FuncData} {ps : List Str} {sp : Sp} (F : FnOk P w K mg base CX0 k f fd ps sp) : FnG P w K mg base k f fd ps sp :=
  ⟨F.len, fun A outer st H us vs Q E _ hr e0 hb hv hs => F.run A outer st H ⟨us, []⟩ us vs Q E hr e0 hb hv hs⟩
theorem FnG.mono {P : Program} {w : World} {K : PySem.W.Frag} {mg : Str → Option Value} {base : Heap} {j k : Nat} {f : Addr} {fd : FuncData} {ps : List Str} {sp : Sp} (F : FnG P w K mg base j f fd ps sp) (h : j ≤ k) : FnG P w K mg base k f fd ps sp :=
  ⟨F.many, fun A outer st H us vs Q E hg hr => F.go A outer st H us vs Q E hg (hr.mono h)⟩
/-- the def's body, run at such a caller -/
theorem fnG_ofX {P : Program} {w : World} {K : PySem.W.Frag} {mg : Str → Option Value} {base : Heap} {x qual : Str} {stm : Stmt} {f : Addr} {fd : FuncData} {N ps : List Str} {k : Nat} {sp : Sp}
    (F : Fun K x qual stm f fd) (S : FnScope N ps (defScope stm)) (many : ∀ vs H Q E, sp vs H Q E → vs.length = ps.length)
    (body : ∀ (cdv : Value) (A : Around) (outer : List Env) (st : Shared) (H : Hp) (vs : List V) (Q : VK) (E : XK), A.guards = some [] → Room k (A.deeper (envOfC qual (defScope stm) st.heap.objs.size f cdv)) → sp vs H Q E →
      ∃ t, PSs (cxOf CX0 P w K mg base N qual (defScope stm) f cdv A outer st H E) (defBody stm) t ∧ t { nx := fun _ H' => Q .non H', rt := Q } (start N vs) H) :
    FnG P w K mg base (k + 1) f fd ps sp := by
  obtain ⟨oc, od, kV, doc, pm, an, cdv, ct, osl, rfl, look, code⟩ := F.ex
  refine ⟨many, fun A outer st H us vs Q E hg hr e0 hb hv hs => ?_⟩
  have nvs := many _ _ _ _ hs
  have Kin : K.In st.heap := e0.mod.kin.keeps fun b o e => (e0.bs b o e).1
  have lim : st.heap.NoLimit := e0.mod.nolimit.keeps fun b o e => (e0.bs b o e).1
  have kinds : ∀ y ∈ ps.zip us, (defScope stm).names.lookup y.1 = some .local ∨ ((defScope stm).names.lookup y.1 = some .cell ∧ ((cellsFrom (st.heap.objs.size + 1) (defScope stm).names []).lookup y.1).isSome = true) := by
    intro y hy
    obtain ⟨n, v⟩ := y
    rcases S.par n (List.of_mem_zip hy).1 with z | z
    · exact Or.inl z
    · exact Or.inr ⟨z, PySem.W.cellsFrom_some _ _ _ (.inl z)⟩
  refine codeAny_call_function hr.depth (Kin _ _ look) rfl S.co S.gen rfl (PySem.W.codeRec_of Kin code) (hb _ _ _ _ ?_)
  refine wpAny_newFunctionEnv_cells S.kind kinds fun env he sB xB => ?_
  subst he
  refine ⟨lim.keeps xB.toInCall.keep, codeAny_func ?_⟩
  obtain ⟨t, ht, hq⟩ := body cdv A outer st H vs Q E hg (hr.deeper _) hs
  have J0 : Inv (cxOf CX0 P w K mg base N qual (defScope stm) f cdv A outer st H E) [] (start N vs) H sB := inv_start S hr.hd e0 nvs hv xB
  refine wpAny_mono (ht.run [] sB (start N vs) H _ J0 hq) (fun fl sC hC => ?_) fun _ _ z => z
  cases fl with
  | ret u =>
    obtain ⟨v, σ2, H2, J, rv, z⟩ := hC
    exact ⟨v, H2, J.os, J.bare, J.base, J.hok, rv, z⟩
  | next =>
    obtain ⟨σ2, H2, J, z⟩ := hC
    exact ⟨V.non, H2, J.os, J.bare, J.base, J.hok, rfl, z⟩
  | brk =>
    obtain ⟨_, _, _, z⟩ := hC
    exact z.elim
  | cont =>
    obtain ⟨_, _, _, z⟩ := hC
    exact z.elim
theorem fnG_of {P : Program} {w : World} {K : PySem.W.Frag} {mg : Str → Option Value} {base : Heap} {x qual : Str} {stm : Stmt} {f : Addr} {fd : FuncData} {N ps : List Str} {k : Nat} {sp : Sp}
    (F : Fun K x qual stm f fd) (S : FnScope N ps (defScope stm)) (many : ∀ vs H Q E, sp vs H Q E → vs.length = ps.length)
    (body : ∀ (cdv : Value) (A : Around) (outer : List Env) (st : Shared) (H : Hp) (vs : List V) (Q : VK) (E : XK), A.guards = some [] → Room k (A.deeper (envOfC qual (defScope stm) st.heap.objs.size f cdv)) → sp vs H Q E →
      ∃ t, PSs (cxOf CX0 P w K mg base N qual (defScope stm) f cdv A outer st H E).nox (defBody stm) t ∧ t { nx := fun _ H' => Q .non H', rt := Q } (start N vs) H) :
    FnG P w K mg base (k + 1) f fd ps sp :=
  fnG_ofX F S many fun cdv A outer st H vs Q E hg hr hs => let ⟨t, ht, hq⟩ := body cdv A outer st H vs Q E hg hr hs; ⟨t, ht.nox, hq⟩
section
variable {X : Cx} {k : Nat} {f : Addr} {fd : FuncData} {ps : List Str} {sp : Sp} {x : Str} {p pos : Pos} {e : Expr} {es : List Expr} {t : TA}
/-- f(e, ..) of such a def, where no repr is under way -/
theorem pe_callG (F : FnG X.prog X.w X.K X.mg X.base k f fd ps sp) (gu : X.A.guards = some []) (hr : Room k X.A) (hg : Gl X x) (hm : X.mg x = some (.ref f)) (hk : PySem.W.keepIn X.K (.ref f) = true) (hb : Binds X.K fd ps [])
    (ha : PA X (e :: es) t) (hdb : (x == ("__debug__" : Str)) = false := by decide) (he : starEach (e :: es) X.env = (false, eval e X.env) :: starEach es X.env := by rfl) (hpl : (backTo pos (starEach es X.env)).any (·.1) = false := by rfl) :
    PE X (.Call (.Name x p) (e :: es) [] pos) (tCall sp [] (fun _ _ _ => False) t) := by
  refine ⟨fun pins st σ H Q I h => ?_⟩
  refine wpAny_Call_Name_kw (ld_glob I hg hm ?_ hdb)
  refine PySem.W.callWith_K (h₀ := X.base) I.ok.mod.kin hk (thn (ha.run pos pins st σ H _ I h) fun us sB hh => ?_) he hpl
  obtain ⟨vs, H1, I1, r, q⟩ := hh
  refine ⟨I1.kIn, ?_⟩
  show wpAny _ _ (call (.ref f) us) _ _ _
  have q2 : sp vs H1 Q fun _ _ _ => False := by
    have z := q
    rw [List.append_nil] at z
    exact z
  have l : us.length = ps.length := by
    rw [← r.length]
    exact F.many _ _ _ _ q2
  have bd := hb sB us I1.kIn (by rw [List.append_nil]; exact l)
  rw [List.append_nil] at bd
  refine wpAny_call (codeAny_mono (F.go X.A X.stack sB H1 us vs Q _ gu hr I1.env0 bd r q2) fun res sC hC => ?_)
  cases res with
  | error er => exact False.elim hC
  | ok fl =>
    cases fl with
    | ret u => exact I1.after hC
    | next => exact hC.elim
    | brk => exact hC.elim
    | cont => exact hC.elim
end
/-- the law's own def, called from nowhere (callerA: no repr is under way) -/
theorem law_goes {P : Program} {w : World} {K : PySem.W.Frag} {mg mb : Str → Option Value} {k : Nat} {fa a : Addr} {fd : FuncData} {x : Str} {sp : Sp} {st : Shared} {vs : List Value} {ns : List Int}
    (Kin : K.In st.heap) (gl : st.heap.Ns mainGlobals mg) (bl : st.heap.Ns builtinsNs mb) (blt : ∀ x : Str, x ≠ "__name__" → mb x = bootBuiltins x) (lim : st.heap.NoLimit) (gen : st.gens = #[])
    (scr : st.heap.get? a = some { cls := .type "list", data := .seq vs.toArray }) (isInts : IntsAre vs ns) (few : ns.length ≤ sizeLine) (hr : Room k callerA)
    (F : ∀ base : Heap, K.In base → base.Ns mainGlobals mg → FnG P w K mg base k fa fd [x] sp) (bd : ∀ (s : Shared) (u : Value), BindsTo s fd ⟨[u], []⟩ [(x, u)])
    (hsp : ∀ H : Hp, SqL K H a (ns.map V.int) → sp [.ref a] H (fun v _ => v = .bl true) fun _ _ _ => False) :
    codeAny (model P w) callerA (.call (.ref fa) ⟨[.ref a], []⟩) (fun r s' => r = .ok (.ret (.bool true)) ∧ OldK st.heap s'.heap ∧ s'.os = st.os ∧ AllBare s'.gens) st := by
  have rel := vals_ints isInts
  have cnt := isInts.length
  -- what may be tracked at the start: the script, unless the module holds it
  have main : ∀ H : Hp, Only H → SqL K H a (ns.map V.int) → HOk P w H st.heap → (∀ b, H b ≠ none → b = a) → (H a ≠ none → K.lookup a = none) →
      codeAny (model P w) callerA (.call (.ref fa) ⟨[.ref a], []⟩) (fun r s' => r = .ok (.ret (.bool true)) ∧ OldK st.heap s'.heap ∧ s'.os = st.os ∧ AllBare s'.gens) st := by
    intro H only sq ok one noK
    have under : ∀ {b : Addr} {o : Obj}, st.heap.get? b = some o → H b = none → (hidT st.heap H).get? b = some o := fun z n => hidT_get z n
    have dicts : ∀ {b : Addr} {o : Obj} {es : Array DictEntry} {ep : Nat}, st.heap.get? b = some o → o.data = .dict es ep → H b = none := by
      intro b o es ep z dz
      cases hb : H b with
      | none => rfl
      | some ho =>
        obtain rfl : b = a := one b (by rw [hb]; simp)
        rw [scr] at z
        cases z
        exact nomatch (show Data.seq vs.toArray _ = Data.dict es ep from dz)
    have spaces : ∀ {b : Addr} {m : Str → Option Value}, st.heap.Ns b m → (hidT st.heap H).Ns b m := by
      intro b m z
      obtain ⟨o, es, ep, z1, z2, z3⟩ := z
      exact ⟨o, es, ep, under z1 (dicts z1 z2), z2, z3⟩
    have KinB : K.In (hidT st.heap H) := by
      intro b o z
      refine under (Kin b o z) ?_
      cases hb : H b with
      | none => rfl
      | some ho =>
        obtain rfl : b = a := one b (by rw [hb]; simp)
        rw [noK (by rw [hb]; simp)] at z
        cases z
    have modB : Mod K mg (hidT st.heap H) := by
      obtain ⟨mc, l1, l2⟩ := lim
      exact ⟨KinB, spaces gl, ⟨mb, spaces bl, blt⟩, ⟨mc, spaces l1, l2⟩⟩
    have env : Env0 P w K mg (hidT st.heap H) callerA [] st H :=
      ⟨rfl, modB, fun b o z => of_hidT z, Nat.le_of_eq (hidT_size _ _), trivial, fun b z => absurd (show b ∈ ([] : List Addr) from z) (by simp), ok, .of_eq gen⟩
    refine codeAny_mono ((F _ KinB (spaces gl)).go callerA [] st H [.ref a] [.ref a] _ _ rfl hr env (bd st (.ref a)) (.cons rfl .nil) (hsp H sq)) fun res sC hC => ?_
    cases res with
    | error er => exact False.elim hC
    | ok fl =>
      cases fl with
      | next => exact False.elim hC
      | brk => exact False.elim hC
      | cont => exact False.elim hC
      | ret u =>
        obtain ⟨v, H2, hos, hbare, hun, hok2, rv, q⟩ := hC
        obtain rfl : v = .bl true := q
        obtain rfl : u = Value.bool true := rv
        refine ⟨rfl, OldK.of_keep ?_, hos, hbare⟩
        intro b o z
        cases hb : H b with
        | none => exact hun.keep b o z hb (fun y => absurd (show b ∈ ([] : List Addr) from y) (by simp)) (by simp)
        | some ho =>
          rcases only b with y | ⟨ob, xs, y⟩
          · rw [hb] at y
            cases y
          · obtain ⟨z1, _⟩ := ok b _ y
            obtain ⟨z2, _⟩ := hok2 b _ (hun.frzs b ob _ y)
            rw [z] at z1
            cases z1
            exact z2
  cases hk : K.lookup a with
  | some o =>
    have z := Kin a o hk
    rw [scr] at z
    cases z
    exact main (fun _ => none) (fun _ => Or.inl rfl) (Or.inr ⟨_, vs.toArray, _, hk, rfl, rfl, rfl, by rw [List.size_toArray, cnt]; exact few, by simpa using rel⟩) (fun b u z => nomatch (show (none : Option HO) = some u from z)) (fun b z => absurd rfl z) fun z => absurd rfl z
  | none =>
    have at1 : ∀ b, b = a → (fun b : Addr => if b = a then some (HO.frz { cls := .type "list", data := .seq vs.toArray } (.lst (ns.map V.int))) else none) b = some (HO.frz { cls := .type "list", data := .seq vs.toArray } (.lst (ns.map V.int))) := fun b z => if_pos z
    have at0 : ∀ b, b ≠ a → (fun b : Addr => if b = a then some (HO.frz { cls := .type "list", data := .seq vs.toArray } (.lst (ns.map V.int))) else none) b = none := fun b z => if_neg z
    refine main (fun b => if b = a then some (HO.frz { cls := .type "list", data := .seq vs.toArray } (.lst (ns.map V.int))) else none) (fun b => ?_) (Or.inl (Or.inr ⟨{ cls := .type "list", data := .seq vs.toArray }, at1 a rfl⟩)) (fun b u z => ?_) (fun b z => ?_) fun _ => hk
    · by_cases hb : b = a
      · exact Or.inr ⟨_, _, at1 b hb⟩
      · exact Or.inl (at0 b hb)
    · by_cases hb : b = a
      · have y := (at1 b hb).symm.trans z
        cases y
        subst hb
        exact ⟨scr, by rw [List.length_map]; exact few, vs, _, rel, scr⟩
      · have y := (at0 b hb).symm.trans z
        cases y
    · by_cases hb : b = a
      · exact hb
      · exact absurd (at0 b hb) z
/-- the goal that k_head leaves, from such a promise of the law -/
theorem walk_g {l : PySem.W.OpenLaw} {n k : Nat} {q : Program} {loose : List Str} {XP : (Str → Option Value) → Heap → Prop} {YP : World → Heap → Prop} {d : DefRec} {K : Params → PySem.W.Frag} {sp : PySem.W.Frag → Sp} {x : Str}
    (most : l.most = some n) (line : n ≤ sizeLine) (nodef : d.params.defaults = []) (hr : Room k callerA) (kin : ∀ (w : World) (h : Heap), YP w h → (K w.params).In h)
    (F : ∀ (w : World) (mg : Str → Option Value) (fa : Addr) (h : Heap), (K w.params).In h → h.Ns mainGlobals mg → mg d.name = some (.ref fa) →
      ∃ fd : FuncData, (∀ (s : Shared) (u : Value), BindsTo s fd ⟨[u], []⟩ [(x, u)]) ∧ ∀ base : Heap, (K w.params).In base → base.Ns mainGlobals mg → FnG l.prog w (K w.params) mg base k fa fd [x] (sp (K w.params)))
    (hsp : ∀ (K : PySem.W.Frag) (H : Hp) (a : Addr) (ns : List Int), ns.length ≤ n → SqL K H a (ns.map V.int) → sp K [.ref a] H (fun v _ => v = .bl true) fun _ _ _ => False) :
    PySem.W.WalkO q loose XP YP l.row.toRowW d [] (fun f vs => PySem.call f vs) := by
  refine Att.attach_call most nodef fun w s₀ sA mg mb fa o pm cd doc a vs ns G Y ho hd hcd hmg hobj hints hlen hg => ?_
  obtain ⟨fd, bd, FF⟩ := F w mg fa _ (kin w _ Y) G.T.g hmg
  exact law_goes (kin w _ Y) G.T.g G.T.b G.T.builtins G.T.nolimit hg hobj hints (Nat.le_trans hlen line) hr FF bd fun H hS => hsp _ H a ns hlen hS
end L2
/-! What an error may hold in this law: data without dicts, and two small dicts. -/
namespace L2
open PySem PySem.Spec PyProof.Rows
inductive Thing (K : PySem.W.Frag) (H : Hp) : V → PyData → Prop
  | flat {x : V} {d : PyData} (at_ : Dp K H x d) (sh : d.showable = true) (nd : d.hasDict = false) (ok : SeqAt.shaped d = true) (dp : d.depth ≤ 40) (len : d.shown.length ≤ sizeLine) (eq : PyData.eqv d d = true) : Thing K H x d
  | empty {a : Addr} (at_ : H a = some (.dK [])) : Thing K H (.ref a) (.dict [])
  | one {a : Addr} (at_ : H a = some (.dK [(.inr "b", .int 1)])) : Thing K H (.ref a) (.dict [(.str "b", .int 1)])
section
variable {X : Cx}
theorem thing_dict {pins : List (Addr × Obj)} {σ : St} {H : Hp} {s : Shared} {a : Addr} {kvs : List (Key × V)} {ds : List (PyData × PyData)} (I : Inv X pins σ H s) (e : H a = some (.dK kvs))
    (h : ∀ es : List DictEntry, ∀ vs, KV kvs vs → Pairs (mixKind X.prog X.w) es vs → ReadsAll s.heap (es.map (·.key)) (ds.map (·.1)) [] ∧ ReadsAll s.heap (es.map (·.val)) (ds.map (·.2)) []) :
    Reads s.heap (.ref a) (.dict ds) [a] ∧ sysModules ∉ [a] := by
  obtain ⟨_, ne, vs, rv, o, es, ep, e1, e2, e3, _, e5, _⟩ := (show ObjOk X.prog X.w H s.heap a (.dK kvs) from I.hok a _ e)
  obtain ⟨k1, k2⟩ := h es.toList vs rv e5
  refine ⟨Reads.dict e1 e2.1 e3 k1 k2, ?_⟩
  intro z
  simp only [List.mem_cons, List.not_mem_nil, or_false] at z
  rw [← z] at ne
  simp at ne
theorem thing_repr (gu : X.A.guards = some []) (hu : X.A.units + 64 < cLine) : CallR X (.builtin "repr") (fun xs H Q => ∃ x d, xs = [x] ∧ Thing X.K H x d ∧ Q (.str d.shown) H) := by
  intro pins s σ H xs us Q I r h
  obtain ⟨x, d, rfl, T, q⟩ := h
  obtain ⟨u, rfl, ru⟩ := vals1 r
  cases T with
  | flat at_ sh nd ok dp len eq =>
    obtain ⟨as, rd⟩ := Dp.reads I d x u at_ ru
    cases at_ with
    | non =>
      obtain rfl : u = .none := ru
      exact PySem.P.repr_of_none ⟨.str _, H, I.tok _, ⟨_, rfl⟩, q⟩
    | bl b =>
      obtain rfl : u = .bool b := ru
      exact PySem.P.repr_of_bool ⟨.str _, H, I.tok _, ⟨_, rfl⟩, q⟩
    | int i =>
      obtain ⟨t, rfl⟩ := (show ∃ t, u = Value.int i t from ru)
      exact PySem.P.repr_of_int (of_decide_eq_true sh) ⟨.str _, H, I.tok _, ⟨_, rfl⟩, q⟩
    | str z =>
      obtain ⟨t, rfl⟩ := (show ∃ t, u = Value.str z t from ru)
      exact PySem.P.repr_of_str ⟨.str _, H, I.tok _, ⟨_, rfl⟩, q⟩ len
    | lst _ _ =>
      obtain rfl : u = .ref _ := ru
      exact repr_of_reads' (h₀ := s.heap) rd sh (PyData.noDict_hsm nd) gu (by omega) (fun _ _ e => e) (fun h' w tk hk => ⟨.str _, H, I.kept hk, ⟨_, rfl⟩, q⟩) len
    | tup _ _ =>
      obtain rfl : u = .ref _ := ru
      exact repr_of_reads' (h₀ := s.heap) rd sh (PyData.noDict_hsm nd) gu (by omega) (fun _ _ e => e) (fun h' w tk hk => ⟨.str _, H, I.kept hk, ⟨_, rfl⟩, q⟩) len
  | empty at_ =>
    obtain rfl : u = .ref _ := ru
    obtain ⟨rd, no⟩ := thing_dict (ds := []) I at_ fun es vs r1 r2 => by
      cases r1
      cases r2
      exact ⟨.nil, .nil⟩
    exact repr_of_reads' (h₀ := s.heap) rd (by decide +kernel) (fun _ => no) gu (by have z : PyData.depth (.dict []) ≤ 40 := (by decide +kernel); omega) (fun _ _ e => e) (fun h' w tk hk => ⟨.str _, H, I.kept hk, ⟨_, rfl⟩, q⟩) (by decide +kernel)
  | one at_ =>
    obtain rfl : u = .ref _ := ru
    obtain ⟨rd, no⟩ := thing_dict (ds := [(.str "b", .int 1)]) I at_ fun es vs r1 r2 => by
      cases r1 with
      | @cons p kv _ _ h t =>
        cases t
        obtain ⟨k, v⟩ := kv
        obtain ⟨e1, t1, e2⟩ := h
        have e1' : Sum.inr ("b" : Str) = k := e1
        have e2' : v = Value.int 1 t1 := e2
        subst e1' e2'
        cases r2 with
        | @cons e _ _ _ hk hv hr =>
          cases hr
          obtain ⟨t2, e3⟩ := Value.isStrOf_shape (x := "b") (v := e.key) hk
          have e4 : e.val = Value.int 1 t1 := hv
          refine ⟨?_, ?_⟩
          · show ReadsAll _ [e.key] [.str "b"] []
            rw [e3]
            exact .cons (Reads.str _ _) .nil
          · show ReadsAll _ [e.val] [.int 1] []
            rw [e4]
            exact .cons (Reads.int _ _) .nil
    exact repr_of_reads' (h₀ := s.heap) rd (by decide +kernel) (fun _ => no) gu (by have z : PyData.depth (.dict [(.str "b", .int 1)]) ≤ 40 := (by decide +kernel); omega) (fun _ _ e => e) (fun h' w tk hk => ⟨.str _, H, I.kept hk, ⟨_, rfl⟩, q⟩) (by decide +kernel)
theorem thing_eq (hu : X.A.units + 64 < cLine) : OpR X (compareOp .Eq) (fun x y H Q => ∃ d, x = y ∧ Thing X.K H x d ∧ Q (.bl true) H) := by
  intro pins s σ H x y v u Q I rx ry h
  obtain ⟨d, rfl, T, q⟩ := h
  cases T with
  | flat at_ sh nd ok dp len eq =>
    exact op_eqD hu pins s σ H x x v u Q I rx ry ⟨d, d, at_, at_, ok, ok, by rw [eq]; exact q⟩
  | empty at_ => exact op_eq_dict (by omega) pins s σ H _ _ v u Q I rx ry ⟨_, _, [], rfl, rfl, at_, at_, by simp, by simp, q⟩
  | one at_ => exact op_eq_dict (by omega) pins s σ H _ _ v u Q I rx ry ⟨_, _, [(.inr "b", .int 1)], rfl, rfl, at_, at_, by simp, by simp [flatB], q⟩
end
end L2
/-! The thirteen errors, and the first two defs that look at one of them. -/
namespace Err
open PySem PySem.Spec PyProof.Rows L2
def topS (i : Nat) : Stmt := PySem.Challenge.pw_shellways_k04_error_types.main.body.getD i (.Pass ⟨0, 0, 0, 0⟩)
def nmOf : List Str := ["InvalidProgram", "InvalidText", "InvalidRow", "InvalidName", "InvalidPath", "InvalidNumber", "InvalidMachine", "InvalidPaper", "InvalidChances", "InvalidLog", "Mismatch", "Ended", "TooLarge"]
def fdOf : List Str := ["path", "place", "index", "name", "path", "name", "index", "index", "name", "index", "name", "status", "limit"]
structure Errs (P : Program) (K : PySem.W.Frag) (mg : Str → Option Value) (C FI : Nat → Addr) (S : Addr) : Prop where
  err : ∀ i, i < 13 → ErrC P K mg (nmOf.getD i "") (fdOf.getD i "") (C i) (FI i)
  kit : ∀ i j, i < 13 → j < 13 → PySem.W.kitOne K (.ref (C i)) (.ref (C j)) = some (decide (i = j))
  kS : ∀ i, i < 13 → PySem.W.kitOne K (.ref (C i)) (.ref S) = some true
  kV : ∀ i, i < 13 → PySem.W.kitOne K (.ref (C i)) (.type "ValueError") = some true
  gS : mg "ShellError" = some (.ref S)
  mi : mg "isinstance" = none
  me : mg "enumerate" = none
  ma : mg "all" = none
  mr : mg "repr" = none
  mv : mg "ValueError" = none
theorem if_yes {c : Bool} {A B : Prop} (hc : c = true) (h : A) : if c = true then A else B := by
  rw [if_pos hc]
  exact h
theorem if_no {c : Bool} {A B : Prop} (hc : c = false) (h : B) : if c = true then A else B := by
  rw [hc, if_neg Bool.false_ne_true]
  exact h
theorem errExt {H H' : Hp} {e C : Addr} {f : Str} {v : V} (h : ErrAt H e C f v) (x : Ext H H') : ErrAt H' e C f v := by
  obtain ⟨d, h1, h2⟩ := h
  exact ⟨d, x _ _ h1, x _ _ h2⟩
section
variable {P : Program} {w : World} {K : PySem.W.Frag} {mg : Str → Option Value} {base : Heap} {C FI : Nat → Addr} {S : Addr}
/-- isinstance(_law_one, c) -/
abbrev tIs (P : Program) (K : PySem.W.Frag) (mg : Str → Option Value) (c : V) : TE := tCB (rErrIs P K mg) (tCons (tVar 0) (tCons (tC c) tNil))
theorem is_ok (T : Errs P K mg C FI S) {i j : Nat} (hi : i < 13) (hj : j < 13) {σ : L2.St} {H : Hp} {e : Addr} {v : V} {Q : VK} (s0 : σ[0]? = some (some (.ref e))) (a : ErrAt H e (C i) (fdOf.getD i "") v) (q : Q (.bl (decide (i = j))) H) :
    tIs P K mg (.ref (C j)) σ H Q := by
  show ∃ x, σ[0]? = some (some x) ∧ rErrIs P K mg [x, .ref (C j)] H Q
  exact ⟨_, s0, e, C i, FI i, _, _, v, _, _, _, rfl, .own _, T.err i hi, a, T.kit i j hi hj, q⟩
def spPlaces (C : Nat → Addr) : Sp := fun vs H Q _ => ∃ (e : Addr) (i : Nat) (v : V), vs = [.ref e] ∧ i < 13 ∧ ErrAt H e (C i) (fdOf.getD i "") v ∧ ∀ H' p, Ext H H' → H p = none → H' p = some (.lst [.int (i : Nat)]) → Q (.ref p) H'
abbrev sPlaces : Stmt := topS 19
abbrev NP : List Str := ["_law_one", "_law_good", "_law_at", "_law_fit"]
theorem scP : FnScope NP ["_law_one"] (defScope sPlaces) := ⟨rfl, rfl, rfl, by decide +kernel, rfl, by decide +kernel, by decide +kernel⟩
/-- which of the thirteen -/
def bits (i : Nat) : List V := (List.range 13).map fun j => V.bl (decide (i = j))
def tPlaces (P : Program) (K : PySem.W.Frag) (mg : Str → Option Value) (C : Nat → Addr) : TS :=
  let t3 := fun a b c => tLst (tCons (tIs P K mg (.ref (C a))) (tCons (tIs P K mg (.ref (C b))) (tCons (tIs P K mg (.ref (C c))) tNil)))
  tSeq (tAsg (t3 0 1 2) (gName 1))
  (tSeq (tAsg (tOp rCat (tVar 1) (t3 3 4 5)) (gName 1))
  (tSeq (tAsg (tOp rCat (tVar 1) (t3 6 7 8)) (gName 1))
  (tSeq (tAsg (tOp rCat (tVar 1) (t3 9 10 11)) (gName 1))
  (tSeq (tDrop (tBM K "list" rAppend (tVar 1) (tCons (tIs P K mg (.ref (C 12))) tNil)))
  (tRet (tLc (iEnum K (tCons (tVar 1) tNil)) (gTup K 2 (gCons (gName 2) (gCons (gName 3) gNil))) (tB (tVar 3)) (tVar 2) [2, 3]))))))
theorem pe_is {X : Cx} {p1 p2 p3 p4 : Pos} {x : Str} (T : Errs X.prog X.K X.mg C FI S) (j : Nat) (hj : j < 13) (hx : x = nmOf.getD j "") (hN : X.N[0]? = some ("_law_one" : Str)) (hv : Vis X.env.scope "_law_one") (hg : Gl X "isinstance") (hgx : Gl X x) (hdx : (x == ("__debug__" : Str)) = false)
    (h1 : starEach [.Name "_law_one" p2, .Name x p3] X.env = (false, eval (.Name "_law_one" p2) X.env) :: starEach [.Name x p3] X.env := by rfl) (h2 : (backTo p4 (starEach [.Name x p3] X.env)).any (·.1) = false := by rfl) :
    PE X (.Call (.Name "isinstance" p1) [.Name "_law_one" p2, .Name x p3] [] p4) (tIs X.prog X.K X.mg (.ref (C j))) := by
  subst hx
  exact pe_callB call_errIs hg T.mi boot_isinstance (pa_cons (pe_var (i := 0) hN hv) (pa_cons (pe_glob (v := .ref (C j)) (u := .ref (C j)) hgx (T.err j hj).gC rfl hdx) pa_nil))
theorem body_places (T : Errs P K mg C FI S) (f : Addr) (cdv : Value) (A : Around) (outer : List Env) (st : Shared) (H : Hp) (E : XK) (hr : Room 0 (A.deeper (envOfC "_law_places" (defScope sPlaces) st.heap.objs.size f cdv))) :
    PSs (cxOf CX0 P w K mg base NP "_law_places" (defScope sPlaces) f cdv A outer st H E).nox (defBody sPlaces) (tPlaces P K mg C) := by
  unfold tPlaces
  dsimp only
  refine pss_cons (ps_set (i := 1) scP.nd rfl (.inl rfl) ?l0) ?_
  case l0 => exact (pe_lst (pa_cons (pe_is T 0 (by decide) rfl rfl (Or.inl rfl) rfl rfl (by decide)) (pa_cons (pe_is T 1 (by decide) rfl rfl (Or.inl rfl) rfl rfl (by decide)) (pa_cons (pe_is T 2 (by decide) rfl rfl (Or.inl rfl) rfl rfl (by decide)) pa_nil))))
  refine pss_cons (ps_set (i := 1) scP.nd rfl (.inl rfl) (pe_op op_cat (pv 1) ?l1)) ?_
  case l1 => exact (pe_lst (pa_cons (pe_is T 3 (by decide) rfl rfl (Or.inl rfl) rfl rfl (by decide)) (pa_cons (pe_is T 4 (by decide) rfl rfl (Or.inl rfl) rfl rfl (by decide)) (pa_cons (pe_is T 5 (by decide) rfl rfl (Or.inl rfl) rfl rfl (by decide)) pa_nil))))
  refine pss_cons (ps_set (i := 1) scP.nd rfl (.inl rfl) (pe_op op_cat (pv 1) ?l2)) ?_
  case l2 => exact (pe_lst (pa_cons (pe_is T 6 (by decide) rfl rfl (Or.inl rfl) rfl rfl (by decide)) (pa_cons (pe_is T 7 (by decide) rfl rfl (Or.inl rfl) rfl rfl (by decide)) (pa_cons (pe_is T 8 (by decide) rfl rfl (Or.inl rfl) rfl rfl (by decide)) pa_nil))))
  refine pss_cons (ps_set (i := 1) scP.nd rfl (.inl rfl) (pe_op op_cat (pv 1) ?l3)) ?_
  case l3 => exact (pe_lst (pa_cons (pe_is T 9 (by decide) rfl rfl (Or.inl rfl) rfl rfl (by decide)) (pa_cons (pe_is T 10 (by decide) rfl rfl (Or.inl rfl) rfl rfl (by decide)) (pa_cons (pe_is T 11 (by decide) rfl rfl (Or.inl rfl) rfl rfl (by decide)) pa_nil))))
  refine pss_cons (ps_expr ?x) ?_
  case x => exact pe_bm PySem.F.plainAttrs_list PySem.F.slot_list_append PySem.F.type_list_append mt_append (pv 1) (pa_cons (pe_is T 12 (by decide) rfl rfl (Or.inl rfl) rfl rfl (by decide)) pa_nil)
  refine pss_one (ps_ret ?r)
  exact pe_lc (own := [("_law_at", 2), ("_law_fit", 3)]) rfl scP.nd (pi_enum rfl T.me (pa_cons (pv 1) pa_nil)) (blkOk_by (N := NP) (sc := defScope sPlaces) (by decide +kernel))
      (fun _ _ _ _ _ => pg_tup rfl (pgs_cons (pg_name (i := 2) scP.nd rfl (.inl rfl)) (pgs_cons (pg_name (i := 3) scP.nd rfl (.inl rfl)) pgs_nil)))
      (fun _ _ _ _ _ => pts_one (pt_val (pv 3))) (fun _ _ _ _ _ => pv 2)
theorem cat3 (T : Errs P K mg C FI S) {i a b c : Nat} (hi : i < 13) (ha : a < 13) (hb : b < 13) (hc : c < 13) {σ : L2.St} {G : Hp} {e l : Addr} {v : V} {xs : List V} {D : Ends} (s0 : σ[0]? = some (some (.ref e))) (s1 : σ[1]? = some (some (.ref l)))
    (at_ : ErrAt G e (C i) (fdOf.getD i "") v) (hl : G l = some (.lst xs)) (small : xs.length ≤ 100)
    (k : ∀ p G', Ext G G' → G p = none → G' p = some (.lst (xs ++ [.bl (decide (i = a)), .bl (decide (i = b)), .bl (decide (i = c))])) → D.nx (σ.set 1 (some (.ref p))) G') :
    tAsg (tOp rCat (tVar 1) (tLst (tCons (tIs P K mg (.ref (C a))) (tCons (tIs P K mg (.ref (C b))) (tCons (tIs P K mg (.ref (C c))) tNil))))) (gName 1) D σ G := by
  refine ⟨_, s1, is_ok T hi ha s0 at_ (is_ok T hi hb s0 at_ (is_ok T hi hc s0 at_ ⟨(show 3 ≤ sizeLine by rw [sizeLine_eq]; decide), fun q nq => ?_⟩))⟩
  have lq : l ≠ q := ne_of_none hl nq
  refine ⟨l, q, xs, _, rfl, rfl, ?_, upd_same, ?_, fun p np => ?_⟩
  · rw [upd_ne lq]; exact hl
  · rw [sizeLine_eq]
    show xs.length + 3 ≤ 16777216
    omega
  · have pq : p ≠ q := fun z => by rw [z, upd_same] at np; cases np
    have gp : G p = none := by rw [upd_ne pq] at np; exact np
    exact k p _ ((Ext.upd nq).trans (Ext.upd np)) gp upd_same
theorem pure_places (T : Errs P K mg C FI S) (vs : List V) (H : Hp) (Q : VK) (E : XK) (h : spPlaces C vs H Q E) : tPlaces P K mg C { nx := fun _ H' => Q .non H', rt := Q } (start NP vs) H := by
  obtain ⟨e, i, v, rfl, hi, a, k⟩ := h
  refine is_ok T hi (j := 0) (by decide) rfl a (is_ok T hi (j := 1) (by decide) rfl a (is_ok T hi (j := 2) (by decide) rfl a ⟨(show 3 ≤ sizeLine by rw [sizeLine_eq]; decide), fun p1 n1 => ?_⟩))
  refine cat3 T hi (by decide) (by decide) (by decide) (l := p1) rfl rfl (errExt a (Ext.upd n1)) upd_same (show 3 ≤ 100 by decide) fun p2 G2 x2 n2 l2 => ?_
  have y2 : Ext H G2 := (Ext.upd n1).trans x2
  refine cat3 T hi (by decide) (by decide) (by decide) (l := p2) rfl rfl (errExt a y2) l2 (show 6 ≤ 100 by decide) fun p3 G3 x3 n3 l3 => ?_
  have y3 : Ext H G3 := y2.trans x3
  refine cat3 T hi (by decide) (by decide) (by decide) (l := p3) rfl rfl (errExt a y3) l3 (show 9 ≤ 100 by decide) fun p4 G4 x4 n4 l4 => ?_
  have y4 : Ext H G4 := y3.trans x4
  have h4 : H p4 = none := by
    cases z : H p4 with
    | none => rfl
    | some o => rw [y3 _ _ z] at n4; cases n4
  refine ⟨_, rfl, Or.inl ⟨rfl, _, Or.inl (Or.inl l4)⟩, is_ok T hi (j := 12) (by decide) rfl (errExt a y4) ⟨p4, _, _, rfl, rfl, l4, (show 12 < sizeLine by rw [sizeLine_eq]; decide), ?_⟩⟩
  have y5 : Ext H (upd G4 p4 (.lst (bits i))) := fun b o z => by
    rw [upd_ne (ne_of_none z h4)]
    exact y4 b o z
  show tLc (iEnum K (tCons (tVar 1) tNil)) (gTup K 2 (gCons (gName 2) (gCons (gName 3) gNil))) (tB (tVar 3)) (tVar 2) [2, 3] [some (.ref e), some (.ref p4), none, none] (upd G4 p4 (.lst (bits i))) Q
  refine ⟨_, rfl, p4, bits i, rfl, Or.inl (Or.inl upd_same), fun D nD => ?_⟩
  have Dp : D ≠ p4 := fun z => by rw [z, upd_same] at nD; cases nD
  have hD : H D = none := by
    cases z : H D with
    | none => rfl
    | some o => rw [y5 _ _ z] at nD; cases nD
  have len : (bits i).length = 13 := by unfold bits; simp
  have bit : ∀ n, n < 13 → (bits i)[n]? = some (.bl (decide (i = n))) := fun n hn => by
    unfold bits
    rw [List.getElem?_map, List.getElem?_range hn]
    rfl
  refine lc_it (walk_enum (K := K) (a := p4) (xs := bits i)) (fun n G => Ext H G ∧ G p4 = some (.lst (bits i)) ∧ G D = some (.lst (if i < n then [.int (i : Nat)] else []))) ?_ ?_ ?_ ?_
  · refine ⟨fun b o z => ?_, ?_, ?_⟩
    · rw [upd_ne (ne_of_none z hD)]
      exact y5 b o z
    · rw [upd_ne (Ne.symm Dp)]
      exact upd_same
    · rw [upd_same, if_neg (Nat.not_lt_zero _)]
  · intro n G _ g
    exact Or.inl (Or.inl g.2.1)
  · rintro n x G G' hn ⟨g1, g2, g3⟩ ⟨Tp, x1, x2, rfl, nT, rfl, e1, e2⟩
    rw [len] at hn
    obtain rfl : V.int (n : Nat) = x1 := Option.some.inj e1
    obtain rfl : V.bl (decide (i = n)) = x2 := Option.some.inj ((bit n hn).symm.trans e2)
    have TD : D ≠ Tp := ne_of_none g3 nT
    have Tp4 : p4 ≠ Tp := ne_of_none g2 nT
    have gx : Ext H (upd G Tp (.tup [.int (n : Nat), .bl (decide (i = n))])) := g1.trans (Ext.upd nT)
    refine ⟨Tp, _, rfl, Or.inl (Or.inl upd_same), rfl, _, _, rfl, _, _, rfl, ⟨rfl, rfl, _, rfl, _, rfl, ?_⟩⟩
    by_cases hin : i = n
    · subst hin
      refine if_yes (by simp) ?_
      refine ⟨_, rfl, [], ?_, (show 0 < sizeLine by rw [sizeLine_eq]; decide), fun b o z => ?_, ?_, ?_⟩
      · rw [upd_ne TD, g3, if_neg (Nat.lt_irrefl _)]
      · rw [upd_ne (ne_of_none z hD)]
        exact gx b o z
      · rw [upd_ne (Ne.symm Dp), upd_ne Tp4]
        exact g2
      · rw [upd_same, if_pos (Nat.lt_succ_self _)]
        rfl
    · refine if_no (by simpa using hin) ?_
      refine ⟨gx, ?_, ?_⟩
      · rw [upd_ne Tp4]; exact g2
      · rw [upd_ne TD, g3]
        by_cases lt : i < n
        · rw [if_pos lt, if_pos (Nat.lt_succ_of_lt lt)]
        · rw [if_neg lt, if_neg (by omega)]
  · intro G g
    rw [len] at g
    refine k G D g.1 hD ?_
    rw [g.2.2, if_pos hi]
theorem ok_places {f : Addr} {fd : FuncData} (F : Fun K "_law_places" "_law_places" sPlaces f fd) (T : Errs P K mg C FI S) : FnOk P w K mg base CX0 1 f fd ["_law_one"] (spPlaces C) := by
  refine F.ok scP (fun vs H Q E h => ?_) (fun cdv A outer s H vs Q E hr h => ⟨tPlaces P K mg C, body_places T f cdv A outer s H E hr, pure_places T vs H Q E h⟩)
  obtain ⟨_, _, _, rfl, _⟩ := h
  rfl
end
end Err
namespace Err
open PySem PySem.Spec PyProof.Rows L2
section
variable {P : Program} {w : World} {K : PySem.W.Frag} {mg : Str → Option Value} {base : Heap} {C FI : Nat → Addr} {S fP : Addr} {fdP : FuncData}
theorem sqExt {K : PySem.W.Frag} {H H' : Hp} {a : Addr} {xs : List V} (h : SqL K H a xs) (x : Ext H H') : SqL K H' a xs := by
  rcases h with (h | ⟨o, h⟩) | h
  · exact Or.inl (Or.inl (x _ _ h))
  · exact Or.inl (Or.inr ⟨o, x _ _ h⟩)
  · exact Or.inr h
def spStores (K : PySem.W.Frag) (C : Nat → Addr) : Sp := fun vs H Q _ => ∃ (e : Addr) (i : Nat) (v x : V) (d : PyData), vs = [.ref e, .int (i : Nat), x, x] ∧ i < 13 ∧ ErrAt H e (C i) (fdOf.getD i "") v ∧ (∀ H', Ext H H' → Thing K H' x d) ∧ ∀ H', Ext H H' → Q (.bl true) H'
abbrev sStores : Stmt := topS 20
abbrev NS : List Str := ["_law_one", "_law_at", "_law_stored", "_law_thing"]
theorem scS : FnScope NS NS (defScope sStores) := ⟨rfl, rfl, rfl, by decide +kernel, rfl, by decide +kernel, by decide +kernel⟩
def rRep (K : PySem.W.Frag) : List V → Hp → VK → Prop := fun xs H Q => ∃ x d, xs = [x] ∧ Thing K H x d ∧ Q (.str d.shown) H
def rSame (K : PySem.W.Frag) : R2 := fun x y H Q => ∃ d, x = y ∧ Thing K H x d ∧ Q (.bl true) H
def tStores (P : Program) (K : PySem.W.Frag) (mg : Str → Option Value) (C : Nat → Addr) (S : Addr) : TS :=
  tSeq (tIfS (tOr (tTest (tOp (rNeD K) (tCall (spPlaces C) [] (fun _ _ _ => False) (tCons (tVar 0) tNil)) (tLst (tCons (tVar 1) tNil)))) (tOr (tNot (tB (tIs P K mg (.ref S)))) (tNot (tB (tIs P K mg (.ty "ValueError")))))) (tRet (tC (.bl false))) tNext)
    (tRet (tAndV (tOp rEq (tCB (rRep K) (tCons (tVar 2) tNil)) (tCB (rRep K) (tCons (tVar 3) tNil))) (tOp (rSame K) (tVar 2) (tVar 3))))
theorem body_stores (T : Errs P K mg C FI S) (FP : FnOk P w K mg base CX0 1 fP fdP ["_law_one"] (spPlaces C)) (gP : mg "_law_places" = some (.ref fP)) (kP : PySem.W.keepIn K (.ref fP) = true) (bP : Binds K fdP ["_law_one"] [])
    (f : Addr) (cdv : Value) (A : Around) (outer : List Env) (st : Shared) (H : Hp) (E : XK) (gu : A.guards = some []) (hr : Room 1 (A.deeper (envOfC "_law_stores" (defScope sStores) st.heap.objs.size f cdv))) :
    PSs (cxOf CX0 P w K mg base NS "_law_stores" (defScope sStores) f cdv A outer st H E).nox (defBody sStores) (tStores P K mg C S) := by
  unfold tStores
  have hu : (cxOf CX0 P w K mg base NS "_law_stores" (defScope sStores) f cdv A outer st H E).nox.A.units + 64 < cLine := hr.units
  have hgu : (cxOf CX0 P w K mg base NS "_law_stores" (defScope sStores) f cdv A outer st H E).nox.A.guards = some [] := gu
  refine pss_cons (ps_if (PW.pt ?test) (pss_one (ps_ret pe_bl)) pss_nil) (pss_one (ps_ret (pe_and ?a (pe_one ?b))))
  case test =>
    refine pw_or (pt_cmpR (op_neD hu) (pe_call FP hr rfl gP kP bP .nil pass0 (pa_cons (pv 0) pa_nil)) (pe_lst (pa_cons (pv 1) pa_nil)) rfl) (pw_or (pt_not (pt_val ?i1)) (pw_or1 (pt_not (pt_val ?i2))))
    case i1 => exact pe_callB call_errIs rfl T.mi boot_isinstance (pa_cons (pv 0) (pa_cons (pe_glob rfl T.gS rfl) pa_nil))
    case i2 => exact pe_callB call_errIs rfl T.mi boot_isinstance (pa_cons (pv 0) (pa_cons (pe_bltn rfl T.mv (by decide +kernel) rfl) pa_nil))
  case a => exact pe_cmpR op_eq (pe_callB (thing_repr hgu hu) rfl T.mr boot_repr (pa_cons (pv 2) pa_nil)) (pe_callB (thing_repr hgu hu) rfl T.mr boot_repr (pa_cons (pv 3) pa_nil)) rfl
  case b => exact pe_cmpR (thing_eq hu) (pv 2) (pv 3) rfl
theorem pure_stores (T : Errs P K mg C FI S) (vs : List V) (H : Hp) (Q : VK) (E : XK) (h : spStores K C vs H Q E) : tStores P K mg C S { nx := fun _ H' => Q .non H', rt := Q } (start NS vs) H := by
  obtain ⟨e, i, v, x, d, rfl, hi, a, th, k⟩ := h
  refine ⟨_, rfl, e, i, v, rfl, hi, a, fun G p ext np hp => ?_⟩
  refine ⟨_, rfl, (show 1 ≤ sizeLine by rw [sizeLine_eq]; decide), fun q nq => ?_⟩
  have e2 : Ext H (upd G q (.lst [.int (i : Nat)])) := ext.trans (Ext.upd nq)
  have pq : p ≠ q := ne_of_none hp nq
  refine ⟨.list [.int (i : Nat)], .list [.int (i : Nat)], .lst (Or.inl (Or.inl (by rw [upd_ne pq]; exact hp))) (.cons (.int _) .nil), .lst (Or.inl (Or.inl upd_same)) (.cons (.int _) .nil), rfl, rfl, ?_⟩
  have eqv : PyData.eqv (.list [.int (i : Nat)]) (.list [.int (i : Nat)]) = true := PySem.SeqAt.eqv_refl_plain _ rfl
  refine ⟨_, rfl, ?_⟩
  rw [eqv]
  refine if_no rfl ?_
  refine ⟨_, rfl, e, C i, FI i, _, _, v, _, _, _, rfl, .own _, T.err i hi, errExt a e2, T.kS i hi, ?_⟩
  refine ⟨_, rfl, if_no rfl ?_⟩
  refine ⟨_, rfl, e, C i, FI i, _, _, v, _, _, _, rfl, .ty _, T.err i hi, errExt a e2, T.kV i hi, ?_⟩
  refine ⟨_, rfl, if_no rfl ?_⟩
  have t2 := th _ e2
  refine ⟨_, rfl, x, d, rfl, t2, ?_⟩
  refine ⟨_, rfl, x, d, rfl, t2, ?_⟩
  refine ⟨rfl, _, rfl, if_yes (by simp) ?_⟩
  exact ⟨_, rfl, _, rfl, d, rfl, t2, k _ e2⟩
theorem ok_stores {f : Addr} {fd : FuncData} (F : Fun K "_law_stores" "_law_stores" sStores f fd) (T : Errs P K mg C FI S) (FP : FnOk P w K mg base CX0 1 fP fdP ["_law_one"] (spPlaces C)) (gP : mg "_law_places" = some (.ref fP)) (kP : PySem.W.keepIn K (.ref fP) = true) (bP : Binds K fdP ["_law_one"] []) :
    FnG P w K mg base 2 f fd NS (spStores K C) := by
  refine fnG_of F scS (fun vs H Q E h => ?_) (fun cdv A outer s H vs Q E gu hr h => ⟨tStores P K mg C S, body_stores T FP gP kP bP f cdv A outer s H E gu hr, pure_stores T vs H Q E h⟩)
  obtain ⟨_, _, _, _, _, rfl, _⟩ := h
  rfl
end
end Err
namespace Err
open PySem PySem.Spec PyProof.Rows L2 PySem.ErrKw
def iSc : Scope := { kind := .function, names := [(".0", .local), ("_law_one", .local), ("_law_stores", .globalImplicit), ("_law_thing", .free)], isGenerator := false, isCoroutine := false, more := [] }
section
variable {P : Program} {w : World} {K : PySem.W.Frag} {mg : Str → Option Value} {base : Heap} {C FI : Nat → Addr} {S fS : Addr} {fdS : FuncData}
abbrev tStore (P : Program) (K : PySem.W.Frag) (mg : Str → Option Value) (C : Nat → Addr) (io i : Nat) (fld : Str) : TE :=
  tCall (spStores K C) [] (fun _ _ _ => False) (tCons (tVar io) (tCons (tC (.int (i : Nat))) (tCons (tErrF P K mg fld (tVar io)) (tCons (tVar 0) tNil))))
abbrev tAllOf (P : Program) (K : PySem.W.Frag) (mg : Str → Option Value) (C : Nat → Addr) (io i : Nat) (fld : Str) (te : TE) : TE :=
  tCB (rAll K) (tCons (tLc (iList K te) (gName io) tYes (tStore P K mg C io i fld) [io]) tNil)
theorem pe_allOf {X : Cx} {io i : Nat} {fld : Str} {iter : Expr} {te : TE} {p1 p2 p3 p4 p5 p6 p7 p8 p9 p10 p11 : Pos} {kk : Nat} (T : Errs X.prog X.K X.mg C FI S) (FS : FnG X.prog X.w X.K X.mg X.base 2 fS fdS NS (spStores X.K C)) (gS : X.mg "_law_stores" = some (.ref fS)) (kS : PySem.W.keepIn X.K (.ref fS) = true)
    (bS : Binds X.K fdS NS []) (gu : X.A.guards = some []) (hr : Room 2 X.A) (hc : X.calm = true) (hN : X.N.Nodup) (ok : BlkOk X.N X.env.scope iSc [("_law_one", io)]) (h0 : X.N[0]? = some ("_law_thing" : Str)) (ho : X.N[io]? = some ("_law_one" : Str)) (hg : Gl X "all") (vt : ∀ cl CC, Vis (compEnvC iSc cl CC X.env).scope "_law_thing") (hi : PE X iter te)
    (hs : ∀ x, foldedSetIterable iter X.env x = pure x)
    (h1 : starEach [.ListComp (.Call (.Name "_law_stores" p2) [.Name "_law_one" p3, .Constant (.int (i : Nat)) kk p4, .Attribute (.Name "_law_one" p5) fld p6, .Name "_law_thing" p7] [] p8) [⟨.Name "_law_one" p9, iter, [], 0⟩] iSc p10] X.env = (false, eval (.ListComp (.Call (.Name "_law_stores" p2) [.Name "_law_one" p3, .Constant (.int (i : Nat)) kk p4, .Attribute (.Name "_law_one" p5) fld p6, .Name "_law_thing" p7] [] p8) [⟨.Name "_law_one" p9, iter, [], 0⟩] iSc p10) X.env) :: starEach [] X.env := by rfl)
    (h2 : (backTo p11 (starEach [] X.env)).any (·.1) = false := by rfl) :
    PE X (.Call (.Name "all" p1) [.ListComp (.Call (.Name "_law_stores" p2) [.Name "_law_one" p3, .Constant (.int (i : Nat)) kk p4, .Attribute (.Name "_law_one" p5) fld p6, .Name "_law_thing" p7] [] p8) [⟨.Name "_law_one" p9, iter, [], 0⟩] iSc p10] [] p11) (tAllOf X.prog X.K X.mg C io i fld te) := by
  refine pe_callB (cr_all hc) hg T.ma boot_all (pa_cons (pe_lc (own := [("_law_one", io)]) (g := gName io) (tt := tYes) hc hN (pi_list hi) ok (fun _ _ _ _ _ => pg_name (i := io) hN ho (Or.inl rfl)) (fun _ _ _ _ _ => pts_nil) ?_ hs) pa_nil)
  intro s H CC cl fp
  exact pe_callG FS gu hr rfl gS kS bS (pa_cons (pe_var (i := io) ho (Or.inl rfl)) (pa_cons pe_int (pa_cons (pe_errF (pe_var (i := io) ho (Or.inl rfl))) (pa_cons (pe_var (i := 0) h0 (vt cl CC)) pa_nil))))
abbrev tPair (C : Nat → Addr) (i : Nat) : TE := tLst (tCons (tErr (C i) (fdOf.getD i "") (tVar 0)) (tCons (tErr (C i) (fdOf.getD i "") (tVar 0)) tNil))
theorem pe_pair {X : Cx} {i : Nat} {x fld : Str} {q1 q2 q3 q4 q5 q6 q7 q8 : Pos} (T : Errs X.prog X.K X.mg C FI S) (hi : i < 13) (hx : x = nmOf.getD i "") (hf : fld = fdOf.getD i "") (B : Giv fld) (hr : Room 1 X.A) (h0 : X.N[0]? = some ("_law_thing" : Str)) (v0 : Vis X.env.scope "_law_thing") (hg : Gl X x)
    (hd : (x == ("__debug__" : Str)) = false) (h1 : starEach [.Call (.Name x q1) [.Name "_law_thing" q2] [] q3, .Call (.Name x q4) [] [⟨some fld, .Name "_law_thing" q5, q6⟩] q7] X.env = (false, eval (.Call (.Name x q1) [.Name "_law_thing" q2] [] q3) X.env) :: starEach [.Call (.Name x q4) [] [⟨some fld, .Name "_law_thing" q5, q6⟩] q7] X.env := by rfl)
    (h2 : starEach [.Call (.Name x q4) [] [⟨some fld, .Name "_law_thing" q5, q6⟩] q7] X.env = (false, eval (.Call (.Name x q4) [] [⟨some fld, .Name "_law_thing" q5, q6⟩] q7) X.env) :: starEach [] X.env := by rfl) :
    PE X (.List [.Call (.Name x q1) [.Name "_law_thing" q2] [] q3, .Call (.Name x q4) [] [⟨some fld, .Name "_law_thing" q5, q6⟩] q7] q8) (tPair C i) := by
  subst hx
  subst hf
  exact pe_lst (pa_cons (pe_err (T.err i hi) B hr (pe_var (i := 0) h0 v0) hg hd) (pa_cons (pe_errK (T.err i hi) B hr (pe_var (i := 0) h0 v0) hg hd) pa_nil))
theorem pair_ok {i : Nat} {σ : L2.St} {H : Hp} {x : V} {Q : VK} (s0 : σ[0]? = some (some x))
    (k : ∀ L G e1 e2, Ext H G → H L = none → G L = some (.lst [.ref e1, .ref e2]) → ErrAt G e1 (C i) (fdOf.getD i "") x → ErrAt G e2 (C i) (fdOf.getD i "") x → Q (.ref L) G) : tPair C i σ H Q := by
  refine ⟨x, s0, fun e1 d1 n1 m1 ne1 => ⟨x, s0, fun e2 d2 n2 m2 ne2 => ⟨(show 2 ≤ sizeLine by rw [sizeLine_eq]; decide), fun L nL => ?_⟩⟩⟩
  have new : ∀ {G : Hp} {e d : Addr} {v : V}, G e = none → G d = none → d ≠ e → Ext G (upd (upd G d (exd d [(fdOf.getD i "", v)])) e (exo e (C i) (some d))) ∧ ErrAt (upd (upd G d (exd d [(fdOf.getD i "", v)])) e (exo e (C i) (some d))) e (C i) (fdOf.getD i "") v := by
    intro G e d v ne nd de
    refine ⟨fun b o z => ?_, d, upd_same, ?_⟩
    · rw [upd_ne (ne_of_none z ne), upd_ne (ne_of_none z nd)]
      exact z
    · rw [upd_ne de]
      exact upd_same
  obtain ⟨x1, a1⟩ := new (v := x) n1 m1 ne1
  obtain ⟨x2, a2⟩ := new (v := x) n2 m2 ne2
  have x3 := Ext.upd (o := .lst [.ref e1, .ref e2]) nL
  have hL : H L = none := by
    cases z : H L with
    | none => rfl
    | some o =>
      rw [x2 _ _ (x1 _ _ z)] at nL
      cases nL
  exact k L _ e1 e2 ((x1.trans x2).trans x3) hL upd_same (errExt a1 (x2.trans x3)) (errExt a2 x3)
/-- the two errors of a pair hold what they were given -/
theorem all_ok (T : Errs P K mg C FI S) {io i : Nat} (hi : i < 13) {te : TE} {σ : L2.St} {H G : Hp} {x : V} {d : PyData} {L e1 e2 : Addr} {Q : VK} (io0 : io ≠ 0) (lio : io < σ.length) (s0 : σ[0]? = some (some x)) (th : ∀ G', Ext G G' → Thing K G' x d)
    (hL : G L = some (.lst [.ref e1, .ref e2])) (a1 : ErrAt G e1 (C i) (fdOf.getD i "") x) (a2 : ErrAt G e2 (C i) (fdOf.getD i "") x)
    (ht : ∀ R : V → Hp → Prop, R (.ref L) G → te σ H R) (k : ∀ G', Ext G G' → Q (.bl true) G') : tAllOf P K mg C io i (fdOf.getD i "") te σ H Q := by
  refine ht _ ⟨L, rfl, ⟨_, Or.inl (Or.inl hL)⟩, fun D nD => ?_⟩
  have DL : L ≠ D := ne_of_none hL nD
  refine lc_list (K := K) (a := L) (xs := [.ref e1, .ref e2]) (fun n G' => n ≤ 2 ∧ Ext G G' ∧ G' L = some (.lst [.ref e1, .ref e2]) ∧ G' D = some (.lst (List.replicate n (.bl true)))) ?_ ?_ ?_ ?_
  · exact ⟨by decide, Ext.upd nD, by rw [upd_ne DL]; exact hL, upd_same⟩
  · intro n G' _ g
    exact Or.inl (Or.inl g.2.2.1)
  · rintro n y G' hy ⟨g0, g1, g2, g3⟩
    obtain ⟨e, rfl, ae⟩ : ∃ e, y = .ref e ∧ ErrAt G e (C i) (fdOf.getD i "") x := by
      match n, hy with
      | 0, hy => exact ⟨e1, (Option.some.inj hy).symm, a1⟩
      | 1, hy => exact ⟨e2, (Option.some.inj hy).symm, a2⟩
      | n + 2, hy => simp at hy
    have hn : n < 2 := by
      have z := (List.getElem?_eq_some_iff.mp hy).1
      exact z
    have ae' := errExt ae g1
    have wl : (wipe σ [io]).length = σ.length := wipe_length σ [io]
    have w0 : (wipe σ [io])[0]? = some (some x) := by
      show (σ.set io none)[0]? = _
      rw [List.getElem?_set_ne io0]
      exact s0
    have wo : ((wipe σ [io]).set io (some (.ref e)))[io]? = some (some (.ref e)) := by
      rw [List.getElem?_set_self (by rw [wl]; exact lio)]
    have wz : ((wipe σ [io]).set io (some (.ref e)))[0]? = some (some x) := by
      rw [List.getElem?_set_ne io0]
      exact w0
    refine ⟨?_, ?_⟩
    · show (((σ.set io none).set io (some (.ref e))).set io none) = σ.set io none
      rw [List.set_set, List.set_set]
    · refine ⟨_, wo, _, wo, e, _, C i, FI i, x, rfl, T.err i hi, ae', _, wz, ?_⟩
      refine ⟨e, i, x, x, d, rfl, hi, ae', fun G2 h2 => th G2 (g1.trans h2), fun G2 h2 => ?_⟩
      refine ⟨_, h2 _ _ g3, by rw [List.length_replicate, sizeLine_eq]; omega, by omega, fun b o z => ?_, ?_, ?_⟩
      · have bD : b ≠ D := ne_of_none z nD
        rw [upd_ne bD]
        exact h2 _ _ (g1 _ _ z)
      · rw [upd_ne DL]
        exact h2 _ _ g2
      · rw [upd_same, List.replicate_succ']
  · rintro G' ⟨_, g1, _, g3⟩
    exact ⟨D, [true, true], rfl, Or.inl (Or.inl g3), k G' g1⟩
end
end Err
namespace Err
open PySem PySem.Spec PyProof.Rows L2 PySem.ErrKw
section
variable {P : Program} {w : World} {K : PySem.W.Frag} {mg : Str → Option Value} {base : Heap} {C FI : Nat → Addr} {S fS : Addr} {fdS : FuncData}
theorem all_pair (T : Errs P K mg C FI S) {io i : Nat} (hi : i < 13) {σ : L2.St} {H : Hp} {x : V} {d : PyData} {Q : VK} (io0 : io ≠ 0) (lio : io < σ.length) (s0 : σ[0]? = some (some x)) (th : ∀ G', Ext H G' → Thing K G' x d)
    (k : ∀ G', Ext H G' → Q (.bl true) G') : tAllOf P K mg C io i (fdOf.getD i "") (tPair C i) σ H Q := by
  dsimp only [tAllOf, tCB, L2.tCons, tLc, iList]
  refine pair_ok s0 fun L G e1 e2 x1 nL hL a1 a2 => ?_
  exact all_ok T hi (te := fun _ _ R => R (.ref L) G) (H := H) (G := G) (L := L) (e1 := e1) (e2 := e2) (Q := Q) io0 lio s0 (fun G' z => th G' (x1.trans z)) hL a1 a2 (fun R r => r) fun G' z => k G' (x1.trans z)
theorem all_var (T : Errs P K mg C FI S) {io i iv : Nat} (hi : i < 13) {σ : L2.St} {H : Hp} {x : V} {d : PyData} {L e1 e2 : Addr} {Q : VK} (io0 : io ≠ 0) (lio : io < σ.length) (s0 : σ[0]? = some (some x)) (s1 : σ[iv]? = some (some (.ref L))) (th : ∀ G', Ext H G' → Thing K G' x d)
    (hL : H L = some (.lst [.ref e1, .ref e2])) (a1 : ErrAt H e1 (C i) (fdOf.getD i "") x) (a2 : ErrAt H e2 (C i) (fdOf.getD i "") x) (k : ∀ G', Ext H G' → Q (.bl true) G') : tAllOf P K mg C io i (fdOf.getD i "") (tVar iv) σ H Q :=
  all_ok T hi io0 lio s0 th hL a1 a2 (fun R r => ⟨_, s1, r⟩) k
def spErrs (K : PySem.W.Frag) : Sp := fun vs H Q _ => ∃ (x : V) (d : PyData), vs = [x] ∧ (∀ H', Ext H H' → Thing K H' x d) ∧ ∀ H', Ext H H' → Q (.bl true) H'
abbrev tIfN (P : Program) (K : PySem.W.Frag) (mg : Str → Option Value) (C : Nat → Addr) (io i : Nat) (te : TE) : TS := tIfS (tNot (tB (tAllOf P K mg C io i (fdOf.getD i "") te))) (tRet (tC (.bl false))) tNext
abbrev sFirst : Stmt := topS 21
abbrev sMiddle : Stmt := topS 22
abbrev sLast : Stmt := topS 23
abbrev N3 : List Str := ["_law_thing", "_law_pair", "_law_one"]
abbrev N2 : List Str := ["_law_thing", "_law_one"]
theorem scF : FnScope N3 ["_law_thing"] (defScope sFirst) := ⟨rfl, rfl, rfl, by decide +kernel, rfl, by decide +kernel, by decide +kernel⟩
theorem scM : FnScope N3 ["_law_thing"] (defScope sMiddle) := ⟨rfl, rfl, rfl, by decide +kernel, rfl, by decide +kernel, by decide +kernel⟩
theorem scL : FnScope N2 ["_law_thing"] (defScope sLast) := ⟨rfl, rfl, rfl, by decide +kernel, rfl, by decide +kernel, by decide +kernel⟩
def tFirst (P : Program) (K : PySem.W.Frag) (mg : Str → Option Value) (C : Nat → Addr) : TS :=
  tSeq (tAsg (tPair C 0) (gName 1)) (tSeq (tIfN P K mg C 2 0 (tVar 1)) (tSeq (tIfN P K mg C 2 1 (tPair C 1)) (tSeq (tIfN P K mg C 2 2 (tPair C 2)) (tSeq (tIfN P K mg C 2 3 (tPair C 3)) (tRet (tAllOf P K mg C 2 4 (fdOf.getD 4 "") (tPair C 4)))))))
def tMiddle (P : Program) (K : PySem.W.Frag) (mg : Str → Option Value) (C : Nat → Addr) : TS :=
  tSeq (tAsg (tPair C 5) (gName 1)) (tSeq (tIfN P K mg C 2 5 (tVar 1)) (tSeq (tAsg (tPair C 6) (gName 1)) (tSeq (tIfN P K mg C 2 6 (tVar 1)) (tSeq (tIfN P K mg C 2 7 (tPair C 7)) (tSeq (tAsg (tPair C 8) (gName 1)) (tRet (tAllOf P K mg C 2 8 (fdOf.getD 8 "") (tVar 1))))))))
def tLast (P : Program) (K : PySem.W.Frag) (mg : Str → Option Value) (C : Nat → Addr) : TS :=
  tSeq (tIfN P K mg C 1 9 (tPair C 9)) (tSeq (tIfN P K mg C 1 10 (tPair C 10)) (tSeq (tIfN P K mg C 1 11 (tPair C 11)) (tRet (tAllOf P K mg C 1 12 (fdOf.getD 12 "") (tPair C 12)))))
theorem pure_first (T : Errs P K mg C FI S) (vs : List V) (H : Hp) (Q : VK) (E : XK) (h : spErrs K vs H Q E) : tFirst P K mg C { nx := fun _ H' => Q .non H', rt := Q } (start N3 vs) H := by
  obtain ⟨x, d, rfl, th, k⟩ := h
  unfold tFirst
  dsimp only [tIfN, tSeq, tAsg, gName, tRet, tIfS, tNot, tB, tNext, tC]
  refine pair_ok rfl fun L G e1 e2 x1 nL hL a1 a2 => ?_
  refine all_var T (iv := 1) (by decide) (by decide) (show 2 < 3 by decide) rfl rfl (fun G' z => th G' (x1.trans z)) hL a1 a2 fun G1 y1 => ⟨true, rfl, ?_⟩
  have z1 := x1.trans y1
  refine all_pair T (i := 1) (by decide) (by decide) (show 2 < 3 by decide) rfl (fun G' z => th G' (z1.trans z)) fun G2 y2 => ⟨true, rfl, ?_⟩
  have z2 := z1.trans y2
  refine all_pair T (i := 2) (by decide) (by decide) (show 2 < 3 by decide) rfl (fun G' z => th G' (z2.trans z)) fun G3 y3 => ⟨true, rfl, ?_⟩
  have z3 := z2.trans y3
  refine all_pair T (i := 3) (by decide) (by decide) (show 2 < 3 by decide) rfl (fun G' z => th G' (z3.trans z)) fun G4 y4 => ⟨true, rfl, ?_⟩
  have z4 := z3.trans y4
  exact all_pair T (i := 4) (by decide) (by decide) (show 2 < 3 by decide) rfl (fun G' z => th G' (z4.trans z)) fun G5 y5 => k G5 (z4.trans y5)
theorem pure_middle (T : Errs P K mg C FI S) (vs : List V) (H : Hp) (Q : VK) (E : XK) (h : spErrs K vs H Q E) : tMiddle P K mg C { nx := fun _ H' => Q .non H', rt := Q } (start N3 vs) H := by
  obtain ⟨x, d, rfl, th, k⟩ := h
  unfold tMiddle
  dsimp only [tIfN, tSeq, tAsg, gName, tRet, tIfS, tNot, tB, tNext, tC]
  refine pair_ok rfl fun L G e1 e2 x1 nL hL a1 a2 => ?_
  refine all_var T (i := 5) (iv := 1) (by decide) (by decide) (show 2 < 3 by decide) rfl rfl (fun G' z => th G' (x1.trans z)) hL a1 a2 fun G1 y1 => ⟨true, rfl, ?_⟩
  have z1 := x1.trans y1
  refine if_no rfl ?_
  refine pair_ok (C := C) (i := 6) rfl fun L2 G2 f1 f2 x2 nL2 hL2 b1 b2 => ?_
  have z2 := z1.trans x2
  refine all_var T (i := 6) (iv := 1) (by decide) (by decide) (show 2 < 3 by decide) rfl rfl (fun G' z => th G' (z2.trans z)) hL2 b1 b2 fun G3 y3 => ⟨true, rfl, ?_⟩
  have z3 := z2.trans y3
  refine all_pair T (i := 7) (by decide) (by decide) (show 2 < 3 by decide) rfl (fun G' z => th G' (z3.trans z)) fun G4 y4 => ⟨true, rfl, ?_⟩
  have z4 := z3.trans y4
  refine if_no rfl ?_
  refine pair_ok (C := C) (i := 8) rfl fun L5 G5 g1 g2 x5 nL5 hL5 c1 c2 => ?_
  have z5 := z4.trans x5
  exact all_var T (i := 8) (iv := 1) (by decide) (by decide) (show 2 < 3 by decide) rfl rfl (fun G' z => th G' (z5.trans z)) hL5 c1 c2 fun G6 y6 => k G6 (z5.trans y6)
theorem pure_last (T : Errs P K mg C FI S) (vs : List V) (H : Hp) (Q : VK) (E : XK) (h : spErrs K vs H Q E) : tLast P K mg C { nx := fun _ H' => Q .non H', rt := Q } (start N2 vs) H := by
  obtain ⟨x, d, rfl, th, k⟩ := h
  unfold tLast
  dsimp only [tIfN, tSeq, tAsg, gName, tRet, tIfS, tNot, tB, tNext, tC]
  refine all_pair T (i := 9) (by decide) (by decide) (show 1 < 2 by decide) rfl (fun G' z => th G' z) fun G1 z1 => ⟨true, rfl, ?_⟩
  refine all_pair T (i := 10) (by decide) (by decide) (show 1 < 2 by decide) rfl (fun G' z => th G' (z1.trans z)) fun G2 y2 => ⟨true, rfl, ?_⟩
  have z2 := z1.trans y2
  refine all_pair T (i := 11) (by decide) (by decide) (show 1 < 2 by decide) rfl (fun G' z => th G' (z2.trans z)) fun G3 y3 => ⟨true, rfl, ?_⟩
  have z3 := z2.trans y3
  exact all_pair T (i := 12) (by decide) (by decide) (show 1 < 2 by decide) rfl (fun G' z => th G' (z3.trans z)) fun G4 y4 => k G4 (z3.trans y4)
structure Top (P : Program) (w : World) (K : PySem.W.Frag) (mg : Str → Option Value) (base : Heap) (C FI : Nat → Addr) (S fS : Addr) (fdS : FuncData) : Prop where
  T : Errs P K mg C FI S
  FS : FnG P w K mg base 2 fS fdS NS (spStores K C)
  gS : mg "_law_stores" = some (.ref fS)
  kS : PySem.W.keepIn K (.ref fS) = true
  bS : Binds K fdS NS []
theorem pe_all3 {X : Cx} {io i : Nat} {fld : Str} {iter : Expr} {te : TE} {p1 p2 p3 p4 p5 p6 p7 p8 p9 p10 p11 : Pos} {kk : Nat} {z : Int} (Y : Top X.prog X.w X.K X.mg X.base C FI S fS fdS) (hz : z = (i : Nat)) (hf : fld = fdOf.getD i "") (gu : X.A.guards = some []) (hr : Room 2 X.A) (hc : X.calm = true) (hN : X.N.Nodup) (ok : BlkOk X.N X.env.scope iSc [("_law_one", io)])
    (h0 : X.N[0]? = some ("_law_thing" : Str)) (ho : X.N[io]? = some ("_law_one" : Str)) (hg : Gl X "all") (vt : ∀ cl CC, Vis (compEnvC iSc cl CC X.env).scope "_law_thing") (hi : PE X iter te) (hs : ∀ x, foldedSetIterable iter X.env x = pure x)
    (h1 : starEach [.ListComp (.Call (.Name "_law_stores" p2) [.Name "_law_one" p3, .Constant (.int z) kk p4, .Attribute (.Name "_law_one" p5) fld p6, .Name "_law_thing" p7] [] p8) [⟨.Name "_law_one" p9, iter, [], 0⟩] iSc p10] X.env = (false, eval (.ListComp (.Call (.Name "_law_stores" p2) [.Name "_law_one" p3, .Constant (.int z) kk p4, .Attribute (.Name "_law_one" p5) fld p6, .Name "_law_thing" p7] [] p8) [⟨.Name "_law_one" p9, iter, [], 0⟩] iSc p10) X.env) :: starEach [] X.env := by rfl)
    (h2 : (backTo p11 (starEach [] X.env)).any (·.1) = false := by rfl) :
    PE X (.Call (.Name "all" p1) [.ListComp (.Call (.Name "_law_stores" p2) [.Name "_law_one" p3, .Constant (.int z) kk p4, .Attribute (.Name "_law_one" p5) fld p6, .Name "_law_thing" p7] [] p8) [⟨.Name "_law_one" p9, iter, [], 0⟩] iSc p10] [] p11) (tAllOf X.prog X.K X.mg C io i (fdOf.getD i "") te) := by
  subst hz
  subst hf
  exact pe_allOf Y.T Y.FS Y.gS Y.kS Y.bS gu hr hc hN ok h0 ho hg vt hi hs h1 h2
theorem body_last (Y : Top P w K mg base C FI S fS fdS) (f : Addr) (cdv : Value) (A : Around) (outer : List Env) (st : Shared) (H : Hp) (E : XK) (gu : A.guards = some []) (hr : Room 2 (A.deeper (envOfC "_law_last_errors" (defScope sLast) st.heap.objs.size f cdv))) :
    PSs (cxOf CX0 P w K mg base N2 "_law_last_errors" (defScope sLast) f cdv A outer st H E).nox (defBody sLast) (tLast P K mg C) := by
  unfold tLast
  have hgu : (cxOf CX0 P w K mg base N2 "_law_last_errors" (defScope sLast) f cdv A outer st H E).nox.A.guards = some [] := gu
  have ok : BlkOk N2 (defScope sLast) iSc [("_law_one", 1)] := blkOk_by (by decide +kernel)
  have hr1 : Room 1 (cxOf CX0 P w K mg base N2 "_law_last_errors" (defScope sLast) f cdv A outer st H E).nox.A := hr.mono (by decide)
  refine pss_cons (ps_if (pt_not (pt_val ?a9)) (pss_one (ps_ret pe_bl)) pss_nil) ?_
  case a9 => exact pe_all3 Y rfl rfl hgu hr rfl scL.nd ok rfl rfl rfl (fun _ _ => Or.inr (Or.inl rfl)) (pe_pair Y.T (by decide) rfl rfl given_index hr1 rfl (Or.inr (Or.inl rfl)) rfl (by decide)) (fun _ => rfl)
  refine pss_cons (ps_if (pt_not (pt_val ?a10)) (pss_one (ps_ret pe_bl)) pss_nil) ?_
  case a10 => exact pe_all3 Y rfl rfl hgu hr rfl scL.nd ok rfl rfl rfl (fun _ _ => Or.inr (Or.inl rfl)) (pe_pair Y.T (by decide) rfl rfl given_name hr1 rfl (Or.inr (Or.inl rfl)) rfl (by decide)) (fun _ => rfl)
  refine pss_cons (ps_if (pt_not (pt_val ?a11)) (pss_one (ps_ret pe_bl)) pss_nil) ?_
  case a11 => exact pe_all3 Y rfl rfl hgu hr rfl scL.nd ok rfl rfl rfl (fun _ _ => Or.inr (Or.inl rfl)) (pe_pair Y.T (by decide) rfl rfl given_status hr1 rfl (Or.inr (Or.inl rfl)) rfl (by decide)) (fun _ => rfl)
  refine pss_one (ps_ret ?a12)
  exact pe_all3 Y rfl rfl hgu hr rfl scL.nd ok rfl rfl rfl (fun _ _ => Or.inr (Or.inl rfl)) (pe_pair Y.T (by decide) rfl rfl given_limit hr1 rfl (Or.inr (Or.inl rfl)) rfl (by decide)) (fun _ => rfl)
theorem body_first (Y : Top P w K mg base C FI S fS fdS) (f : Addr) (cdv : Value) (A : Around) (outer : List Env) (st : Shared) (H : Hp) (E : XK) (gu : A.guards = some []) (hr : Room 2 (A.deeper (envOfC "_law_first_errors" (defScope sFirst) st.heap.objs.size f cdv))) :
    PSs (cxOf CX0 P w K mg base N3 "_law_first_errors" (defScope sFirst) f cdv A outer st H E).nox (defBody sFirst) (tFirst P K mg C) := by
  unfold tFirst
  have hgu : (cxOf CX0 P w K mg base N3 "_law_first_errors" (defScope sFirst) f cdv A outer st H E).nox.A.guards = some [] := gu
  have ok : BlkOk N3 (defScope sFirst) iSc [("_law_one", 2)] := blkOk_by (by decide +kernel)
  have hr1 : Room 1 (cxOf CX0 P w K mg base N3 "_law_first_errors" (defScope sFirst) f cdv A outer st H E).nox.A := hr.mono (by decide)
  refine pss_cons (ps_set (i := 1) scF.nd rfl (.inl rfl) ?s0) ?_
  case s0 => exact (pe_pair Y.T (i := 0) (by decide) rfl rfl given_path hr1 rfl (Or.inr (Or.inl rfl)) rfl (by decide))
  refine pss_cons (ps_if (pt_not (pt_val ?a1)) (pss_one (ps_ret pe_bl)) pss_nil) ?_
  case a1 => exact pe_all3 Y rfl rfl hgu hr rfl scF.nd ok rfl rfl rfl (fun _ _ => Or.inr (Or.inl rfl)) (pv 1) (fun _ => rfl)
  refine pss_cons (ps_if (pt_not (pt_val ?a2)) (pss_one (ps_ret pe_bl)) pss_nil) ?_
  case a2 => exact pe_all3 Y rfl rfl hgu hr rfl scF.nd ok rfl rfl rfl (fun _ _ => Or.inr (Or.inl rfl)) (pe_pair Y.T (i := 1) (by decide) rfl rfl given_place hr1 rfl (Or.inr (Or.inl rfl)) rfl (by decide)) (fun _ => rfl)
  refine pss_cons (ps_if (pt_not (pt_val ?a3)) (pss_one (ps_ret pe_bl)) pss_nil) ?_
  case a3 => exact pe_all3 Y rfl rfl hgu hr rfl scF.nd ok rfl rfl rfl (fun _ _ => Or.inr (Or.inl rfl)) (pe_pair Y.T (i := 2) (by decide) rfl rfl given_index hr1 rfl (Or.inr (Or.inl rfl)) rfl (by decide)) (fun _ => rfl)
  refine pss_cons (ps_if (pt_not (pt_val ?a4)) (pss_one (ps_ret pe_bl)) pss_nil) ?_
  case a4 => exact pe_all3 Y rfl rfl hgu hr rfl scF.nd ok rfl rfl rfl (fun _ _ => Or.inr (Or.inl rfl)) (pe_pair Y.T (i := 3) (by decide) rfl rfl given_name hr1 rfl (Or.inr (Or.inl rfl)) rfl (by decide)) (fun _ => rfl)
  refine pss_one (ps_ret ?a5)
  exact pe_all3 Y rfl rfl hgu hr rfl scF.nd ok rfl rfl rfl (fun _ _ => Or.inr (Or.inl rfl)) (pe_pair Y.T (i := 4) (by decide) rfl rfl given_path hr1 rfl (Or.inr (Or.inl rfl)) rfl (by decide)) (fun _ => rfl)
theorem ok_first {f : Addr} {fd : FuncData} (F : Fun K "_law_first_errors" "_law_first_errors" sFirst f fd) (Y : Top P w K mg base C FI S fS fdS) : FnG P w K mg base 3 f fd ["_law_thing"] (spErrs K) := by
  refine fnG_of F scF (fun vs H Q E h => ?_) (fun cdv A outer s H vs Q E gu hr h => ⟨tFirst P K mg C, body_first Y f cdv A outer s H E gu hr, pure_first Y.T vs H Q E h⟩)
  obtain ⟨_, _, rfl, _⟩ := h
  rfl
theorem body_middle (Y : Top P w K mg base C FI S fS fdS) (f : Addr) (cdv : Value) (A : Around) (outer : List Env) (st : Shared) (H : Hp) (E : XK) (gu : A.guards = some []) (hr : Room 2 (A.deeper (envOfC "_law_middle_errors" (defScope sMiddle) st.heap.objs.size f cdv))) :
    PSs (cxOf CX0 P w K mg base N3 "_law_middle_errors" (defScope sMiddle) f cdv A outer st H E).nox (defBody sMiddle) (tMiddle P K mg C) := by
  unfold tMiddle
  have hgu : (cxOf CX0 P w K mg base N3 "_law_middle_errors" (defScope sMiddle) f cdv A outer st H E).nox.A.guards = some [] := gu
  have ok : BlkOk N3 (defScope sMiddle) iSc [("_law_one", 2)] := blkOk_by (by decide +kernel)
  have hr1 : Room 1 (cxOf CX0 P w K mg base N3 "_law_middle_errors" (defScope sMiddle) f cdv A outer st H E).nox.A := hr.mono (by decide)
  refine pss_cons (ps_set (i := 1) scM.nd rfl (.inl rfl) ?s0) ?_
  case s0 => exact (pe_pair Y.T (i := 5) (by decide) rfl rfl given_name hr1 rfl (Or.inr (Or.inl rfl)) rfl (by decide))
  refine pss_cons (ps_if (pt_not (pt_val ?a1)) (pss_one (ps_ret pe_bl)) pss_nil) ?_
  case a1 => exact pe_all3 Y rfl rfl hgu hr rfl scM.nd ok rfl rfl rfl (fun _ _ => Or.inr (Or.inl rfl)) (pv 1) (fun _ => rfl)
  refine pss_cons (ps_set (i := 1) scM.nd rfl (.inl rfl) ?s2) ?_
  case s2 => exact (pe_pair Y.T (i := 6) (by decide) rfl rfl given_index hr1 rfl (Or.inr (Or.inl rfl)) rfl (by decide))
  refine pss_cons (ps_if (pt_not (pt_val ?a3)) (pss_one (ps_ret pe_bl)) pss_nil) ?_
  case a3 => exact pe_all3 Y rfl rfl hgu hr rfl scM.nd ok rfl rfl rfl (fun _ _ => Or.inr (Or.inl rfl)) (pv 1) (fun _ => rfl)
  refine pss_cons (ps_if (pt_not (pt_val ?a4)) (pss_one (ps_ret pe_bl)) pss_nil) ?_
  case a4 => exact pe_all3 Y rfl rfl hgu hr rfl scM.nd ok rfl rfl rfl (fun _ _ => Or.inr (Or.inl rfl)) (pe_pair Y.T (i := 7) (by decide) rfl rfl given_index hr1 rfl (Or.inr (Or.inl rfl)) rfl (by decide)) (fun _ => rfl)
  refine pss_cons (ps_set (i := 1) scM.nd rfl (.inl rfl) ?s5) ?_
  case s5 => exact (pe_pair Y.T (i := 8) (by decide) rfl rfl given_name hr1 rfl (Or.inr (Or.inl rfl)) rfl (by decide))
  refine pss_one (ps_ret ?a6)
  exact pe_all3 Y rfl rfl hgu hr rfl scM.nd ok rfl rfl rfl (fun _ _ => Or.inr (Or.inl rfl)) (pv 1) (fun _ => rfl)
theorem ok_middle {f : Addr} {fd : FuncData} (F : Fun K "_law_middle_errors" "_law_middle_errors" sMiddle f fd) (Y : Top P w K mg base C FI S fS fdS) : FnG P w K mg base 3 f fd ["_law_thing"] (spErrs K) := by
  refine fnG_of F scM (fun vs H Q E h => ?_) (fun cdv A outer s H vs Q E gu hr h => ⟨tMiddle P K mg C, body_middle Y f cdv A outer s H E gu hr, pure_middle Y.T vs H Q E h⟩)
  obtain ⟨_, _, rfl, _⟩ := h
  rfl
theorem ok_last {f : Addr} {fd : FuncData} (F : Fun K "_law_last_errors" "_law_last_errors" sLast f fd) (Y : Top P w K mg base C FI S fS fdS) : FnG P w K mg base 3 f fd ["_law_thing"] (spErrs K) := by
  refine fnG_of F scL (fun vs H Q E h => ?_) (fun cdv A outer s H vs Q E gu hr h => ⟨tLast P K mg C, body_last Y f cdv A outer s H E gu hr, pure_last Y.T vs H Q E h⟩)
  obtain ⟨_, _, rfl, _⟩ := h
  rfl
end
end Err
/-! The draws. -/
namespace Err
open PySem PySem.Spec PyProof.Rows L2
section
variable {P : Program} {w : World} {K : PySem.W.Frag} {mg : Str → Option Value} {base : Heap}
abbrev sMixed : Stmt := topS 16
abbrev sSource : Stmt := topS 17
abbrev sTake : Stmt := topS 18
abbrev NM : List Str := ["_law_cell", "_law_draw", "_law_figure"]
abbrev NO : List Str := ["_law_cell"]
abbrev NT : List Str := ["_law_source_here", "_law_bound", "_law_drawn"]
theorem scMx : FnScope NM ["_law_cell", "_law_draw"] (defScope sMixed) := ⟨rfl, rfl, rfl, by decide +kernel, rfl, by decide +kernel, by decide +kernel⟩
theorem scSo : FnScope NO ["_law_cell"] (defScope sSource) := ⟨rfl, rfl, rfl, by decide +kernel, rfl, by decide +kernel, by decide +kernel⟩
theorem scTk : FnScope NT ["_law_source_here", "_law_bound"] (defScope sTake) := ⟨rfl, rfl, rfl, by decide +kernel, rfl, by decide +kernel, by decide +kernel⟩
def rIn : List V → Hp → VK → Prop := fun xs H Q => (∃ i, xs = [.int i] ∧ Q (.int i) H) ∨ ∃ k, xs = [.bl k] ∧ Q (.int (if k then 1 else 0)) H
abbrev tInt (te : TE) : TE := tCB rIn (tCons te tNil)
abbrev rMo : R2 := rI (fun _ j => 0 < j) fun i j => .int (i % j)
abbrev rMu : R2 := rI CMul fun i j => .int (i * j)
abbrev rAd : R2 := rI0 fun i j => .int (i + j)
abbrev rSu : R2 := rI0 fun i j => .int (i - j)
abbrev rDi : R2 := rI CDivW fun i j => .int (i / j)
abbrev rPo : R2 := rI CPow fun i j => .int (i ^ j.toNat)
abbrev cI (i : Int) : TE := tC (.int i)
theorem pe_intc {X : Cx} {e : Expr} {te : TE} {p pos : Pos} (mi : X.mg "int" = none) (hg : Gl X "int") (he : PE X e te) (h1 : starEach [e] X.env = (false, eval e X.env) :: starEach [] X.env := by rfl) : PE X (.Call (.Name "int" p) [e] [] pos) (tInt te) :=
  pe_callTy call_int1 hg mi boot_int (pa_cons he pa_nil h1) (by decide) (by decide) h1
def spMixed : Sp := fun vs H Q _ => ∃ c d : Int, vs = [.int c, .int d] ∧ ∀ r : Int, Q (.int r) H
def tMixed : TS :=
  tSeq (tAsg (tOp rMo (tInt (tOp rMu (tOp rAd (tOp rMo (tInt (tVar 0)) (cI 2147483646)) (cI 1)) (tOp rAd (tOp rMu (tVar 1) (cI 7919)) (cI 104729)))) (cI 2147483647)) (gName 2))
  (tSeq (tAsg (tOp rMo (tInt (tOp rMu (tOp rAd (tVar 2) (tOp rMu (tOp rMo (tInt (tOp rDi (tVar 0) (cI 2147483646))) (cI 1000003)) (tOp rAd (tVar 1) (cI 31)))) (cI 48271))) (cI 2147483629)) (gName 2))
  (tSeq (tAsg (tOp rMo (tInt (tOp rMu (tVar 2) (tOp rAd (tOp rAd (tOp rDi (tVar 2) (cI 1013)) (cI 69621)) (tVar 1)))) (cI 2147483587)) (gName 2))
  (tRet (tOp rMo (tInt (tOp rMu (tVar 2) (tOp rAd (tOp rDi (tVar 2) (cI 2003)) (cI 40692)))) (cI 2147483563)))))
theorem mul_left {i j : Int} (h0 : 0 ≤ i) (h : i < 4294967296) : CMul i j := by
  left
  constructor <;> omega
theorem body_mixed (mi : mg "int" = none) (f : Addr) (cdv : Value) (A : Around) (outer : List Env) (st : Shared) (H : Hp) (E : XK) :
    PSs (cxOf CX0 P w K mg base NM "_law_mixed" (defScope sMixed) f cdv A outer st H E).nox (defBody sMixed) tMixed := by
  unfold tMixed
  refine pss_cons (ps_set (i := 2) scMx.nd rfl (.inl rfl) ?a) (pss_cons (ps_set (i := 2) scMx.nd rfl (.inl rfl) ?b) (pss_cons (ps_set (i := 2) scMx.nd rfl (.inl rfl) ?c) (pss_one (ps_ret ?d))))
  case a => exact pe_op op_mod (pe_intc mi rfl (pe_op op_mul (pe_op op_add (pe_op op_mod (pe_intc mi rfl (pv 0)) pe_int) pe_int) (pe_op op_add (pe_op op_mul (pv 1) pe_int) pe_int))) pe_int
  case b => exact pe_op op_mod (pe_intc mi rfl (pe_op op_mul (pe_op op_add (pv 2) (pe_op op_mul (pe_op op_mod (pe_intc mi rfl (pe_op op_fdivW (pv 0) pe_int)) pe_int) (pe_op op_add (pv 1) pe_int))) pe_int)) pe_int
  case c => exact pe_op op_mod (pe_intc mi rfl (pe_op op_mul (pv 2) (pe_op op_add (pe_op op_add (pe_op op_fdivW (pv 2) pe_int) pe_int) (pv 1)))) pe_int
  case d => exact pe_op op_mod (pe_intc mi rfl (pe_op op_mul (pv 2) (pe_op op_add (pe_op op_fdivW (pv 2) pe_int) pe_int))) pe_int
theorem wd {i j : Int} (h : 0 < j) (hb : j < 4294967296) : CDivW i j := wide_div (b := 32) h (by omega) (by decide) (by decide)
theorem pure_mixed (vs : List V) (H : Hp) (Q : VK) (E : XK) (h : spMixed vs H Q E) : tMixed { nx := fun _ H' => Q .non H', rt := Q } (start NM vs) H := by
  obtain ⟨c, d, rfl, k⟩ := h
  unfold tMixed
  dsimp only [tSeq, tAsg, gName, tRet, L2.tOp, tInt, tCB, L2.tCons, L2.tNil, tVar, tC, cI]
  have m1 : ∀ (x m : Int), 0 < m → 0 ≤ x % m ∧ x % m < m := fun x m hm => ⟨Int.emod_nonneg _ (by omega), Int.emod_lt_of_pos _ hm⟩
  refine ⟨_, rfl, Or.inl ⟨_, rfl, _, _, rfl, rfl, (by show (0 : Int) < _; decide), _, _, rfl, rfl, _, rfl, _, _, rfl, rfl, (Or.inr ⟨by decide, by decide⟩), _, _, rfl, rfl, _, _, rfl, rfl, ?_, Or.inl ⟨_, rfl, _, _, rfl, rfl, (by show (0 : Int) < _; decide), ?_⟩⟩⟩
  · have z := m1 c 2147483646 (by decide)
    exact mul_left (by omega) (by omega)
  generalize hf : ((c % 2147483646 + 1) * (d * 7919 + 104729)) % 2147483647 = g1
  refine ⟨_, rfl, _, rfl, _, _, rfl, rfl, wd (by decide) (by decide), Or.inl ⟨_, rfl, _, _, rfl, rfl, (by show (0 : Int) < _; decide), _, rfl, _, _, rfl, rfl, _, _, rfl, rfl, ?_, _, _, rfl, rfl, _, _, rfl, rfl, (Or.inr ⟨by decide, by decide⟩), Or.inl ⟨_, rfl, _, _, rfl, rfl, (by show (0 : Int) < _; decide), ?_⟩⟩⟩
  · have z := m1 (c / 2147483646) 1000003 (by decide)
    exact mul_left (by omega) (by omega)
  generalize hg : ((g1 + c / 2147483646 % 1000003 * (d + 31)) * 48271) % 2147483629 = g2
  have b2 := m1 ((g1 + c / 2147483646 % 1000003 * (d + 31)) * 48271) 2147483629 (by decide)
  rw [hg] at b2
  refine ⟨_, rfl, _, rfl, _, _, rfl, rfl, wd (by decide) (by decide), _, _, rfl, rfl, _, rfl, _, _, rfl, rfl, _, _, rfl, rfl, mul_left (by omega) (by omega), Or.inl ⟨_, rfl, _, _, rfl, rfl, (by show (0 : Int) < _; decide), ?_⟩⟩
  generalize hh : (g2 * (g2 / 1013 + 69621 + d)) % 2147483587 = g3
  have b3 := m1 (g2 * (g2 / 1013 + 69621 + d)) 2147483587 (by decide)
  rw [hh] at b3
  exact ⟨_, rfl, _, rfl, _, _, rfl, rfl, wd (by decide) (by decide), _, _, rfl, rfl, _, _, rfl, rfl, mul_left (by omega) (by omega), Or.inl ⟨_, rfl, _, _, rfl, rfl, (by show (0 : Int) < _; decide), k _⟩⟩
theorem ok_mixed {f : Addr} {fd : FuncData} (F : Fun K "_law_mixed" "_law_mixed" sMixed f fd) (mi : mg "int" = none) : FnOk P w K mg base CX0 1 f fd ["_law_cell", "_law_draw"] spMixed := by
  refine F.ok scMx (fun vs H Q E h => ?_) (fun cdv A outer s H vs Q E hr h => ⟨tMixed, body_mixed mi f cdv A outer s H E, pure_mixed vs H Q E h⟩)
  obtain ⟨_, _, rfl, _⟩ := h
  rfl
def spSource : Sp := fun vs H Q _ => ∃ c : Int, vs = [.int c] ∧ ∀ p, H p = none → Q (.ref p) (upd H p (.lst [.int c, .int c, .int 0]))
def tSource : TS := tRet (tLst (tCons (tVar 0) (tCons (tVar 0) (tCons (cI 0) tNil))))
theorem ok_source {f : Addr} {fd : FuncData} (F : Fun K "_law_source" "_law_source" sSource f fd) : FnOk P w K mg base CX0 1 f fd ["_law_cell"] spSource := by
  refine F.ok scSo (fun vs H Q E h => ?_) (fun cdv A outer s H vs Q E hr h => ⟨tSource, pss_one (ps_ret (pe_lst (pa_cons (pv 0) (pa_cons (pv 0) (pa_cons pe_int pa_nil))))), ?_⟩)
  · obtain ⟨_, rfl, _⟩ := h
    rfl
  · obtain ⟨c, rfl, k⟩ := h
    exact ⟨_, rfl, _, rfl, (show 3 ≤ sizeLine by rw [sizeLine_eq]; decide), k⟩
def spTake : Sp := fun vs H Q _ => ∃ (l : Addr) (a c n : Int), vs = [.ref l, .int 12] ∧ H l = some (.lst [.int a, .int c, .int n]) ∧ ∀ r a' n' : Int, 0 ≤ r → r < 12 → Q (.int r) (upd H l (.lst [.int a', .int c, .int n']))
abbrev tAt (K : PySem.W.Frag) (i : Int) : TE := tOp (rIxL K) (tVar 0) (cI i)
def tTake (K : PySem.W.Frag) : TS :=
  tSeq (tIfS (tTest (tOp (rI0 fun i j => .bl (decide (j ≤ i))) (tAt K 0) (tOp rPo (cI 10) (cI 18))))
    (tSeq (tAsg (tOp rMo (tInt (tAt K 0)) (tVar 1)) (gName 2)) (tSeq (tAsg (tOp rDi (tAt K 0) (tVar 1)) (gSub (tVar 0) (cI 0) rSetL)) (tRet (tVar 2)))) tNext)
  (tSeq (tAsg (tOp rAd (tAt K 2) (cI 1)) (gSub (tVar 0) (cI 2) rSetL))
  (tRet (tOp rMo (tInt (tCall spMixed [] (fun _ _ _ => False) (tCons (tAt K 1) (tCons (tAt K 2) tNil)))) (tVar 1))))
theorem body_take {fM : Addr} {fdM : FuncData} (FM : FnOk P w K mg base CX0 1 fM fdM ["_law_cell", "_law_draw"] spMixed) (gM : mg "_law_mixed" = some (.ref fM)) (kM : PySem.W.keepIn K (.ref fM) = true) (bM : Binds K fdM ["_law_cell", "_law_draw"] []) (mi : mg "int" = none)
    (f : Addr) (cdv : Value) (A : Around) (outer : List Env) (st : Shared) (H : Hp) (E : XK) (hr : Room 1 (A.deeper (envOfC "_law_take" (defScope sTake) st.heap.objs.size f cdv))) :
    PSs (cxOf CX0 P w K mg base NT "_law_take" (defScope sTake) f cdv A outer st H E).nox (defBody sTake) (tTake K) := by
  unfold tTake
  refine pss_cons (ps_if (pt_cmpR op_ge (pe_ix ix_list (pv 0) pe_int fun _ _ => rfl) (pe_op op_pow pe_int pe_int) rfl) ?t pss_nil) (pss_cons (ps_asg (pe_op op_add (pe_ix ix_list (pv 0) pe_int fun _ _ => rfl) pe_int) (pg_sub (pv 0) pe_int set_list)) (pss_one (ps_ret ?r)))
  case t => exact pss_cons (ps_set (i := 2) scTk.nd rfl (.inl rfl) (pe_op op_mod (pe_intc mi rfl (pe_ix ix_list (pv 0) pe_int fun _ _ => rfl)) (pv 1))) (pss_cons (ps_asg (pe_op op_fdivW (pe_ix ix_list (pv 0) pe_int fun _ _ => rfl) (pv 1)) (pg_sub (pv 0) pe_int set_list)) (pss_one (ps_ret (pv 2))))
  case r => exact pe_op op_mod (pe_intc mi rfl (pe_call FM hr rfl gM kM bM .nil pass0 (pa_cons (pe_ix ix_list (pv 0) pe_int fun _ _ => rfl) (pa_cons (pe_ix ix_list (pv 0) pe_int fun _ _ => rfl) pa_nil)))) (pv 1)
theorem pure_take (vs : List V) (H : Hp) (Q : VK) (E : XK) (h : spTake vs H Q E) : tTake K { nx := fun _ H' => Q .non H', rt := Q } (start NT vs) H := by
  obtain ⟨l, a, c, n, rfl, hl, k⟩ := h
  unfold tTake
  have sq : SqL K H l [.int a, .int c, .int n] := Or.inl (Or.inl hl)
  have m1 : ∀ x : Int, 0 ≤ x % 12 ∧ x % 12 < 12 := fun x => ⟨Int.emod_nonneg _ (by omega), Int.emod_lt_of_pos _ (by decide)⟩
  refine ⟨_, rfl, l, _, _, _, rfl, rfl, sq, rfl, _, _, rfl, rfl, ⟨by decide, by decide, by decide⟩, _, _, rfl, rfl, _, rfl, ?_⟩
  by_cases big : (10 : Int) ^ (18 : Int).toNat ≤ a
  · refine if_yes (decide_eq_true big) ?_
    refine ⟨_, rfl, l, _, _, _, rfl, rfl, sq, rfl, Or.inl ⟨_, rfl, _, rfl, _, _, rfl, rfl, (by show (0 : Int) < _; decide), ?_⟩⟩
    refine ⟨_, rfl, l, _, _, _, rfl, rfl, sq, rfl, _, rfl, _, _, rfl, rfl, wd (by decide) (by decide), ?_⟩
    refine ⟨_, rfl, l, _, _, _, rfl, rfl, hl, rfl, ?_⟩
    exact ⟨_, rfl, k _ _ _ (m1 a).1 (m1 a).2⟩
  · refine if_no (decide_eq_false big) ?_
    refine ⟨_, rfl, l, _, _, _, rfl, rfl, sq, rfl, _, _, rfl, rfl, ?_⟩
    refine ⟨_, rfl, l, _, _, _, rfl, rfl, hl, rfl, ?_⟩
    have sq2 : SqL K (upd H l (.lst ([V.int a, .int c, .int n].set 2 (.int (n + 1))))) l [.int a, .int c, .int (n + 1)] := Or.inl (Or.inl upd_same)
    refine ⟨_, rfl, l, _, _, _, rfl, rfl, sq2, rfl, _, rfl, l, _, _, _, rfl, rfl, sq2, rfl, c, n + 1, rfl, fun r => ?_⟩
    exact Or.inl ⟨_, rfl, _, rfl, _, _, rfl, rfl, (by show (0 : Int) < _; decide), k _ _ _ (m1 r).1 (m1 r).2⟩
theorem ok_take {f fM : Addr} {fd fdM : FuncData} (F : Fun K "_law_take" "_law_take" sTake f fd) (FM : FnOk P w K mg base CX0 1 fM fdM ["_law_cell", "_law_draw"] spMixed) (gM : mg "_law_mixed" = some (.ref fM)) (kM : PySem.W.keepIn K (.ref fM) = true) (bM : Binds K fdM ["_law_cell", "_law_draw"] []) (mi : mg "int" = none) :
    FnOk P w K mg base CX0 2 f fd ["_law_source_here", "_law_bound"] spTake := by
  refine F.ok scTk (fun vs H Q E h => ?_) (fun cdv A outer s H vs Q E hr h => ⟨tTake K, body_take FM gM kM bM mi f cdv A outer s H E hr, pure_take vs H Q E h⟩)
  obtain ⟨_, _, _, _, rfl, _⟩ := h
  rfl
end
end Err
/-! The great integer. -/
namespace Err
open PySem PySem.Spec PyProof.Rows L2 PySem.ErrKw
section
variable {P : Program} {w : World} {K : PySem.W.Frag} {mg : Str → Option Value} {base : Heap} {C FI : Nat → Addr} {S : Addr}
/-- ** with a great result -/
def CPowB (i j : Int) : Prop := 0 ≤ j ∧ (Builtin.Int.intBits i : Int) * j ≤ 2 ^ 27
theorem op_powB {X : Cx} : OpR X (binaryOp .Pow) (rI CPowB fun i j => .int (i ^ j.toNat)) := opI fun _ _ _ _ _ _ _ hc q => pow_int hc.1 hc.2 q
abbrev sHuge : Stmt := topS 24
abbrev NH : List Str := ["_law_huge", "_law_some"]
theorem scH : FnScope NH [] (defScope sHuge) := ⟨rfl, rfl, rfl, by decide +kernel, rfl, by decide +kernel, by decide +kernel⟩
abbrev tHe (P : Program) (K : PySem.W.Frag) (mg : Str → Option Value) (C : Nat → Addr) (i : Nat) : TE := tErrF P K mg (fdOf.getD i "") (tErr (C i) (fdOf.getD i "") (tVar 0))
def tHes (P : Program) (K : PySem.W.Frag) (mg : Str → Option Value) (C : Nat → Addr) : List Nat → TA
  | [] => L2.tNil
  | i :: r => tCons (tHe P K mg C i) (tHes P K mg C r)
abbrev rPoB : R2 := rI CPowB fun i j => .int (i ^ j.toNat)
abbrev rMuW : R2 := rI CMulW fun i j => .int (i * j)
def tHuge (P : Program) (K : PySem.W.Frag) (mg : Str → Option Value) (C : Nat → Addr) : TS :=
  tSeq (tAsg (tOp rMuW (tOp rPoB (tOp rPo (cI 10) (cI 64)) (cI 64)) (tOp rPoB (tOp rPo (cI 10) (cI 64)) (cI 8))) (gName 0))
  (tSeq (tAsg (tLst (tHes P K mg C [0, 1, 2, 3])) (gName 1))
  (tSeq (tAsg (tOp rCat (tVar 1) (tLst (tHes P K mg C [4, 5, 6]))) (gName 1))
  (tSeq (tAsg (tOp rCat (tVar 1) (tLst (tHes P K mg C [7, 8, 9, 10]))) (gName 1))
  (tRet (tOp (rEqD K) (tOp rCat (tVar 1) (tLst (tHes P K mg C [11, 12]))) (tOp L2.rRep (tLst (tCons (tVar 0) tNil)) (cI 13)))))))
theorem pe_he {X : Cx} {i : Nat} {x fld : Str} {p1 p2 p3 p4 : Pos} (T : Errs X.prog X.K X.mg C FI S) (hi : i < 13) (hx : x = nmOf.getD i "") (hf : fld = fdOf.getD i "") (B : Giv fld) (hr : Room 1 X.A) (h0 : X.N[0]? = some ("_law_huge" : Str)) (v0 : Vis X.env.scope "_law_huge") (hg : Gl X x)
    (hd : (x == ("__debug__" : Str)) = false) (hpl : (backTo p3 (starEach [] X.env)).any (·.1) = false := by rfl)
    (hb : attributeBase (.Call (.Name x p1) [.Name "_law_huge" p2] [] p3) fld X.env (eval (.Call (.Name x p1) [.Name "_law_huge" p2] [] p3) X.env) = eval (.Call (.Name x p1) [.Name "_law_huge" p2] [] p3) X.env := by rfl) :
    PE X (.Attribute (.Call (.Name x p1) [.Name "_law_huge" p2] [] p3) fld p4) (tHe X.prog X.K X.mg C i) := by
  subst hx
  subst hf
  exact pe_errF (pe_err (T.err i hi) B hr (pe_var (i := 0) h0 v0) hg hd) hb
theorem body_huge (T : Errs P K mg C FI S) (f : Addr) (cdv : Value) (A : Around) (outer : List Env) (st : Shared) (H : Hp) (E : XK) (hr : Room 1 (A.deeper (envOfC "_law_huge_right" (defScope sHuge) st.heap.objs.size f cdv))) :
    PSs (cxOf CX0 P w K mg base NH "_law_huge_right" (defScope sHuge) f cdv A outer st H E).nox (defBody sHuge) (tHuge P K mg C) := by
  unfold tHuge
  have hr1 : Room 1 (cxOf CX0 P w K mg base NH "_law_huge_right" (defScope sHuge) f cdv A outer st H E).nox.A := hr
  have hu : (cxOf CX0 P w K mg base NH "_law_huge_right" (defScope sHuge) f cdv A outer st H E).nox.A.units + 64 < cLine := hr.units
  refine pss_cons (ps_set (i := 0) scH.nd rfl (.inl rfl) ?a) (pss_cons (ps_set (i := 1) scH.nd rfl (.inl rfl) ?b) (pss_cons (ps_set (i := 1) scH.nd rfl (.inl rfl) (pe_op op_cat (pv 1) ?c)) (pss_cons (ps_set (i := 1) scH.nd rfl (.inl rfl) (pe_op op_cat (pv 1) ?d)) (pss_one (ps_ret (pe_cmpR (op_eqD hu) (pe_op op_cat (pv 1) ?e) (pe_op op_rep (pe_lst (pa_cons (pv 0) pa_nil)) pe_int) rfl))))))
  case a => exact pe_op op_mulW (pe_op op_powB (pe_op op_pow pe_int pe_int) pe_int) (pe_op op_powB (pe_op op_pow pe_int pe_int) pe_int)
  case b => exact pe_lst (pa_cons (pe_he T (i := 0) (by decide) rfl rfl given_path hr1 rfl (Or.inl rfl) rfl (by decide)) (pa_cons (pe_he T (i := 1) (by decide) rfl rfl given_place hr1 rfl (Or.inl rfl) rfl (by decide)) (pa_cons (pe_he T (i := 2) (by decide) rfl rfl given_index hr1 rfl (Or.inl rfl) rfl (by decide)) (pa_cons (pe_he T (i := 3) (by decide) rfl rfl given_name hr1 rfl (Or.inl rfl) rfl (by decide)) pa_nil))))
  case c => exact pe_lst (pa_cons (pe_he T (i := 4) (by decide) rfl rfl given_path hr1 rfl (Or.inl rfl) rfl (by decide)) (pa_cons (pe_he T (i := 5) (by decide) rfl rfl given_name hr1 rfl (Or.inl rfl) rfl (by decide)) (pa_cons (pe_he T (i := 6) (by decide) rfl rfl given_index hr1 rfl (Or.inl rfl) rfl (by decide)) pa_nil)))
  case d => exact pe_lst (pa_cons (pe_he T (i := 7) (by decide) rfl rfl given_index hr1 rfl (Or.inl rfl) rfl (by decide)) (pa_cons (pe_he T (i := 8) (by decide) rfl rfl given_name hr1 rfl (Or.inl rfl) rfl (by decide)) (pa_cons (pe_he T (i := 9) (by decide) rfl rfl given_index hr1 rfl (Or.inl rfl) rfl (by decide)) (pa_cons (pe_he T (i := 10) (by decide) rfl rfl given_name hr1 rfl (Or.inl rfl) rfl (by decide)) pa_nil))))
  case e => exact pe_lst (pa_cons (pe_he T (i := 11) (by decide) rfl rfl given_status hr1 rfl (Or.inl rfl) rfl (by decide)) (pa_cons (pe_he T (i := 12) (by decide) rfl rfl given_limit hr1 rfl (Or.inl rfl) rfl (by decide)) pa_nil))
theorem hes_ok (T : Errs P K mg C FI S) {σ : L2.St} {v : V} (s0 : σ[0]? = some (some v)) : ∀ (is : List Nat) (H : Hp) (Q : List V → Hp → Prop), (∀ i ∈ is, i < 13) → (∀ G, Ext H G → Q (List.replicate is.length v) G) → tHes P K mg C is σ H Q
  | [], H, Q, _, k => k H (fun _ _ z => z)
  | i :: r, H, Q, hi, k => by
    refine ⟨v, s0, fun e d n m ne => ?_⟩
    have x1 : Ext H (upd (upd H d (exd d [(fdOf.getD i "", v)])) e (exo e (C i) (some d))) := fun b o z => by
      rw [upd_ne (ne_of_none z n), upd_ne (ne_of_none z m)]
      exact z
    refine ⟨e, _, C i, FI i, v, rfl, T.err i (hi i List.mem_cons_self), ⟨d, upd_same, by rw [upd_ne ne]; exact upd_same⟩, ?_⟩
    exact hes_ok T s0 r _ _ (fun j hj => hi j (List.mem_cons_of_mem _ hj)) fun G x2 => k G (x1.trans x2)
def spHuge : Sp := fun vs H Q _ => vs = [] ∧ ∀ H', Ext H H' → Q (.bl true) H'
theorem rep_dp {K : PySem.W.Frag} {H : Hp} (h : Int) : ∀ n : Nat, DpAll K H (List.replicate n (V.int h)) (List.replicate n (.int h))
  | 0 => .nil
  | n + 1 => .cons (.int h) (rep_dp h n)
theorem pb1 : CPowB (10 ^ Int.toNat 64) 64 := ⟨by decide, by decide +kernel⟩
theorem pb2 : CPowB (10 ^ Int.toNat 64) 8 := ⟨by decide, by decide +kernel⟩
theorem pb3 : CMulW ((10 ^ Int.toNat 64) ^ Int.toNat 64) ((10 ^ Int.toNat 64) ^ Int.toNat 8) := by
  unfold CMulW
  decide +kernel
theorem pure_huge (T : Errs P K mg C FI S) (vs : List V) (H : Hp) (Q : VK) (E : XK) (h : spHuge vs H Q E) : tHuge P K mg C { nx := fun _ H' => Q .non H', rt := Q } (start NH vs) H := by
  obtain ⟨rfl, k⟩ := h
  unfold tHuge
  have line : ∀ n : Nat, n ≤ 100 → n ≤ sizeLine := fun n hn => by rw [sizeLine_eq]; omega
  have cat : ∀ {σ : L2.St} {G : Hp} {l : Addr} {n : Nat} {h : Int} {is : List Nat} {Q' : VK}, σ[0]? = some (some (.int h)) → σ[1]? = some (some (.ref l)) → G l = some (.lst (List.replicate n (.int h))) → (∀ i ∈ is, i < 13) → n + is.length ≤ 100 →
      (∀ p G', Ext G G' → G' p = some (.lst (List.replicate (n + is.length) (.int h))) → Q' (.ref p) G') → tOp rCat (tVar 1) (tLst (tHes P K mg C is)) σ G Q' := by
    intro σ G l n h is Q' s0 s1 hl hi small kk
    refine ⟨_, s1, hes_ok T s0 is G _ hi fun G1 x1 => ⟨line _ (by simp; omega), fun q nq => ?_⟩⟩
    have l1 := x1 _ _ hl
    refine ⟨l, q, _, _, rfl, rfl, (by rw [upd_ne (ne_of_none l1 nq)]; exact l1), upd_same, line _ (by simpa using small), fun p np => ?_⟩
    refine kk p _ ((x1.trans (Ext.upd nq)).trans (Ext.upd np)) ?_
    rw [upd_same, List.replicate_append_replicate]
  refine ⟨_, _, rfl, rfl, ⟨by decide, by decide, by decide⟩, _, _, rfl, rfl, pb1, _, _, rfl, rfl, ⟨by decide, by decide, by decide⟩, _, _, rfl, rfl, pb2, _, _, rfl, rfl, pb3, ?_⟩
  dsimp only [tSeq, tAsg, gName, tRet, L2.tLst]
  generalize (((10 : Int) ^ (64 : Int).toNat) ^ (64 : Int).toNat * ((10 : Int) ^ (64 : Int).toNat) ^ (8 : Int).toNat) = h
  refine hes_ok T (σ := [some (.int h), none]) (v := .int h) rfl [0, 1, 2, 3] H _ (by decide) fun G1 x1 => ⟨line 4 (by decide), fun p1 n1 => ?_⟩
  refine cat (σ := [some (.int h), some (.ref p1)]) (l := p1) (n := 4) (h := h) rfl rfl upd_same (by decide) (by decide) fun p2 G2 x2 l2 => ?_
  refine cat (σ := [some (.int h), some (.ref p2)]) (l := p2) (n := 7) (h := h) rfl rfl l2 (by decide) (by decide) fun p3 G3 x3 l3 => ?_
  refine cat (σ := [some (.int h), some (.ref p3)]) (l := p3) (n := 11) (h := h) rfl rfl l3 (by decide) (by decide) fun p4 G4 x4 l4 => ?_
  refine ⟨_, rfl, line 1 (by decide), fun p5 n5 => ⟨p5, 13, _, rfl, rfl, upd_same, (by decide), (by decide), line 13 (by decide), fun p6 n6 => ?_⟩⟩
  have l5 : upd G4 p5 (.lst [V.int h]) p4 = some (.lst (List.replicate 13 (.int h))) := by rw [upd_ne (ne_of_none l4 n5)]; exact l4
  refine ⟨.list (List.replicate 13 (.int h)), .list (List.replicate 13 (.int h)), .lst (Or.inl (Or.inl ?_)) (rep_dp h 13), .lst (Or.inl (Or.inl upd_same)) (rep_dp h 13), rfl, rfl, ?_⟩
  · rw [upd_ne (ne_of_none l5 n6)]
    exact l5
  · rw [PySem.SeqAt.eqv_refl_plain _ rfl]
    exact k _ (((((x1.trans (Ext.upd n1)).trans x2).trans x3).trans x4).trans ((Ext.upd n5).trans (Ext.upd n6)))
theorem ok_huge {f : Addr} {fd : FuncData} (F : Fun K "_law_huge_right" "_law_huge_right" sHuge f fd) (T : Errs P K mg C FI S) : FnOk P w K mg base CX0 2 f fd [] spHuge := by
  refine F.ok scH (fun vs H Q E h => ?_) (fun cdv A outer s H vs Q E hr h => ⟨tHuge P K mg C, body_huge T f cdv A outer s H E hr, pure_huge T vs H Q E h⟩)
  obtain ⟨rfl, _⟩ := h
  rfl
end
end Err
/-! The law itself. -/
namespace Err
open PySem PySem.Spec PyProof.Rows L2 PySem.ErrKw
section
variable {P : Program} {w : World} {K : PySem.W.Frag} {mg : Str → Option Value} {base : Heap} {C FI : Nat → Addr} {S : Addr}
/-- a list that is read, and a new one behind it -/
def rCatL (K : PySem.W.Frag) : R2 := fun x y H Q => ∃ l b xs zs, x = .ref l ∧ y = .ref b ∧ SqL K H l xs ∧ H b = some (.lst zs) ∧ xs.length + zs.length ≤ sizeLine ∧ ∀ p, H p = none → Q (.ref p) (upd H p (.lst (xs ++ zs)))
theorem op_catL {X : Cx} : OpR X (binaryOp .Add) (rCatL X.K) := by
  intro pins s σ H x y v u Q I rx ry h
  obtain ⟨l, b, xs, zs, rfl, rfl, hl, hb, hz, q⟩ := h
  obtain rfl : v = .ref l := rx
  obtain rfl : u = .ref b := ry
  obtain ⟨as, ra, ⟨⟨c1, d1, da1, sl1⟩, n1, g1, k1, _, e1⟩, _⟩ := I.list hl
  obtain ⟨_, bs, n2, rb, _, g2⟩ := I.lstM hb
  simp only at k1 e1
  subst k1 e1
  have la := ra.length
  have lb := rb.length
  refine concat_meets (T := "list") ⟨_, g1, rfl⟩ ⟨_, g2, rfl⟩ noFill_list_add seq_list_add PySem.F.slot_list_add PySem.F.entry_list_add (PySem.F.args_list_add_2 _ _)
    (list_addW l b as.toArray bs.toArray n1 n2 d1 none sl1 #[] (by rw [List.size_toArray, List.size_toArray]; omega)) ⟨g1, g2, ?_⟩
  have ea : as.toArray ++ bs.toArray = (as ++ bs).toArray := by simp
  rw [ea]
  exact ⟨.ref _, _, I.lnew (t' := s.toks) (ra.append rb) (by rw [List.length_append]; omega), rfl, q _ I.fresh⟩
/-! ### the things -/
theorem upd_keep {H : Hp} {l : Addr} {o : HO} : ∀ b u, b ≠ l → H b = some u → upd H l o b = some u := fun b u n z => by rw [upd_ne n]; exact z
def some12 (far : Int) (p1 p2 p3 p5 p6 : Addr) : List V := [.int far, .str "A", .str "", .non, .bl true, .ref p1, .ref p2, .ref p3, .ref p5, .int (-1), .int (10 ^ (20 : Int).toNat), .ref p6]
structure Facts (far : Int) (p1 p2 p3 p4 p5 p6 : Addr) (H : Hp) : Prop where
  h1 : H p1 = some (.tup [.int 0, .int 1])
  h2 : H p2 = some (.lst [.int far])
  h3 : H p3 = some (.dK [(.inr "b", .int 1)])
  h4 : H p4 = some (.tup [.int 2, .int 1])
  h5 : H p5 = some (.tup [.ref p4, .int 7])
  h6 : H p6 = some (.dK [])
theorem tup_at {H : Hp} {a : Addr} {xs : List V} (h : H a = some (.tup xs)) : SqT K H a xs := Or.inl (Or.inl h)
theorem lst_at {H : Hp} {a : Addr} {xs : List V} (h : H a = some (.lst xs)) : SqL K H a xs := Or.inl (Or.inl h)
theorem things_ok {far : Int} {p1 p2 p3 p4 p5 p6 : Addr} {H : Hp} (small : far.natAbs.log2 < 1900) (F : Facts far p1 p2 p3 p4 p5 p6 H) : ∀ x ∈ some12 far p1 p2 p3 p5 p6, ∃ d, ∀ H', Ext H H' → Thing K H' x d := by
  have sh : (PyData.int far).showable = true := decide_eq_true (Nat.lt_of_lt_of_le small (by decide))
  have ln : (PyData.int far).shown.length ≤ 1901 := by
    have z := int_text_length_le (a := far) (k := 1900) (by decide) small
    show (Str.ofString (toString far)).length ≤ 1901
    rw [PySem.ofString_length]
    exact z
  intro x hx
  unfold some12 at hx
  simp only [List.mem_cons, List.not_mem_nil, or_false] at hx
  rcases hx with rfl | rfl | rfl | rfl | rfl | rfl | rfl | rfl | rfl | rfl | rfl | rfl
  · exact ⟨.int far, fun H' _ => .flat (.int _) sh rfl rfl (Nat.le_of_ble_eq_true rfl) (by rw [sizeLine_eq]; omega) (PySem.SeqAt.eqv_refl_plain _ rfl)⟩
  · exact ⟨.str "A", fun H' _ => .flat (.str _) rfl rfl (by decide +kernel) (by decide +kernel) (by decide +kernel) (by decide +kernel)⟩
  · exact ⟨.str "", fun H' _ => .flat (.str _) rfl rfl (by decide +kernel) (by decide +kernel) (by decide +kernel) (by decide +kernel)⟩
  · exact ⟨.none, fun H' _ => .flat .non rfl rfl rfl (by decide +kernel) (by decide +kernel) (by decide +kernel)⟩
  · exact ⟨.bool true, fun H' _ => .flat (.bl _) rfl rfl rfl (by decide +kernel) (by decide +kernel) (by decide +kernel)⟩
  · exact ⟨.tuple [.int 0, .int 1], fun H' e => .flat (.tup (tup_at (e _ _ F.h1)) (.cons (.int _) (.cons (.int _) .nil))) (by decide +kernel) rfl rfl (by decide +kernel) (by decide +kernel) (by decide +kernel)⟩
  · refine ⟨.list [.int far], fun H' e => .flat (.lst (lst_at (e _ _ F.h2)) (.cons (.int _) .nil)) ?_ rfl rfl ?_ ?_ (PySem.SeqAt.eqv_refl_plain _ rfl)⟩
    · simp only [PyData.showable, PyData.showableAll, Bool.and_true]
      exact decide_eq_true (Nat.lt_of_lt_of_le small (by decide))
    · exact Nat.le_of_ble_eq_true rfl
    · have e1 : (PyData.list [.int far]).shown = ((Str.ofString "[" ++ Str.ofString "") ++ (PyData.int far).shown) ++ Str.ofString "]" := rfl
      have a1 : (Str.ofString "[").length = 1 := by decide +kernel
      have a2 : (Str.ofString "").length = 0 := by decide +kernel
      have a3 : (Str.ofString "]").length = 1 := by decide +kernel
      rw [e1, Str.length_append, Str.length_append, Str.length_append, a1, a2, a3, sizeLine_eq]
      omega
  · exact ⟨_, fun H' e => .one (e _ _ F.h3)⟩
  · exact ⟨.tuple [.tuple [.int 2, .int 1], .int 7], fun H' e => .flat (.tup (tup_at (e _ _ F.h5)) (.cons (.tup (tup_at (e _ _ F.h4)) (.cons (.int _) (.cons (.int _) .nil))) (.cons (.int _) .nil))) (by decide +kernel) rfl rfl (by decide +kernel) (by decide +kernel) (by decide +kernel)⟩
  · exact ⟨.int (-1), fun H' _ => .flat (.int _) (by decide +kernel) rfl rfl (by decide +kernel) (by decide +kernel) (by decide +kernel)⟩
  · exact ⟨.int (10 ^ (20 : Int).toNat), fun H' _ => .flat (.int _) (by decide +kernel) rfl rfl (by decide +kernel) (by decide +kernel) (by decide +kernel)⟩
  · exact ⟨_, fun H' e => .empty (e _ _ F.h6)⟩
theorem far_small (c : Int) : (c % (2 * 10 ^ (40 : Int).toNat + 1) - 10 ^ (40 : Int).toNat : Int).natAbs.log2 < 1900 := by
  refine Nat.lt_of_lt_of_le (PySem.Flt.log2_lt_of (k := 134) (by decide) ?_) (by decide)
  have e : (10 : Int) ^ (40 : Int).toNat = 10000000000000000000000000000000000000000 := by decide +kernel
  rw [e]
  have z1 : 0 ≤ c % (2 * 10000000000000000000000000000000000000000 + 1) := Int.emod_nonneg _ (by decide)
  have z2 : c % (2 * 10000000000000000000000000000000000000000 + 1) < 2 * 10000000000000000000000000000000000000000 + 1 := Int.emod_lt_of_pos _ (by decide)
  have e2 : (2 : Nat) ^ 134 = 21778071482940061661655974875633165533184 := by decide +kernel
  rw [e2]
  omega
theorem at_mem {xs : List V} {r : Int} (h0 : 0 ≤ r) (h : r < xs.length) : ∃ x, x ∈ xs ∧ atI xs r = some x := by
  have hn : r.toNat < xs.length := by omega
  refine ⟨xs[r.toNat], List.getElem_mem hn, ?_⟩
  have z := atI_nat (xs := xs) (j := r.toNat) (v := xs[r.toNat]) (List.getElem?_eq_getElem hn)
  rw [Int.toNat_of_nonneg h0] at z
  exact z
end
end Err
/-! The law itself. -/
namespace Err
open PySem PySem.Spec PyProof.Rows L2 PySem.ErrKw
structure GoO (P : Program) (w : World) (K : PySem.W.Frag) (mg : Str → Option Value) (base : Heap) (n : Nat) (x : Str) (ps : List Str) (sp : Sp) : Prop where
  ex : ∃ f fd, FnOk P w K mg base CX0 n f fd ps sp ∧ mg x = some (.ref f) ∧ PySem.W.keepIn K (.ref f) = true ∧ Binds K fd ps []
structure GoG (P : Program) (w : World) (K : PySem.W.Frag) (mg : Str → Option Value) (base : Heap) (n : Nat) (x : Str) (ps : List Str) (sp : Sp) : Prop where
  ex : ∃ f fd, FnG P w K mg base n f fd ps sp ∧ mg x = some (.ref f) ∧ PySem.W.keepIn K (.ref f) = true ∧ Binds K fd ps []
section
variable {X : Cx} {n : Nat} {x : Str} {ps : List Str} {sp : Sp} {p pos : Pos} {e : Expr} {es : List Expr} {t : TA}
abbrev NX : XK := fun _ _ _ => False
theorem go0 (G : GoO X.prog X.w X.K X.mg X.base n x ps sp) (hr : Room n X.A) (hg : Gl X x) (hdb : (x == ("__debug__" : Str)) = false := by decide) : PE X (.Call (.Name x p) [] [] pos) (tCall sp [] NX L2.tNil) := by
  obtain ⟨f, fd, F, g, k, b⟩ := G.ex
  exact pe_call0 F hr hg g k b .nil pass0 hdb
theorem goO (G : GoO X.prog X.w X.K X.mg X.base n x ps sp) (hr : Room n X.A) (hg : Gl X x) (ha : PA X (e :: es) t) (hdb : (x == ("__debug__" : Str)) = false := by decide)
    (he : starEach (e :: es) X.env = (false, eval e X.env) :: starEach es X.env := by rfl) (hpl : (backTo pos (starEach es X.env)).any (·.1) = false := by rfl) : PE X (.Call (.Name x p) (e :: es) [] pos) (tCall sp [] NX t) := by
  obtain ⟨f, fd, F, g, k, b⟩ := G.ex
  exact pe_call F hr hg g k b .nil pass0 ha hdb he hpl
theorem goG (G : GoG X.prog X.w X.K X.mg X.base n x ps sp) (gu : X.A.guards = some []) (hr : Room n X.A) (hg : Gl X x) (ha : PA X (e :: es) t) (hdb : (x == ("__debug__" : Str)) = false := by decide)
    (he : starEach (e :: es) X.env = (false, eval e X.env) :: starEach es X.env := by rfl) (hpl : (backTo pos (starEach es X.env)).any (·.1) = false := by rfl) : PE X (.Call (.Name x p) (e :: es) [] pos) (tCall sp [] NX t) := by
  obtain ⟨f, fd, F, g, k, b⟩ := G.ex
  exact pe_callG F gu hr hg g k b ha hdb he hpl
end
structure Law (P : Program) (w : World) (K : PySem.W.Frag) (mg : Str → Option Value) (base : Heap) : Prop where
  huge : GoO P w K mg base 2 "_law_huge_right" [] spHuge
  source : GoO P w K mg base 1 "_law_source" ["_law_cell"] spSource
  take : GoO P w K mg base 2 "_law_take" ["_law_source_here", "_law_bound"] spTake
  first : GoG P w K mg base 3 "_law_first_errors" ["_law_thing"] (spErrs K)
  middle : GoG P w K mg base 3 "_law_middle_errors" ["_law_thing"] (spErrs K)
  last : GoG P w K mg base 3 "_law_last_errors" ["_law_thing"] (spErrs K)
  mi : mg "int" = none
  mR : mg "range" = none
section
variable {P : Program} {w : World} {K : PySem.W.Frag} {mg : Str → Option Value} {base : Heap}
abbrev sLaw : Stmt := topS 25
abbrev NL : List Str := ["_law_script", "_law_cell", "_law_source_here", "_law_far", "_law_some", "_law_k", "_law_thing"]
theorem scLw : FnScope NL ["_law_script"] (defScope sLaw) := ⟨rfl, rfl, rfl, by decide +kernel, rfl, by decide +kernel, by decide +kernel⟩
abbrev tGo (sp : Sp) (i : Nat) : TT := tNot (tB (tCall sp [] NX (tCons (tVar i) L2.tNil)))
def tTurn (K : PySem.W.Frag) : TS :=
  tSeq (tAsg (tOp (rIxL K) (tVar 4) (tCall spTake [] NX (tCons (tVar 2) (tCons (cI 12) L2.tNil)))) (gName 6))
    (tIfS (tOr (tGo (spErrs K) 6) (tOr (tGo (spErrs K) 6) (tGo (spErrs K) 6))) (tRet (tC (.bl false))) tNext)
def tFar : TE := tOp rSu (tOp rMo (tInt (tVar 1)) (tOp rAd (tOp rMu (cI 2) (tOp rPo (cI 10) (cI 40))) (cI 1))) (tOp rPo (cI 10) (cI 40))
abbrev tT2 (i j : Int) : TE := tTup (tCons (cI i) (tCons (cI j) L2.tNil))
abbrev tSt (x : Str) : TE := tC (.str x)
def tSome : TE :=
  tLst (tCons (tVar 3) (tCons (tSt "A") (tCons (tSt "") (tCons (tC .non) (tCons (tC (.bl true)) (tCons (tT2 0 1) (tCons (L2.tLst (tCons (tVar 3) L2.tNil)) (tCons (tDisp [(tSt "b", cI 1)]) (tCons (tTup (tCons (tT2 2 1) (tCons (cI 7) L2.tNil)))
    (tCons (tUn (rU fun i => .int (-i)) (cI 1)) (tCons (tOp rPo (cI 10) (cI 20)) (tCons tDNewK L2.tNil))))))))))))
def tCell (K : PySem.W.Frag) : TS :=
  tSeq (tAsg (tCall spSource [] NX (tCons (tVar 1) L2.tNil)) (gName 2))
  (tSeq (tAsg tFar (gName 3))
  (tSeq (tAsg tSome (gName 4))
  (tFor (iRng1 (tCons (cI 4) L2.tNil)) (gName 5) (tTurn K))))
def tLaw (K : PySem.W.Frag) : TS :=
  tSeq (tIfS (tNot (tB (tCall spHuge [] NX L2.tNil))) (tRet (tC (.bl false))) tNext)
  (tSeq (tFor (iList K (tSl (rSlL K) (tOp (rCatL K) (tVar 0) (L2.tLst (tCons (cI 0) L2.tNil))) tNoPart (tPart (cI 3)))) (gName 1) (tCell K))
  (tRet (tC (.bl true))))
theorem body_law (Y : Law P w K mg base) (f : Addr) (cdv : Value) (A : Around) (outer : List Env) (st : Shared) (H : Hp) (E : XK) (gu : A.guards = some []) (hr : Room 3 (A.deeper (envOfC "law" (defScope sLaw) st.heap.objs.size f cdv))) :
    PSs (cxOf CX0 P w K mg base NL "law" (defScope sLaw) f cdv A outer st H E) (defBody sLaw) (tLaw K) := by
  unfold tLaw
  have hr3 : Room 3 (cxOf CX0 P w K mg base NL "law" (defScope sLaw) f cdv A outer st H E).A := hr
  have hr2 := hr3.mono (show 2 ≤ 3 by decide)
  have hr1 := hr3.mono (show 1 ≤ 3 by decide)
  have hgu : (cxOf CX0 P w K mg base NL "law" (defScope sLaw) f cdv A outer st H E).A.guards = some [] := gu
  refine pss_cons (ps_if (pt_not (pt_val (go0 Y.huge hr2 rfl))) (pss_one (ps_ret pe_bl)) pss_nil)
    (pss_cons (ps_for (passes_of rfl) rfl (pi_list (pe_slice sl_list (pe_op op_catL (pv 0) (pe_lst (pa_cons pe_int pa_nil))) po_none (po_some pe_int))) (pg_name (i := 1) scLw.nd rfl (.inl rfl)) ?loop)
    (pss_one (ps_ret pe_bl)))
  unfold tCell
  refine pss_cons (ps_set (i := 2) scLw.nd rfl (.inl rfl) (goO Y.source hr1 rfl (pa_cons (pv 1) pa_nil)))
    (pss_cons (ps_set (i := 3) scLw.nd rfl (.inl rfl) ?far) (pss_cons (ps_set (i := 4) scLw.nd rfl (.inl rfl) ?things)
    (pss_one (ps_for (passes_of rfl) rfl (pi_range1 rfl Y.mR (pa_cons pe_int pa_nil)) (pg_name (i := 5) scLw.nd rfl (.inl rfl)) ?turn))))
  case far => exact pe_op op_sub (pe_op op_mod (pe_intc Y.mi rfl (pv 1)) (pe_op op_add (pe_op op_mul pe_int (pe_op op_pow pe_int pe_int)) pe_int)) (pe_op op_pow pe_int pe_int)
  case things =>
    exact pe_lst (pa_cons (pv 3) (pa_cons pe_str (pa_cons pe_str (pa_cons pe_non (pa_cons pe_bl (pa_cons (pe_tup (pa_cons pe_int (pa_cons pe_int pa_nil))) (pa_cons (pe_lst (pa_cons (pv 3) pa_nil))
      (pa_cons (pe_disp (pps_cons pe_str pe_int pps_nil) rfl rfl (by simp) (by decide)) (pa_cons (pe_tup (pa_cons (pe_tup (pa_cons pe_int (pa_cons pe_int pa_nil))) (pa_cons pe_int pa_nil))) (pa_cons (pe_un un_neg pe_int) (pa_cons (pe_op op_pow pe_int pe_int) (pa_cons pe_dnewK pa_nil))))))))))))
  case turn =>
    unfold tTurn
    refine pss_cons (ps_set (i := 6) scLw.nd rfl (.inl rfl) (pe_ix ix_list (pv 4) (goO Y.take hr2 rfl (pa_cons (pv 2) (pa_cons pe_int pa_nil))) fun _ _ => rfl)) (pss_one (ps_if (PW.pt ?test) (pss_one (ps_ret pe_bl)) pss_nil))
    exact pw_or (pt_not (pt_val (goG Y.first hgu hr3 rfl (pa_cons (pv 6) pa_nil)))) (pw_or (pt_not (pt_val (goG Y.middle hgu hr3 rfl (pa_cons (pv 6) pa_nil)))) (pw_or1 (pt_not (pt_val (goG Y.last hgu hr3 rfl (pa_cons (pv 6) pa_nil))))))
def spLaw (K : PySem.W.Frag) : Sp := fun vs H Q _ => ∃ (a : Addr) (ns : List Int), vs = [.ref a] ∧ SqL K H a (ns.map V.int) ∧ ns.length ≤ 63 ∧ ∀ H', Q (.bl true) H'
end
end Err
/-! The law's readings. -/
namespace Err
open PySem PySem.Spec PyProof.Rows L2 PySem.ErrKw
section
variable {P : Program} {w : World} {K : PySem.W.Frag} {mg : Str → Option Value} {base : Heap}
def Kept (l : Addr) (G H : Hp) : Prop := ∀ b o, b ≠ l → G b = some o → H b = some o
theorem Kept.upd {l : Addr} {G : Hp} {o : HO} : Kept l G (upd G l o) := fun b u n z => by rw [upd_ne n]; exact z
theorem Kept.ext {l : Addr} {G H H' : Hp} (k : Kept l G H) (e : Ext H H') : Kept l G H' := fun b o n z => e _ _ (k b o n z)
theorem Kept.trans {l : Addr} {G H H' : Hp} (k : Kept l G H) (e : Kept l H H') : Kept l G H' := fun b o n z => e b o n (k b o n z)
theorem Facts.kept {l : Addr} {far : Int} {p1 p2 p3 p4 p5 p6 : Addr} {G H : Hp} (F : Facts far p1 p2 p3 p4 p5 p6 G) (n1 : p1 ≠ l) (n2 : p2 ≠ l) (n3 : p3 ≠ l) (n4 : p4 ≠ l) (n5 : p5 ≠ l) (n6 : p6 ≠ l) (k : Kept l G H) : Facts far p1 p2 p3 p4 p5 p6 H :=
  ⟨k _ _ n1 F.h1, k _ _ n2 F.h2, k _ _ n3 F.h3, k _ _ n4 F.h4, k _ _ n5 F.h5, k _ _ n6 F.h6⟩
theorem turn_ok {v0 v1 v3 v5 v6 : Option V} {l q : Addr} {a c n : Int} {xs : List V} {H : Hp} {D : Ends} (hl : H l = some (.lst [.int a, .int c, .int n])) (hq : H q = some (.lst xs)) (ql : q ≠ l) (len : xs.length = 12)
    (th : ∀ H', Kept l H H' → ∀ x ∈ xs, ∃ d, ∀ H'', Ext H' H'' → Thing K H'' x d)
    (k : ∀ (H' : Hp) (a' n' : Int) (x : V), H' l = some (.lst [.int a', .int c, .int n']) → Kept l H H' → D.nx [v0, v1, some (.ref l), v3, some (.ref q), v5, some x] H') :
    tTurn K D [v0, v1, some (.ref l), v3, some (.ref q), v5, v6] H := by
  refine ⟨_, rfl, _, rfl, l, a, c, n, rfl, hl, fun r a' n' r0 r1 => ?_⟩
  have k1 : Kept l H (upd H l (.lst [.int a', .int c, .int n'])) := Kept.upd
  obtain ⟨x, hx, ax⟩ := at_mem (xs := xs) r0 (by omega)
  obtain ⟨d, hd⟩ := th _ k1 x hx
  refine ⟨q, xs, r, x, rfl, rfl, lst_at (k1 _ _ ql hq), ax, ?_⟩
  refine ⟨_, rfl, x, d, rfl, hd, fun H2 e2 => ⟨true, rfl, ?_⟩⟩
  refine if_no rfl ?_
  refine ⟨_, rfl, x, d, rfl, fun H' e => hd _ (e2.trans e), fun H3 e3 => ⟨true, rfl, ?_⟩⟩
  refine if_no rfl ?_
  refine ⟨_, rfl, x, d, rfl, fun H' e => hd _ ((e2.trans e3).trans e), fun H4 e4 => ⟨true, rfl, ?_⟩⟩
  refine if_no rfl ?_
  have e5 := (e2.trans e3).trans e4
  exact k H4 a' n' x (e5 _ _ upd_same) (k1.ext e5)
theorem line (n : Nat) (h : n ≤ 100) : n ≤ sizeLine := by rw [sizeLine_eq]; omega
theorem mk1 : mergeK [] [(Sum.inr ("b" : Str), V.int 1)] = [(.inr "b", .int 1)] := rfl
theorem rest_ok {v0 v4 v5 v6 : Option V} {c far : Int} {l : Addr} {G1 : Hp} {D : Ends} (small : far.natAbs.log2 < 1900) (hl1 : G1 l = some (.lst [.int c, .int c, .int 0]))
    (k : ∀ (H' : Hp) (v2 v3 v4 v5 v6 : Option V), Kept l G1 H' → D.nx [v0, some (.int c), v2, v3, v4, v5, v6] H') :
    tSeq (tAsg tSome (gName 4)) (tFor (iRng1 (tCons (cI 4) L2.tNil)) (gName 5) (tTurn K)) D [v0, some (.int c), some (.ref l), some (.int far), v4, v5, v6] G1 := by
  refine ⟨_, rfl, line 2 (by decide), fun p1 n1 => ⟨_, rfl, line 1 (by decide), fun p2 n2 p3 n3 => ⟨upd_same, [(.inr "b", .int 1)], rfl, (by decide), ?_⟩⟩⟩
  rw [mk1]
  refine ⟨line 2 (by decide), fun p4 n4 => ⟨line 2 (by decide), fun p5 n5 => ⟨1, rfl, _, _, rfl, rfl, ⟨by decide, by decide, by decide⟩, fun p6 n6 => ⟨line 12 (by decide), fun q nq => ?_⟩⟩⟩⟩
  have e2 := Ext.upd (o := .tup [.int 0, .int 1]) n1
  have e3 := Ext.upd (o := .lst [.int far]) n2
  have e4 : Ext (upd (upd G1 p1 (.tup [.int 0, .int 1])) p2 (.lst [.int far])) (upd (upd (upd (upd G1 p1 (.tup [.int 0, .int 1])) p2 (.lst [.int far])) p3 (.dK [])) p3 (.dK [(.inr "b", .int 1)])) := fun b o z => by
    rw [upd_ne (ne_of_none z n3), upd_ne (ne_of_none z n3)]
    exact z
  have e5 := Ext.upd (o := .tup [.int 2, .int 1]) n4
  have e6 := Ext.upd (o := .tup [.ref p4, .int 7]) n5
  have e7 := Ext.upd (o := .dK []) n6
  have e8 := Ext.upd (o := .lst (some12 far p1 p2 p3 p5 p6)) nq
  have l2 := e2 _ _ hl1
  have l3 := e3 _ _ l2
  have l4 := e4 _ _ l3
  have l5 := e5 _ _ l4
  have l6 := e6 _ _ l5
  have l7 := e7 _ _ l6
  have l8 := e8 _ _ l7
  have F := Facts.mk (far := far) ((((((e3.trans e4).trans e5).trans e6).trans e7).trans e8) _ _ upd_same) (((((e4.trans e5).trans e6).trans e7).trans e8) _ _ upd_same) ((((e5.trans e6).trans e7).trans e8) _ _ upd_same) (((e6.trans e7).trans e8) _ _ upd_same) ((e7.trans e8) _ _ upd_same) (e8 _ _ upd_same)
  have eG := ((((((e2.trans e3).trans e4).trans e5).trans e6).trans e7).trans e8)
  have m1 : p1 ≠ l := Ne.symm (ne_of_none hl1 n1)
  have m2 : p2 ≠ l := Ne.symm (ne_of_none l2 n2)
  have m3 : p3 ≠ l := Ne.symm (ne_of_none l3 n3)
  have m4 : p4 ≠ l := Ne.symm (ne_of_none l4 n4)
  have m5 : p5 ≠ l := Ne.symm (ne_of_none l5 n5)
  have m6 : p6 ≠ l := Ne.symm (ne_of_none l6 n6)
  have mq : q ≠ l := Ne.symm (ne_of_none l7 nq)
  have main : ∀ G : Hp, Facts far p1 p2 p3 p4 p5 p6 G → Ext G1 G → G l = some (.lst [.int c, .int c, .int 0]) → G q = some (.lst (some12 far p1 p2 p3 p5 p6)) → tFor (iRng1 (tCons (cI 4) L2.tNil)) (gName 5) (tTurn K) D [v0, some (.int c), some (.ref l), some (.int far), some (.ref q), v5, v6] G := by
    intro G F eG l8 hq
    refine ⟨4, rfl, by decide, by decide, ?_⟩
    refine for_range (fun _ σ H' => (∃ v5 v6, σ = [v0, some (.int c), some (.ref l), some (.int far), some (.ref q), v5, v6]) ∧ (∃ a n, H' l = some (.lst [.int a, .int c, .int n])) ∧ Kept l G H') ?_ ?_ ?_
    · exact ⟨⟨_, _, rfl⟩, ⟨_, _, l8⟩, fun _ _ _ z => z⟩
    · rintro i σ H' _ ⟨⟨v5, v6, rfl⟩, ⟨a, n, hl'⟩, kp⟩
      refine turn_ok hl' (kp _ _ mq hq) mq rfl (fun H2 k2 => things_ok small (F.kept m1 m2 m3 m4 m5 m6 (kp.trans k2))) fun H2 a' n' x h2 k2 => ?_
      exact ⟨⟨_, _, rfl⟩, ⟨_, _, h2⟩, kp.trans k2⟩
    · rintro σ H' ⟨⟨v5, v6, rfl⟩, _, kp⟩
      exact k H' _ _ _ _ _ fun b o n z => kp b o n (eG b o z)
  exact main _ F eG l8 upd_same
theorem cell_ok {v0 v2 v3 v4 v5 v6 : Option V} {c : Int} {H : Hp} {D : Ends} (k : ∀ (H' : Hp) (v2 v3 v4 v5 v6 : Option V), Ext H H' → D.nx [v0, some (.int c), v2, v3, v4, v5, v6] H') :
    tCell K D [v0, some (.int c), v2, v3, v4, v5, v6] H := by
  unfold tCell
  refine ⟨_, rfl, c, rfl, fun l nl => ?_⟩
  refine ⟨_, rfl, Or.inl ⟨_, rfl, _, _, rfl, rfl, ⟨by decide, by decide, by decide⟩, _, _, rfl, rfl, Or.inl ⟨by decide, by decide⟩, _, _, rfl, rfl, _, _, rfl, rfl, (by show (0 : Int) < _; decide +kernel), _, _, rfl, rfl, ⟨by decide, by decide, by decide⟩, _, _, rfl, rfl, ?_⟩⟩
  exact rest_ok (far_small c) upd_same fun H' v2 v3 v4 v5 v6 kp => k H' _ _ _ _ _ fun b o z => kp b o (ne_of_none z nl) ((Ext.upd nl) b o z)
theorem ints_cut (ns : List Int) : ∀ x ∈ cutV (ns.map V.int ++ [V.int 0]) none (some 3), ∃ c : Int, x = .int c := by
  intro x hx
  unfold cutV at hx
  have h1 := List.mem_of_mem_take hx
  have h2 := List.mem_of_mem_drop h1
  rw [List.mem_append, List.mem_map] at h2
  rcases h2 with ⟨c, _, e⟩ | h2
  · exact ⟨c, e.symm⟩
  · exact ⟨0, by simpa using h2⟩
theorem pure_law (vs : List V) (H : Hp) (Q : VK) (E : XK) (h : spLaw K vs H Q E) : tLaw K { nx := fun _ H' => Q .non H', rt := Q } (start NL vs) H := by
  obtain ⟨a, ns, rfl, sq, few, k⟩ := h
  unfold tLaw
  refine ⟨rfl, fun H1 x1 => ⟨true, rfl, ?_⟩⟩
  refine if_no rfl ?_
  refine ⟨_, rfl, line 1 (by decide), fun b nb => ?_⟩
  have x2 := x1.trans (Ext.upd (o := .lst [V.int 0]) nb)
  refine ⟨a, b, ns.map V.int, _, rfl, rfl, sqExt sq x2, upd_same, line _ (by rw [List.length_map]; show ns.length + 1 ≤ 100; omega), fun p np => ?_⟩
  refine ⟨3, rfl, p, _, rfl, lst_at upd_same, fun r nr => ?_⟩
  refine ⟨r, rfl, ⟨_, lst_at upd_same⟩, ?_⟩
  refine for_list (xs := cutV (ns.map V.int ++ [V.int 0]) none (some 3)) (fun _ σ H' => (∃ v1 v2 v3 v4 v5 v6, σ = [some (V.ref a), v1, v2, v3, v4, v5, v6]) ∧ H' r = some (.lst (cutV (ns.map V.int ++ [V.int 0]) none (some 3)))) ?_ ?_ ?_ ?_
  · exact ⟨⟨_, _, _, _, _, _, rfl⟩, upd_same⟩
  · rintro i σ H' _ ⟨_, z⟩
    exact lst_at z
  · rintro i x σ H' hx ⟨⟨v1, v2, v3, v4, v5, v6, rfl⟩, z⟩
    obtain ⟨c, rfl⟩ := ints_cut ns x (List.mem_of_getElem? hx)
    exact cell_ok fun H2 _ _ _ _ _ e => ⟨⟨_, _, _, _, _, _, rfl⟩, e _ _ z⟩
  · rintro σ H' _
    exact k H'
theorem ok_law {f : Addr} {fd : FuncData} (F : Fun K "law" "law" sLaw f fd) (Y : Law P w K mg base) : FnG P w K mg base 4 f fd ["_law_script"] (spLaw K) := by
  refine fnG_ofX F scLw (fun vs H Q E h => ?_) (fun cdv A outer s H vs Q E gu hr h => ⟨tLaw K, body_law Y f cdv A outer s H E gu hr, pure_law vs H Q E h⟩)
  obtain ⟨_, _, rfl, _⟩ := h
  rfl
end
end Err
/-! The end: what stands of the module, and the law from nowhere. -/
namespace Err
open PySem PySem.Spec PyProof.Rows L2 PySem.ErrKw
abbrev bmE (S : Addr) : List Value := [.ref S, .type "ValueError", .type "Exception", .type "BaseException", .type "object"]
/-- every text at the third place of a record is the program's own file -/
def filAll (file : Str) : PySem.W.Frag → Bool
  | [] => true
  | (_, o) :: r => (match o.data with | Data.fields fs => (match (fs[2]? : Option Value) with | some (Value.str z _) => file == z | _ => true) | _ => true) && filAll file r
theorem fil_of {file : Str} : ∀ {K : PySem.W.Frag}, filAll file K = true → ∀ cda ccl cdd fs ccs z tf, K.lookup cda = some ⟨ccl, cdd, .fields fs, ccs⟩ → fs[2]? = some (.str z tf) → (file == z) = true
  | [], _, _, _, _, _, _, _, _, l, _ => by cases l
  | (a, o) :: r, h, cda, ccl, cdd, fs, ccs, z, tf, l, e => by
    unfold filAll at h
    rw [Bool.and_eq_true] at h
    obtain ⟨h1, h2⟩ := h
    rw [List.lookup_cons] at l
    split at l
    · cases l
      simp only at h1
      rw [e] at h1
      exact h1
    · exact fil_of h2 cda ccl cdd fs ccs z tf l e
theorem with_fil {K : PySem.W.Frag} {h : Heap} {R : Prop} (file : Str) (_ : K.In h) (a : filAll file K = true) (tp : PySem.W.nsIn K cStatics "thirdparty.any" = some none)
    (next : filAll file K = true → PySem.W.nsIn K cStatics "thirdparty.any" = some none → R) : R := next a tp
theorem with_err {P : Program} {K : PySem.W.Frag} {h : Heap} {mg : Str → Option Value} {C F S cda cc : Addr} {nm q : Str} {N : Addr} {bs : List Value} {sn : List Str} {sub : List Value} {ab : Bool} {col : Option Bool} {dd : Option Addr} {m0 m1 m2 m3 m5 : Option Value} {R : Prop}
    {qn msg : Str} {k : Nat} {oc doc pm ct ccl cll : Value} {od an cdd cld : Option Addr} {osl ccs csl : Array (Option Value)} {fs : Array Value} {tf : Tok} {p1 p2 q1 q2 q3 q4 q5 q6 q7 q8 q9 q10 : Pos}
    (x f : Str) (X : K.In h) (G : h.Ns mainGlobals mg) (sup : mg "super" = none) (tp : PySem.W.nsIn K cStatics "thirdparty.any" = some none) (top : (P.main.scope.names.lookup ("super" : Str)).isSome = false) (fil : filAll P.main.file K = true)
    (kl : (iScope f).names.lookup f = some .local) (vs : f ≠ "self") (nd : (f == ("__debug__" : Str)) = false) (ks : (iScope f).names.lookup ("super" : Str) = some .globalImplicit) (kc : (iScope f).names.lookup ("__class__" : Str) = some .free)
    (aC : PySem.W.nsIn K mainGlobals x = some (some (.ref C)))
    (xL : K.lookup C = some (excClassObj nm q C N bs (bmE S) true sn sub ab col dd m0 m1 m2 m3 m5 "ValueError.__new__"))
    (iC : PySem.W.findIn K (.ref C) "__init__" = some (some (.ref F))) (tI : PySem.W.typeIn K (.ref F) = some (.type "function"))
    (l1 : K.lookup F = some ⟨oc, od, .func (PySem.W.ksFn "__init__" qn (iArgs f p1 p2) (iBody f msg k q1 q2 q3 q4 q5 q6 q7 q8 q9 q10) (iScope f) .none .none doc pm an (.ref cda) ct cc), osl⟩)
    (c1 : PySem.W.codeIn K (.ref cda) qn = true) (l2 : K.lookup cda = some ⟨ccl, cdd, .fields fs, ccs⟩) (l3 : K.lookup cc = some ⟨cll, cld, .cell (some (.ref C)), csl⟩) (f2 : fs[2]? = some (.str P.main.file tf))
    (rd : Reads0 msg k q1 q2 q3 q4 q5)
    (su : PySem.W.ks_superIn K C C "__init__" = some (some (.builtin "ValueError.__init__"))) (qi : PySem.W.excInitIn K C [.type "ValueError", .type "Exception", .type "BaseException", .type "object"] "ValueError.__new__" = true)
    (sa : PySem.W.findIn K (.ref C) "__setattr__" = some (some (.builtin "object.__setattr__"))) (no : PySem.W.findIn K (.ref C) f = some none) (ve : PySem.W.subIn K (.ref C) (.type "ValueError") = some true) (me : PySem.W.mroIn K C (.ref C) = some true)
    (kC : PySem.W.keepIn K (.ref C) = true) (ga : PySem.W.findIn K (.ref C) "__getattribute__" = some (some (.builtin "BaseException.__getattribute__"))) (gg : PySem.W.findIn K (.ref C) "__getattr__" = some none)
    (exC : PySem.W.subIn K (.ref C) (.type "BaseException") = some true) (hdC : PySem.W.hasDictIn K C = true) (ca : PySem.W.findIn K (.ref C) "__class__" = some (some (.builtin "object.__class__")))
    (cg : PySem.W.specialIn K (.builtin "object.__class__") "__get__" = some (some (.builtin "getset_descriptor.__get__"))) (ck : PySem.W.takesIn K (.builtin "object.__class__") = some true) (mo : PySem.W.mroIn K C (.type "object") = some true) (isC : PySem.W.isClsIn K C = true)
    (next : ErrC P K mg x f C F → R) : R :=
  next
    { own := { cls := ⟨nm, q, N, bs, bmE S, sn, sub, ab, col, dd, m0, m1, m2, m3, m5, xL, rfl⟩, sa := sa, no := no, su := su, ve := ve, me := me, tp := tp, qi := qi, kl := kl, vs := vs, nd := nd, ks := ks, kc := kc,
               fn := ⟨qn, msg, k, oc, doc, pm, ct, ccl, cll, od, an, cdd, cld, osl, ccs, csl, cda, cc, fs, P.main.file, tf, p1, p2, q1, q2, q3, q4, q5, q6, q7, q8, q9, q10, l1, c1, l2, f2, l3, rd⟩ },
      gC := PySem.W.mg_of X G aC, kC := kC, iC := iC, tI := tI, ga := ga, gg := gg, exC := exC, hdC := hdC, ca := ca, cg := cg, ct := ck, mo := mo, isC := isC, sup := sup, top := top, fil := fil_of fil }
/-- a def of the module -/
structure Def (K : PySem.W.Frag) (mg : Str → Option Value) (x : Str) (st : Stmt) (ps : List Str) : Prop where
  ex : ∃ f fd, Fun K x x st f fd ∧ mg x = some (.ref f) ∧ PySem.W.keepIn K (.ref f) = true ∧ Binds K fd ps [] ∧ ∀ (s : Shared) (us : List Value), us.length = ps.length → BindsTo s fd ⟨us, []⟩ (ps.zip us)
theorem with_def {K : PySem.W.Frag} {h : Heap} {mg : Str → Option Value} {R : Prop} {f : Addr} {oc kV doc pm cdv ct : Value} {od an : Option Addr} {osl : Array (Option Value)} (x : Str) (st : Stmt) (ps : List Str) (X : K.In h) (G : h.Ns mainGlobals mg)
    (hb : ∀ (kV doc pm : Value) (an : Option Addr) (cdv ct : Value) (us : List Value), us.length = ps.length → bindArgs (PySem.W.fnOf x x (defArgs st) (defBody st) (defScope st) .none kV doc pm an cdv ct) ⟨us, []⟩ = pure (ps.zip us))
    (a : PySem.W.nsIn K mainGlobals x = some (some (.ref f))) (l : K.lookup f = some ⟨oc, od, .func (PySem.W.fnOf x x (defArgs st) (defBody st) (defScope st) .none kV doc pm an cdv ct), osl⟩) (c : PySem.W.codeIn K cdv x = true) (k : PySem.W.keepIn K (.ref f) = true)
    (next : Def K mg x st ps → R) : R :=
  next ⟨f, _, fun_mk l c k, PySem.W.mg_of X G a, k, (fun_mk l c k).binds hb, fun s us hu => .of_eq (hb _ _ _ _ _ _ us hu)⟩
def kitAll (K : PySem.W.Frag) (Cs : List Addr) (S : Addr) : Bool :=
  ((List.range 13).all fun i => (List.range 13).all fun j => PySem.W.kitOne K (.ref (Cs.getD i 0)) (.ref (Cs.getD j 0)) == some (decide (i = j))) && (List.range 13).all fun i => PySem.W.kitOne K (.ref (Cs.getD i 0)) (.ref S) == some true && PySem.W.kitOne K (.ref (Cs.getD i 0)) (.type "ValueError") == some true
theorem with_kit {K : PySem.W.Frag} {h : Heap} {mg : Str → Option Value} {R : Prop} {S : Addr} (Cs : List Addr) (X : K.In h) (G : h.Ns mainGlobals mg) (aS : PySem.W.nsIn K mainGlobals "ShellError" = some (some (.ref S))) (a : kitAll K Cs S = true)
    (next : mg "ShellError" = some (.ref S) → kitAll K Cs S = true → R) : R := next (PySem.W.mg_of X G aS) a
theorem the_end {P : Program} {w : World} {K : PySem.W.Frag} {h : Heap} {mg : Str → Option Value} {fa S : Addr} {Cs Fs : List Addr} (X : K.In h) (G : h.Ns mainGlobals mg) (hfa : mg "law" = some (.ref fa))
    (E : ∀ i, i < 13 → ErrC P K mg (nmOf.getD i "") (fdOf.getD i "") (Cs.getD i 0) (Fs.getD i 0)) (gS : mg "ShellError" = some (.ref S)) (kit : kitAll K Cs S = true)
    (zi : PySem.W.nsIn K mainGlobals "isinstance" = some none) (ze : PySem.W.nsIn K mainGlobals "enumerate" = some none) (za : PySem.W.nsIn K mainGlobals "all" = some none) (zr : PySem.W.nsIn K mainGlobals "repr" = some none) (zv : PySem.W.nsIn K mainGlobals "ValueError" = some none)
    (zn : PySem.W.nsIn K mainGlobals "int" = some none) (zg : PySem.W.nsIn K mainGlobals "range" = some none)
    (DM : Def K mg "_law_mixed" sMixed ["_law_cell", "_law_draw"]) (DO : Def K mg "_law_source" sSource ["_law_cell"]) (DK : Def K mg "_law_take" sTake ["_law_source_here", "_law_bound"]) (DP : Def K mg "_law_places" sPlaces ["_law_one"])
    (DS : Def K mg "_law_stores" sStores NS) (DF : Def K mg "_law_first_errors" sFirst ["_law_thing"]) (DD : Def K mg "_law_middle_errors" sMiddle ["_law_thing"]) (DL : Def K mg "_law_last_errors" sLast ["_law_thing"]) (DH : Def K mg "_law_huge_right" sHuge [])
    (DW : Def K mg "law" sLaw ["_law_script"]) :
    ∃ fd : FuncData, (∀ (s : Shared) (u : Value), BindsTo s fd ⟨[u], []⟩ [("_law_script", u)]) ∧ ∀ base : Heap, K.In base → base.Ns mainGlobals mg → FnG P w K mg base 4 fa fd ["_law_script"] (spLaw K) := by
  obtain ⟨fM, dM, FM, gM, kM, bM, _⟩ := DM.ex
  obtain ⟨fO, dO, FO, gO, kO, bO, _⟩ := DO.ex
  obtain ⟨fK, dK, FK, gK, kK, bK, _⟩ := DK.ex
  obtain ⟨fP, dP, FP, gP, kP, bP, _⟩ := DP.ex
  obtain ⟨fS, dS, FS, hS, kS, bS, _⟩ := DS.ex
  obtain ⟨fF, dF, FF, gF, kF, bF, _⟩ := DF.ex
  obtain ⟨fD, dD, FD, gD, kD, bD, _⟩ := DD.ex
  obtain ⟨fL, dL, FL, gL, kL, bL, _⟩ := DL.ex
  obtain ⟨fH, dH, FH, gH, kH, bH, _⟩ := DH.ex
  obtain ⟨fW, dW, FW, gW, kW, bW, tW⟩ := DW.ex
  have e := hfa.symm.trans gW
  cases e
  unfold kitAll at kit
  rw [Bool.and_eq_true, List.all_eq_true, List.all_eq_true] at kit
  obtain ⟨k1, k2⟩ := kit
  have T : Errs P K mg (fun i => Cs.getD i 0) (fun i => Fs.getD i 0) S := {
    err := E
    kit := fun i j hi hj => by
      have z := k1 i (List.mem_range.mpr hi)
      rw [List.all_eq_true] at z
      exact beq_iff_eq.mp (z j (List.mem_range.mpr hj))
    kS := fun i hi => by
      have z := k2 i (List.mem_range.mpr hi)
      rw [Bool.and_eq_true] at z
      exact beq_iff_eq.mp z.1
    kV := fun i hi => by
      have z := k2 i (List.mem_range.mpr hi)
      rw [Bool.and_eq_true] at z
      exact beq_iff_eq.mp z.2
    gS := gS
    mi := PySem.W.mg_none_of X G zi
    me := PySem.W.mg_none_of X G ze
    ma := PySem.W.mg_none_of X G za
    mr := PySem.W.mg_none_of X G zr
    mv := PySem.W.mg_none_of X G zv }
  have mi := PySem.W.mg_none_of X G zn
  refine ⟨dW, fun s u => tW s [u] rfl, fun base _ _ => ok_law FW ?_⟩
  have Y : Top P w K mg base (fun i => Cs.getD i 0) (fun i => Fs.getD i 0) S fS dS := ⟨T, ok_stores FS T (ok_places FP T) gP kP bP, hS, kS, bS⟩
  exact {
    huge := ⟨fH, dH, ok_huge FH T, gH, kH, bH⟩
    source := ⟨fO, dO, ok_source FO, gO, kO, bO⟩
    take := ⟨fK, dK, ok_take FK (ok_mixed FM mi) gM kM bM mi, gK, kK, bK⟩
    first := ⟨fF, dF, ok_first FF Y, gF, kF, bF⟩
    middle := ⟨fD, dD, ok_middle FD Y, gD, kD, bD⟩
    last := ⟨fL, dL, ok_last FL Y, gL, kL, bL⟩
    mi := mi
    mR := PySem.W.mg_none_of X G zg }
end Err
open PySem PySem.W PyProof.Rows in
set_option maxHeartbeats 0 in
theorem PySem.Challenge.cw_shellways_k04_error_types_holds : PySem.Challenge.rw_shellways_k04_error_types.Holds := by
  w_on; o_law; k_head; (case hw => w_witness2)
  k_fill
  refine L2.walk_g (l := PySem.Challenge.rw_shellways_k04_error_types) (n := 63) (k := 4) (x := "_law_script") (sp := Err.spLaw) rfl (by decide) rfl ⟨rfl, by decide, by decide⟩ (fun w h Y => PySem.W.kIn_of Y) ?F (fun _ _ a ns hl hS => ⟨a, ns, rfl, hS, hl, fun _ => rfl⟩)
  case F =>
    intro w mg fa h KX G hmg
    have zs := PySem.W.mg_none_of (n := "super") KX G (by k_is)
    refine' Err.with_fil (PySem.Challenge.pw_shellways_k04_error_types).main.file KX ?fil_0 ?tp_0 ?next_0
    (case fil_0 => with_unfolding_all rfl)
    (case tp_0 => k_is)
    intro fil tp
    refine' Err.with_err (P := PySem.Challenge.pw_shellways_k04_error_types) "InvalidProgram" "path" KX G zs tp rfl fil rfl (by decide) (by decide) rfl rfl ?aC_1 ?xL_1 ?iC_1 ?tI_1 ?l1_1 ?c1_1 ?l2_1 ?l3_1 ?f2_1 ?rd_1 ?su_1 ?qi_1 ?sa_1 ?no_1 ?ve_1 ?me_1 ?kC_1 ?ga_1 ?gg_1 ?exC_1 ?hdC_1 ?ca_1 ?cg_1 ?ck_1 ?mo_1 ?isC_1 ?next_1
    (case aC_1 => k_is)
    (case xL_1 => k_is)
    (case iC_1 => k_is)
    (case tI_1 => k_is)
    (case l1_1 => k_is)
    (case c1_1 => k_is)
    (case l2_1 => k_is)
    (case l3_1 => k_is)
    (case f2_1 => exact rfl)
    (case rd_1 => exact ⟨_, fun _ => by with_unfolding_all rfl⟩)
    (case su_1 => ks_is)
    (case qi_1 => with_unfolding_all rfl)
    (case sa_1 => k_is)
    (case no_1 => k_is)
    (case ve_1 => k_is)
    (case me_1 => k_is)
    (case kC_1 => k_is)
    (case ga_1 => k_is)
    (case gg_1 => k_is)
    (case exC_1 => k_is)
    (case hdC_1 => k_is)
    (case ca_1 => k_is)
    (case cg_1 => k_is)
    (case ck_1 => k_is)
    (case mo_1 => k_is)
    (case isC_1 => k_is)
    intro E0
    refine' Err.with_err (P := PySem.Challenge.pw_shellways_k04_error_types) "InvalidText" "place" KX G zs tp rfl fil rfl (by decide) (by decide) rfl rfl ?aC_2 ?xL_2 ?iC_2 ?tI_2 ?l1_2 ?c1_2 ?l2_2 ?l3_2 ?f2_2 ?rd_2 ?su_2 ?qi_2 ?sa_2 ?no_2 ?ve_2 ?me_2 ?kC_2 ?ga_2 ?gg_2 ?exC_2 ?hdC_2 ?ca_2 ?cg_2 ?ck_2 ?mo_2 ?isC_2 ?next_2
    (case aC_2 => k_is)
    (case xL_2 => k_is)
    (case iC_2 => k_is)
    (case tI_2 => k_is)
    (case l1_2 => k_is)
    (case c1_2 => k_is)
    (case l2_2 => k_is)
    (case l3_2 => k_is)
    (case f2_2 => exact rfl)
    (case rd_2 => exact ⟨_, fun _ => by with_unfolding_all rfl⟩)
    (case su_2 => ks_is)
    (case qi_2 => with_unfolding_all rfl)
    (case sa_2 => k_is)
    (case no_2 => k_is)
    (case ve_2 => k_is)
    (case me_2 => k_is)
    (case kC_2 => k_is)
    (case ga_2 => k_is)
    (case gg_2 => k_is)
    (case exC_2 => k_is)
    (case hdC_2 => k_is)
    (case ca_2 => k_is)
    (case cg_2 => k_is)
    (case ck_2 => k_is)
    (case mo_2 => k_is)
    (case isC_2 => k_is)
    intro E1
    refine' Err.with_err (P := PySem.Challenge.pw_shellways_k04_error_types) "InvalidRow" "index" KX G zs tp rfl fil rfl (by decide) (by decide) rfl rfl ?aC_3 ?xL_3 ?iC_3 ?tI_3 ?l1_3 ?c1_3 ?l2_3 ?l3_3 ?f2_3 ?rd_3 ?su_3 ?qi_3 ?sa_3 ?no_3 ?ve_3 ?me_3 ?kC_3 ?ga_3 ?gg_3 ?exC_3 ?hdC_3 ?ca_3 ?cg_3 ?ck_3 ?mo_3 ?isC_3 ?next_3
    (case aC_3 => k_is)
    (case xL_3 => k_is)
    (case iC_3 => k_is)
    (case tI_3 => k_is)
    (case l1_3 => k_is)
    (case c1_3 => k_is)
    (case l2_3 => k_is)
    (case l3_3 => k_is)
    (case f2_3 => exact rfl)
    (case rd_3 => exact ⟨_, fun _ => by with_unfolding_all rfl⟩)
    (case su_3 => ks_is)
    (case qi_3 => with_unfolding_all rfl)
    (case sa_3 => k_is)
    (case no_3 => k_is)
    (case ve_3 => k_is)
    (case me_3 => k_is)
    (case kC_3 => k_is)
    (case ga_3 => k_is)
    (case gg_3 => k_is)
    (case exC_3 => k_is)
    (case hdC_3 => k_is)
    (case ca_3 => k_is)
    (case cg_3 => k_is)
    (case ck_3 => k_is)
    (case mo_3 => k_is)
    (case isC_3 => k_is)
    intro E2
    refine' Err.with_err (P := PySem.Challenge.pw_shellways_k04_error_types) "InvalidName" "name" KX G zs tp rfl fil rfl (by decide) (by decide) rfl rfl ?aC_4 ?xL_4 ?iC_4 ?tI_4 ?l1_4 ?c1_4 ?l2_4 ?l3_4 ?f2_4 ?rd_4 ?su_4 ?qi_4 ?sa_4 ?no_4 ?ve_4 ?me_4 ?kC_4 ?ga_4 ?gg_4 ?exC_4 ?hdC_4 ?ca_4 ?cg_4 ?ck_4 ?mo_4 ?isC_4 ?next_4
    (case aC_4 => k_is)
    (case xL_4 => k_is)
    (case iC_4 => k_is)
    (case tI_4 => k_is)
    (case l1_4 => k_is)
    (case c1_4 => k_is)
    (case l2_4 => k_is)
    (case l3_4 => k_is)
    (case f2_4 => exact rfl)
    (case rd_4 => exact ⟨_, fun _ => by with_unfolding_all rfl⟩)
    (case su_4 => ks_is)
    (case qi_4 => with_unfolding_all rfl)
    (case sa_4 => k_is)
    (case no_4 => k_is)
    (case ve_4 => k_is)
    (case me_4 => k_is)
    (case kC_4 => k_is)
    (case ga_4 => k_is)
    (case gg_4 => k_is)
    (case exC_4 => k_is)
    (case hdC_4 => k_is)
    (case ca_4 => k_is)
    (case cg_4 => k_is)
    (case ck_4 => k_is)
    (case mo_4 => k_is)
    (case isC_4 => k_is)
    intro E3
    refine' Err.with_err (P := PySem.Challenge.pw_shellways_k04_error_types) "InvalidPath" "path" KX G zs tp rfl fil rfl (by decide) (by decide) rfl rfl ?aC_5 ?xL_5 ?iC_5 ?tI_5 ?l1_5 ?c1_5 ?l2_5 ?l3_5 ?f2_5 ?rd_5 ?su_5 ?qi_5 ?sa_5 ?no_5 ?ve_5 ?me_5 ?kC_5 ?ga_5 ?gg_5 ?exC_5 ?hdC_5 ?ca_5 ?cg_5 ?ck_5 ?mo_5 ?isC_5 ?next_5
    (case aC_5 => k_is)
    (case xL_5 => k_is)
    (case iC_5 => k_is)
    (case tI_5 => k_is)
    (case l1_5 => k_is)
    (case c1_5 => k_is)
    (case l2_5 => k_is)
    (case l3_5 => k_is)
    (case f2_5 => exact rfl)
    (case rd_5 => exact ⟨_, fun _ => by with_unfolding_all rfl⟩)
    (case su_5 => ks_is)
    (case qi_5 => with_unfolding_all rfl)
    (case sa_5 => k_is)
    (case no_5 => k_is)
    (case ve_5 => k_is)
    (case me_5 => k_is)
    (case kC_5 => k_is)
    (case ga_5 => k_is)
    (case gg_5 => k_is)
    (case exC_5 => k_is)
    (case hdC_5 => k_is)
    (case ca_5 => k_is)
    (case cg_5 => k_is)
    (case ck_5 => k_is)
    (case mo_5 => k_is)
    (case isC_5 => k_is)
    intro E4
    refine' Err.with_err (P := PySem.Challenge.pw_shellways_k04_error_types) "InvalidNumber" "name" KX G zs tp rfl fil rfl (by decide) (by decide) rfl rfl ?aC_6 ?xL_6 ?iC_6 ?tI_6 ?l1_6 ?c1_6 ?l2_6 ?l3_6 ?f2_6 ?rd_6 ?su_6 ?qi_6 ?sa_6 ?no_6 ?ve_6 ?me_6 ?kC_6 ?ga_6 ?gg_6 ?exC_6 ?hdC_6 ?ca_6 ?cg_6 ?ck_6 ?mo_6 ?isC_6 ?next_6
    (case aC_6 => k_is)
    (case xL_6 => k_is)
    (case iC_6 => k_is)
    (case tI_6 => k_is)
    (case l1_6 => k_is)
    (case c1_6 => k_is)
    (case l2_6 => k_is)
    (case l3_6 => k_is)
    (case f2_6 => exact rfl)
    (case rd_6 => exact ⟨_, fun _ => by with_unfolding_all rfl⟩)
    (case su_6 => ks_is)
    (case qi_6 => with_unfolding_all rfl)
    (case sa_6 => k_is)
    (case no_6 => k_is)
    (case ve_6 => k_is)
    (case me_6 => k_is)
    (case kC_6 => k_is)
    (case ga_6 => k_is)
    (case gg_6 => k_is)
    (case exC_6 => k_is)
    (case hdC_6 => k_is)
    (case ca_6 => k_is)
    (case cg_6 => k_is)
    (case ck_6 => k_is)
    (case mo_6 => k_is)
    (case isC_6 => k_is)
    intro E5
    refine' Err.with_err (P := PySem.Challenge.pw_shellways_k04_error_types) "InvalidMachine" "index" KX G zs tp rfl fil rfl (by decide) (by decide) rfl rfl ?aC_7 ?xL_7 ?iC_7 ?tI_7 ?l1_7 ?c1_7 ?l2_7 ?l3_7 ?f2_7 ?rd_7 ?su_7 ?qi_7 ?sa_7 ?no_7 ?ve_7 ?me_7 ?kC_7 ?ga_7 ?gg_7 ?exC_7 ?hdC_7 ?ca_7 ?cg_7 ?ck_7 ?mo_7 ?isC_7 ?next_7
    (case aC_7 => k_is)
    (case xL_7 => k_is)
    (case iC_7 => k_is)
    (case tI_7 => k_is)
    (case l1_7 => k_is)
    (case c1_7 => k_is)
    (case l2_7 => k_is)
    (case l3_7 => k_is)
    (case f2_7 => exact rfl)
    (case rd_7 => exact ⟨_, fun _ => by with_unfolding_all rfl⟩)
    (case su_7 => ks_is)
    (case qi_7 => with_unfolding_all rfl)
    (case sa_7 => k_is)
    (case no_7 => k_is)
    (case ve_7 => k_is)
    (case me_7 => k_is)
    (case kC_7 => k_is)
    (case ga_7 => k_is)
    (case gg_7 => k_is)
    (case exC_7 => k_is)
    (case hdC_7 => k_is)
    (case ca_7 => k_is)
    (case cg_7 => k_is)
    (case ck_7 => k_is)
    (case mo_7 => k_is)
    (case isC_7 => k_is)
    intro E6
    refine' Err.with_err (P := PySem.Challenge.pw_shellways_k04_error_types) "InvalidPaper" "index" KX G zs tp rfl fil rfl (by decide) (by decide) rfl rfl ?aC_8 ?xL_8 ?iC_8 ?tI_8 ?l1_8 ?c1_8 ?l2_8 ?l3_8 ?f2_8 ?rd_8 ?su_8 ?qi_8 ?sa_8 ?no_8 ?ve_8 ?me_8 ?kC_8 ?ga_8 ?gg_8 ?exC_8 ?hdC_8 ?ca_8 ?cg_8 ?ck_8 ?mo_8 ?isC_8 ?next_8
    (case aC_8 => k_is)
    (case xL_8 => k_is)
    (case iC_8 => k_is)
    (case tI_8 => k_is)
    (case l1_8 => k_is)
    (case c1_8 => k_is)
    (case l2_8 => k_is)
    (case l3_8 => k_is)
    (case f2_8 => exact rfl)
    (case rd_8 => exact ⟨_, fun _ => by with_unfolding_all rfl⟩)
    (case su_8 => ks_is)
    (case qi_8 => with_unfolding_all rfl)
    (case sa_8 => k_is)
    (case no_8 => k_is)
    (case ve_8 => k_is)
    (case me_8 => k_is)
    (case kC_8 => k_is)
    (case ga_8 => k_is)
    (case gg_8 => k_is)
    (case exC_8 => k_is)
    (case hdC_8 => k_is)
    (case ca_8 => k_is)
    (case cg_8 => k_is)
    (case ck_8 => k_is)
    (case mo_8 => k_is)
    (case isC_8 => k_is)
    intro E7
    refine' Err.with_err (P := PySem.Challenge.pw_shellways_k04_error_types) "InvalidChances" "name" KX G zs tp rfl fil rfl (by decide) (by decide) rfl rfl ?aC_9 ?xL_9 ?iC_9 ?tI_9 ?l1_9 ?c1_9 ?l2_9 ?l3_9 ?f2_9 ?rd_9 ?su_9 ?qi_9 ?sa_9 ?no_9 ?ve_9 ?me_9 ?kC_9 ?ga_9 ?gg_9 ?exC_9 ?hdC_9 ?ca_9 ?cg_9 ?ck_9 ?mo_9 ?isC_9 ?next_9
    (case aC_9 => k_is)
    (case xL_9 => k_is)
    (case iC_9 => k_is)
    (case tI_9 => k_is)
    (case l1_9 => k_is)
    (case c1_9 => k_is)
    (case l2_9 => k_is)
    (case l3_9 => k_is)
    (case f2_9 => exact rfl)
    (case rd_9 => exact ⟨_, fun _ => by with_unfolding_all rfl⟩)
    (case su_9 => ks_is)
    (case qi_9 => with_unfolding_all rfl)
    (case sa_9 => k_is)
    (case no_9 => k_is)
    (case ve_9 => k_is)
    (case me_9 => k_is)
    (case kC_9 => k_is)
    (case ga_9 => k_is)
    (case gg_9 => k_is)
    (case exC_9 => k_is)
    (case hdC_9 => k_is)
    (case ca_9 => k_is)
    (case cg_9 => k_is)
    (case ck_9 => k_is)
    (case mo_9 => k_is)
    (case isC_9 => k_is)
    intro E8
    refine' Err.with_err (P := PySem.Challenge.pw_shellways_k04_error_types) "InvalidLog" "index" KX G zs tp rfl fil rfl (by decide) (by decide) rfl rfl ?aC_10 ?xL_10 ?iC_10 ?tI_10 ?l1_10 ?c1_10 ?l2_10 ?l3_10 ?f2_10 ?rd_10 ?su_10 ?qi_10 ?sa_10 ?no_10 ?ve_10 ?me_10 ?kC_10 ?ga_10 ?gg_10 ?exC_10 ?hdC_10 ?ca_10 ?cg_10 ?ck_10 ?mo_10 ?isC_10 ?next_10
    (case aC_10 => k_is)
    (case xL_10 => k_is)
    (case iC_10 => k_is)
    (case tI_10 => k_is)
    (case l1_10 => k_is)
    (case c1_10 => k_is)
    (case l2_10 => k_is)
    (case l3_10 => k_is)
    (case f2_10 => exact rfl)
    (case rd_10 => exact ⟨_, fun _ => by with_unfolding_all rfl⟩)
    (case su_10 => ks_is)
    (case qi_10 => with_unfolding_all rfl)
    (case sa_10 => k_is)
    (case no_10 => k_is)
    (case ve_10 => k_is)
    (case me_10 => k_is)
    (case kC_10 => k_is)
    (case ga_10 => k_is)
    (case gg_10 => k_is)
    (case exC_10 => k_is)
    (case hdC_10 => k_is)
    (case ca_10 => k_is)
    (case cg_10 => k_is)
    (case ck_10 => k_is)
    (case mo_10 => k_is)
    (case isC_10 => k_is)
    intro E9
    refine' Err.with_err (P := PySem.Challenge.pw_shellways_k04_error_types) "Mismatch" "name" KX G zs tp rfl fil rfl (by decide) (by decide) rfl rfl ?aC_11 ?xL_11 ?iC_11 ?tI_11 ?l1_11 ?c1_11 ?l2_11 ?l3_11 ?f2_11 ?rd_11 ?su_11 ?qi_11 ?sa_11 ?no_11 ?ve_11 ?me_11 ?kC_11 ?ga_11 ?gg_11 ?exC_11 ?hdC_11 ?ca_11 ?cg_11 ?ck_11 ?mo_11 ?isC_11 ?next_11
    (case aC_11 => k_is)
    (case xL_11 => k_is)
    (case iC_11 => k_is)
    (case tI_11 => k_is)
    (case l1_11 => k_is)
    (case c1_11 => k_is)
    (case l2_11 => k_is)
    (case l3_11 => k_is)
    (case f2_11 => exact rfl)
    (case rd_11 => exact ⟨_, fun _ => by with_unfolding_all rfl⟩)
    (case su_11 => ks_is)
    (case qi_11 => with_unfolding_all rfl)
    (case sa_11 => k_is)
    (case no_11 => k_is)
    (case ve_11 => k_is)
    (case me_11 => k_is)
    (case kC_11 => k_is)
    (case ga_11 => k_is)
    (case gg_11 => k_is)
    (case exC_11 => k_is)
    (case hdC_11 => k_is)
    (case ca_11 => k_is)
    (case cg_11 => k_is)
    (case ck_11 => k_is)
    (case mo_11 => k_is)
    (case isC_11 => k_is)
    intro E10
    refine' Err.with_err (P := PySem.Challenge.pw_shellways_k04_error_types) "Ended" "status" KX G zs tp rfl fil rfl (by decide) (by decide) rfl rfl ?aC_12 ?xL_12 ?iC_12 ?tI_12 ?l1_12 ?c1_12 ?l2_12 ?l3_12 ?f2_12 ?rd_12 ?su_12 ?qi_12 ?sa_12 ?no_12 ?ve_12 ?me_12 ?kC_12 ?ga_12 ?gg_12 ?exC_12 ?hdC_12 ?ca_12 ?cg_12 ?ck_12 ?mo_12 ?isC_12 ?next_12
    (case aC_12 => k_is)
    (case xL_12 => k_is)
    (case iC_12 => k_is)
    (case tI_12 => k_is)
    (case l1_12 => k_is)
    (case c1_12 => k_is)
    (case l2_12 => k_is)
    (case l3_12 => k_is)
    (case f2_12 => exact rfl)
    (case rd_12 => exact ⟨_, fun _ => by with_unfolding_all rfl⟩)
    (case su_12 => ks_is)
    (case qi_12 => with_unfolding_all rfl)
    (case sa_12 => k_is)
    (case no_12 => k_is)
    (case ve_12 => k_is)
    (case me_12 => k_is)
    (case kC_12 => k_is)
    (case ga_12 => k_is)
    (case gg_12 => k_is)
    (case exC_12 => k_is)
    (case hdC_12 => k_is)
    (case ca_12 => k_is)
    (case cg_12 => k_is)
    (case ck_12 => k_is)
    (case mo_12 => k_is)
    (case isC_12 => k_is)
    intro E11
    refine' Err.with_err (P := PySem.Challenge.pw_shellways_k04_error_types) "TooLarge" "limit" KX G zs tp rfl fil rfl (by decide) (by decide) rfl rfl ?aC_13 ?xL_13 ?iC_13 ?tI_13 ?l1_13 ?c1_13 ?l2_13 ?l3_13 ?f2_13 ?rd_13 ?su_13 ?qi_13 ?sa_13 ?no_13 ?ve_13 ?me_13 ?kC_13 ?ga_13 ?gg_13 ?exC_13 ?hdC_13 ?ca_13 ?cg_13 ?ck_13 ?mo_13 ?isC_13 ?next_13
    (case aC_13 => k_is)
    (case xL_13 => k_is)
    (case iC_13 => k_is)
    (case tI_13 => k_is)
    (case l1_13 => k_is)
    (case c1_13 => k_is)
    (case l2_13 => k_is)
    (case l3_13 => k_is)
    (case f2_13 => exact rfl)
    (case rd_13 => exact ⟨_, fun _ => by with_unfolding_all rfl⟩)
    (case su_13 => ks_is)
    (case qi_13 => with_unfolding_all rfl)
    (case sa_13 => k_is)
    (case no_13 => k_is)
    (case ve_13 => k_is)
    (case me_13 => k_is)
    (case kC_13 => k_is)
    (case ga_13 => k_is)
    (case gg_13 => k_is)
    (case exC_13 => k_is)
    (case hdC_13 => k_is)
    (case ca_13 => k_is)
    (case cg_13 => k_is)
    (case ck_13 => k_is)
    (case mo_13 => k_is)
    (case isC_13 => k_is)
    intro E12
    refine' Err.with_def "_law_mixed" Err.sMixed ["_law_cell", "_law_draw"] KX G (fun _ _ _ _ _ _ us hl => match us, hl with | [_, _], _ => rfl) ?a_14 ?l_14 ?c_14 ?k_14 ?next_14
    (case a_14 => k_is)
    (case l_14 => k_is)
    (case c_14 => k_is)
    (case k_14 => k_is)
    intro DM
    refine' Err.with_def "_law_source" Err.sSource ["_law_cell"] KX G (fun _ _ _ _ _ _ us hl => match us, hl with | [_], _ => rfl) ?a_15 ?l_15 ?c_15 ?k_15 ?next_15
    (case a_15 => k_is)
    (case l_15 => k_is)
    (case c_15 => k_is)
    (case k_15 => k_is)
    intro DO
    refine' Err.with_def "_law_take" Err.sTake ["_law_source_here", "_law_bound"] KX G (fun _ _ _ _ _ _ us hl => match us, hl with | [_, _], _ => rfl) ?a_16 ?l_16 ?c_16 ?k_16 ?next_16
    (case a_16 => k_is)
    (case l_16 => k_is)
    (case c_16 => k_is)
    (case k_16 => k_is)
    intro DK
    refine' Err.with_def "_law_places" Err.sPlaces ["_law_one"] KX G (fun _ _ _ _ _ _ us hl => match us, hl with | [_], _ => rfl) ?a_17 ?l_17 ?c_17 ?k_17 ?next_17
    (case a_17 => k_is)
    (case l_17 => k_is)
    (case c_17 => k_is)
    (case k_17 => k_is)
    intro DP
    refine' Err.with_def "_law_stores" Err.sStores ["_law_one", "_law_at", "_law_stored", "_law_thing"] KX G (fun _ _ _ _ _ _ us hl => match us, hl with | [_, _, _, _], _ => rfl) ?a_18 ?l_18 ?c_18 ?k_18 ?next_18
    (case a_18 => k_is)
    (case l_18 => k_is)
    (case c_18 => k_is)
    (case k_18 => k_is)
    intro DS
    refine' Err.with_def "_law_first_errors" Err.sFirst ["_law_thing"] KX G (fun _ _ _ _ _ _ us hl => match us, hl with | [_], _ => rfl) ?a_19 ?l_19 ?c_19 ?k_19 ?next_19
    (case a_19 => k_is)
    (case l_19 => k_is)
    (case c_19 => k_is)
    (case k_19 => k_is)
    intro DF
    refine' Err.with_def "_law_middle_errors" Err.sMiddle ["_law_thing"] KX G (fun _ _ _ _ _ _ us hl => match us, hl with | [_], _ => rfl) ?a_20 ?l_20 ?c_20 ?k_20 ?next_20
    (case a_20 => k_is)
    (case l_20 => k_is)
    (case c_20 => k_is)
    (case k_20 => k_is)
    intro DD
    refine' Err.with_def "_law_last_errors" Err.sLast ["_law_thing"] KX G (fun _ _ _ _ _ _ us hl => match us, hl with | [_], _ => rfl) ?a_21 ?l_21 ?c_21 ?k_21 ?next_21
    (case a_21 => k_is)
    (case l_21 => k_is)
    (case c_21 => k_is)
    (case k_21 => k_is)
    intro DL
    refine' Err.with_def "_law_huge_right" Err.sHuge [] KX G (fun _ _ _ _ _ _ us hl => match us, hl with | [], _ => rfl) ?a_22 ?l_22 ?c_22 ?k_22 ?next_22
    (case a_22 => k_is)
    (case l_22 => k_is)
    (case c_22 => k_is)
    (case k_22 => k_is)
    intro DH
    refine' Err.with_def "law" Err.sLaw ["_law_script"] KX G (fun _ _ _ _ _ _ us hl => match us, hl with | [_], _ => rfl) ?a_23 ?l_23 ?c_23 ?k_23 ?next_23
    (case a_23 => k_is)
    (case l_23 => k_is)
    (case c_23 => k_is)
    (case k_23 => k_is)
    intro DW
    refine' Err.with_kit [46, 67, 88, 109, 130, 151, 172, 193, 214, 235, 256, 277, 298] KX G ?aS_24 ?kit_24 ?next_24
    (case aS_24 => k_is)
    (case kit_24 => with_unfolding_all rfl)
    intro gS kit
    refine' Err.the_end (Cs := [46, 67, 88, 109, 130, 151, 172, 193, 214, 235, 256, 277, 298]) (Fs := [43, 64, 85, 106, 127, 148, 169, 190, 211, 232, 253, 274, 295]) KX G hmg (fun i hi => match i, hi with | 0, _ => E0 | 1, _ => E1 | 2, _ => E2 | 3, _ => E3 | 4, _ => E4 | 5, _ => E5 | 6, _ => E6 | 7, _ => E7 | 8, _ => E8 | 9, _ => E9 | 10, _ => E10 | 11, _ => E11 | 12, _ => E12) gS kit ?zi_25 ?ze_25 ?za_25 ?zr_25 ?zv_25 ?zn_25 ?zg_25 DM DO DK DP DS DF DD DL DH DW
    (case zi_25 => k_is)
    (case ze_25 => k_is)
    (case za_25 => k_is)
    (case zr_25 => k_is)
    (case zv_25 => k_is)
    (case zn_25 => k_is)
    (case zg_25 => k_is)
