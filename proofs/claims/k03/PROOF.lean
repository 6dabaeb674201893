import PyProof.Rows.All
import Wide.All
import OpenK.AllK
import Wide.FinOn
import HandS.ForMost
import HandS.ForExc
import HandS.IsInst
import HandS.StrMore
import HandS.More
import KE.KExcStr
import HandS.ExcInit
import KE.KExcIs
import PyProof.ListMulRoad
import PyProof.FactsAll.tuple_2
import HandS.TupMul
import HandS.ExcField
import HandS.CallLocal
import HandS.TryMany
import HandS.Walk
import HandS.Star
import HandS.Wide
import HandS.TupAny
import PyProof.P3Eq
import HandS.Strs
import HandS.Set
import PyProof.Rows.SetFrom
import KE.DataEq
import PySem.Challenge.RW_shellways_k03_sizes_and_names
set_option Elab.async false
set_option linter.all false
set_option maxRecDepth 100000
set_option maxHeartbeats 4000000
/-! The check of a program as a plain function over data. -/
namespace Ck
open PySem L2
/-- a value as the check sees it -/
inductive T where
  | non
  | bl (b : Bool)
  | int (i : Int)
  | str (z : Str)
  | tup (ts : List T)
  | odd (t : String)
inductive Kind where
  | run | status | var | put | option | trap | seq | pipe | andor | not | sub | ife | whl | times | jump | call | ret | exit
  deriving DecidableEq
structure CS where
  trees : Int
  cmds : List Str
  vars : List Str
  unf : Int
  fns : List (Str × Int)
  places : List Int
  loops : Int
  rets : Bool
def words : List (Str × Kind) := [("run", .run), ("status", .status), ("give", .var), ("zero", .var), ("keep", .var), ("put", .put), ("option", .option), ("trap", .trap), ("seq", .seq), ("and", .andor), ("or", .andor), ("not", .not), ("if", .ife),
  ("while", .whl), ("until", .whl), ("times", .times), ("break", .jump), ("next", .jump), ("call", .call), ("return", .ret), ("exit", .exit), ("sub", .sub), ("pipe", .pipe)]
def kindOf (z : Str) : Option Kind := words.lookup z
def reserved : List Str := ["def", "call", "status", "give", "zero", "keep", "put", "option", "trap", "on", "off", "if", "then", "else", "while", "until", "times", "do", "end", "break", "next", "return", "exit", "fail", "pipes"]
def nameOk (z : Str) : Bool := decide ((z.length : Int) ≤ 12) && (Txt.isascii z && (Txt.isalpha z && (Txt.islower z && !reserved.contains z)))
def isName : T → Bool
  | .str z => nameOk z
  | _ => false
/-- a name of a table, noted where it is new -/
def newName (ns : List Str) : T → Bool × List Str
  | .str z => if ns.contains z then (true, ns) else if nameOk z then (true, ns ++ [z]) else (false, ns)
  | _ => (false, ns)
def within (lo hi : Int) : T → Bool
  | .int i => decide (lo ≤ i) && decide (i ≤ hi)
  | _ => false
def isNon : T → Bool
  | .non => true
  | _ => false
abbrev R := Except (List Int) (Int × CS)
def b2 (b : Bool) : Int := if b then 1 else 0
/-- a size, one more -/
def inc : R → R
  | .ok (i, S) => .ok (1 + i, S)
  | .error e => .error e
def behind (f : CS → CS) : R → R
  | .ok (i, S) => .ok (i, f S)
  | .error e => .error e
section
variable (inside : CS → List T → Int → R)
def barrier (S : CS) (ps : List T) (p : Int) : R := behind (fun S' => { S' with loops := S.loops, rets := S.rets }) (inside { S with loops := 0, rets := false } ps p)
def looped (S : CS) (ps : List T) (p : Int) : R := behind (fun S' => { S' with loops := S'.loops - 1 }) (inside { S with loops := S.loops + 1 } ps p)
def named (S : CS) : List T → R
  | [_, a] => .ok (b2 (newName S.cmds a).1, { S with cmds := (newName S.cmds a).2 })
  | _ => .ok (0, S)
def varied (S : CS) (a : T) : R := .ok (b2 (newName S.vars a).1, { S with vars := (newName S.vars a).2 })
def timed (n : Int) : R → R
  | .ok (i, S) => .ok (1 + n * i, S)
  | .error e => .error e
def exited : List T → Int
  | [_, a] => b2 (isNon a || within 0 255 a)
  | _ => 0
def act (k : Kind) (S : CS) (ds : List T) (p : Int) : R :=
  match k with
  | .run => named S ds
  | .status => match ds with | [_, a] => .ok (b2 (within 0 255 a), S) | _ => .ok (0, S)
  | .var => match ds with | [_, a] => varied S a | _ => .ok (0, S)
  | .put => match ds with | [_, a, n] => if within 0 255 n then varied S a else .ok (0, S) | _ => .ok (0, S)
  | .option => match ds with | [_, .str z, .bl _] => .ok (b2 (decide (z = "fail") || decide (z = "pipes")), S) | _ => .ok (0, S)
  | .trap => match ds with | [_, .str z, b] => if z = "end" ∨ z = "fail" then (if isNon b then .ok (1, S) else inc (barrier inside S [b] p)) else .ok (0, S) | _ => .ok (0, S)
  | .seq => match ds with | [_, .tup ps] => if 2 ≤ ps.length then inc (inside S ps p) else .ok (0, S) | _ => .ok (0, S)
  | .pipe => match ds with | [_, .tup ps] => if 2 ≤ ps.length then inc (barrier inside S ps p) else .ok (0, S) | _ => .ok (0, S)
  | .andor => match ds with | [_, a, b] => inc (inside S [a, b] p) | _ => .ok (0, S)
  | .not => match ds with | [_, a] => inc (inside S [a] p) | _ => .ok (0, S)
  | .sub => match ds with | [_, a] => inc (barrier inside S [a] p) | _ => .ok (0, S)
  | .ife => match ds with | [_, c, a, b] => inc (inside S (if isNon b then [c, a] else [c, a, b]) p) | _ => .ok (0, S)
  | .whl => match ds with | [_, c, b] => inc (looped inside S [c, b] p) | _ => .ok (0, S)
  | .times => match ds with | [_, .int n, b] => if within 0 1000 (.int n) then timed n (looped inside S [b] p) else .ok (0, S) | _ => .ok (0, S)
  | .jump => match ds with | [_, .int k] => .ok (b2 (decide (1 ≤ k) && decide (k ≤ S.loops)), S) | _ => .ok (0, S)
  | .call => match ds with | [_, .str f] => (match S.fns.lookup f with | some v => .ok (1 + v, S) | none => .ok (0, S)) | _ => .ok (0, S)
  | .ret => if S.rets then .ok (exited ds, S) else .ok (0, S)
  | .exit => .ok (exited ds, S)
def one (S : CS) (p : Int) : T → R
  | .tup (.str z :: ds) => (match kindOf z with | some k => act inside k S (.str z :: ds) p | none => .ok (0, S))
  | _ => .ok (0, S)
end
/-- trees side by side -/
def many (f : CS → Int → T → R) : CS → List T → Int → Int → R
  | S, [], _, i => .ok (i, S)
  | S, d :: ds, p, i =>
    if S.trees = 3000 then .error []
    else match f { S with trees := S.trees + 1 } p d with
      | .error e => .error e
      | .ok (j, S') => if j = 0 then .error (S'.places ++ [p]) else many f S' ds (p + 1) (i + j)
def into (all : CS → List T → Int → Int → R) (S : CS) (ps : List T) (p : Int) : R :=
  if S.places.length + 1 = 60 then .error (if S.trees = 3000 then [] else S.places ++ [p] ++ [0])
  else behind (fun S' => { S' with places := S'.places.dropLast }) (all { S with places := S.places ++ [p] } ps 0 0)
def all : Nat → CS → List T → Int → Int → R
  | 0 => many (one (into fun _ _ _ _ => .error []))
  | n + 1 => many (one (into (all n)))
def ins : Nat → CS → List T → Int → R
  | 0 => into fun _ _ _ _ => .error []
  | n + 1 => into (all n)
theorem all_eq (n : Nat) : all n = many (one (ins n)) := by cases n <;> rfl
/-- the entries of the functions -/
def entries : CS → List T → Int → Except (List Int) CS
  | S, [], _ => .ok S
  | S, e :: es, k => match e with
    | .tup [a, b] => (match a with
      | .str z => if nameOk z = true ∧ S.fns.lookup z = none then (match all 59 S [b] k 0 with | .error e => .error e | .ok (i, S') => entries { S' with fns := S'.fns ++ [(z, if 3001 < i then 3001 else i)] } es (k + 1)) else .error [k]
      | _ => .error [k])
    | _ => .error [k]
def start : CS := ⟨0, [], [], 0, [], [], 0, true⟩
def check : T → Except (List Int) CS
  | .tup [.tup fs, m] => if fs.length ≤ 20 then (match entries start fs 0 with
      | .error e => .error e
      | .ok S => match all 59 { S with rets := false } [m] (-1) 0 with
        | .error e => .error e
        | .ok (i, S') => if 40 < S'.vars.length ∨ 3000 < i then .error [] else .ok { S' with unf := i }) else .error []
  | _ => .error []
/-! ### what stands in the heap as such a value -/
mutual
inductive Im (K : PySem.W.Frag) (H : Hp) : V → T → Prop
  | non : Im K H .non .non
  | bl (b : Bool) : Im K H (.bl b) (.bl b)
  | int (i : Int) : Im K H (.int i) (.int i)
  | str {z : Str} : z.length ≤ sizeLine → Im K H (.str z) (.str z)
  | tup {a : Addr} {xs : List V} {ts : List T} : H a = some (.tup xs) → Ims K H xs ts → Im K H (.ref a) (.tup ts)
  | odd {v : V} {t : String} : TyX K H v (.type t) → kitB t "int" = some false → kitB t "bool" = some false → kitB t "str" = some false → kitB t "tuple" = some false → v ≠ .non → Im K H v (.odd t)
inductive Ims (K : PySem.W.Frag) (H : Hp) : List V → List T → Prop
  | nil : Ims K H [] []
  | cons {v : V} {vs : List V} {t : T} {ts : List T} : Im K H v t → Ims K H vs ts → Ims K H (v :: vs) (t :: ts)
end
end Ck

/-! An own error made with its value by keyword: the built-in __new__ lets the keyword by, the own __init__ gets it. -/
namespace PySem
namespace ErrKw
open PySem.HandSPX
section
variable {mo : Model} {ar : Around} {er : Value → Shared → Prop} {hp : Heap} {ge : Array GenState} {dr : Drawn} {tn : Nat} {osx : OsState}
variable {nm qn : Str} {C N : Addr} {bs bm bB : List Value} {hd : Bool} {sn : List Str} {sb : List Value} {ab : Bool} {co : Option Bool} {dd : Option Addr} {k0 k1 k2 k3 k5 : Option Value} {B nI iI : String} {kw : List (Str × Value)}

theorem kw_check (FB : ExcBaseFacts B nI iI bB) (same : ∀ X : String, bm.contains (.type X) = bB.contains (.type X)) {ps : List Value} {Q : Unit → Shared → Prop}
    (cC : hp.get? C = some (excClassObj nm qn C N bs bm hd sn sb ab co dd k0 k1 k2 k3 k5 nI)) (fin : Q () ⟨hp, ge, dr, tn, osx⟩) :
    wpAny mo ar (checkBuiltinCall nI ⟨.ref C :: ps, kw⟩) Q er ⟨hp, ge, dr, tn, osx⟩ := by
  have inB : (Value.ref C :: bm).contains (.type B) = true := by
    rw [List.contains_cons, same, FB.hasB, Bool.or_true]
  have star := FB.noStar
  simp only [checkBuiltinCall, FB.newKind, FB.newSplit, FB.newRow]
  repeat (first
    | refine wpAny_loadPart_at cC ?_
    | (refine wpAny_isSubtype_exc cC ?_; rw [inB])
    | refine wpAny_staticBase_exc cC ?_
    | refine wpAny_madeBy_exc cC ?_
    | simp only [bne_self_eq_false, Bool.false_eq_true, if_false]
    | wp_step)
  exact fin
end

section
variable {prog : Program} {w : World} {ar : Around} {er : Value → Shared → Prop} {R : Result → Shared → Prop} {hp : Heap} {ge : Array GenState} {dr : Drawn} {tn : Nat} {osx : OsState}
variable {nm qn : Str} {C N : Addr} {bs bm bB : List Value} {hd : Bool} {sn : List Str} {sb : List Value} {ab : Bool} {co : Option Bool} {dd : Option Addr} {k0 k1 k2 k3 k5 : Option Value} {B nI iI : String} {kw : List (Str × Value)}

theorem kw_new (FB : ExcBaseFacts B nI iI bB) (same : ∀ X : String, bm.contains (.type X) = bB.contains (.type X)) {ps : List Value}
    (cC : hp.get? C = some (excClassObj nm qn C N bs bm hd sn sb ab co dd k0 k1 k2 k3 k5 nI))
    (fin : R (.ok (.ret (.ref (hp.objs.size + 1)))) ⟨(hp.push (W.kdv_tup ps)).push (excO C hp.objs.size), ge, dr, tn, osx⟩) (small : ps.length ≤ sizeLine) :
    codeAny (model prog w) ar (.builtin nI ⟨.ref C :: ps, kw⟩) R ⟨hp, ge, dr, tn, osx⟩ := by
  have ends := FB.ends
  have inB : (Value.ref C :: bm).contains (.type B) = true := by
    rw [List.contains_cons, same, FB.hasB, Bool.or_true]
  have noA : (Value.ref C :: bm).contains (.type "AttributeError") = false := by
    rw [List.contains_cons, same, FB.noAttr]; rfl
  have noN : (Value.ref C :: bm).contains (.type "NameError") = false := by
    rw [List.contains_cons, same, FB.noName]; rfl
  refine codeAny_builtinAt FB.entry ?_
  unfold Builtin.«BaseException.__new__»
  refine wpAt_bind ?_
  show wpAt _ _ _ (stack >>= _) _ _ _
  refine wpAt_bind (wpAt_stack fun p below => wpAt_of_wpAny ?_)
  wp_walk
  refine wpAt_of_wpAny ?_
  rw [FB.owner]
  repeat (first
    | with_reducible refine wpAny_madeHere_exc FB.canon cC ?_
    | with_reducible refine wpAny_loadPart_at cC ?_
    | (with_reducible refine wpAny_isSubtype_exc cC ?_; first | rw [inB] | rw [noA] | rw [noN])
    | wp_step)
  show R _ _
  rw [Heap.size_push]
  exact fin

theorem kw_typecall (FB : ExcBaseFacts B nI iI bB) (same : ∀ X : String, bm.contains (.type X) = bB.contains (.type X)) {ps : List Value} {fI : Addr} {Q : Fin → Shared → Prop}
    (cC : hp.get? C = some (excClassObj nm qn C N bs bm hd sn sb ab co dd k0 k1 k2 k3 k5 nI))
    (lk : W.Looks (model prog w) hp (typeLookup (.ref C) "__init__") (some (.ref fI)))
    (bd : ∀ self, W.Looks (model prog w) hp (bindSpecial (.ref fI) self) (.ref fI, [self])) (small : ps.length ≤ sizeLine)
    (fin : codeAny (model prog w) ar (.call (.ref fI) ⟨.ref (hp.objs.size + 1) :: ps, kw⟩)
      (fun r s' => match r with | .ok (.ret v) => v = .none ∧ Q (.done (.ret (.ref (hp.objs.size + 1)))) s' | .ok _ => False | .error e => er e s')
      ⟨(hp.push (W.kdv_tup ps)).push (excO C hp.objs.size), ge, dr, tn, osx⟩) :
    wpAny (model prog w) ar (Builtin.«type.__call__» ⟨.ref C :: ps, kw⟩) Q er ⟨hp, ge, dr, tn, osx⟩ := by
  repeat (first
    | with_reducible refine wpAny_loadPart_at cC ?_
    | with_reducible refine wpAny_madeBy_exc cC ?_
    | wp_step)
  refine codeAny_call_builtin_code (Code.quiet_builtin _ FB.quiet) (kw_check FB same cC ?_)
  refine kw_new FB same cC ?_ small
  show wpAny _ _ _ _ _ _
  have keep : ∀ b o, hp.get? b = some o → ((hp.push (W.kdv_tup ps)).push (excO C hp.objs.size)).get? b = some o := fun b o e =>
    Heap.get?_push_of_some _ (Heap.get?_push_of_some _ e)
  have cC' := keep _ _ cC
  have new : ((hp.push (W.kdv_tup ps)).push (excO C hp.objs.size)).get? (hp.objs.size + 1) = some (excO C hp.objs.size) := by heap_get
  have inC : (Value.ref C :: bm).contains (.ref C) = true := by simp
  have lk' := lk.keeps keep
  have bd' := (bd (.ref (hp.objs.size + 1))).keeps keep
  unfold isInstance
  repeat (first
    | with_reducible refine wpAny_loadPart_at new ?_
    | (with_reducible refine wpAny_isSubtype_exc cC' ?_; rw [inC])
    | wp_step)
  show wpAny _ _ (typeLookup (.ref C) _) _ _ _
  refine lk'.at ?_
  refine wpAny_holding (wpAny_bind (bd'.at ?_))
  refine wpAny_bind (wpAny_call (codeAny_mono fin fun r s' z => ?_))
  rcases r with e | (v | _ | _ | _) <;> first | exact z | exact z.elim | skip
  obtain ⟨rfl, z⟩ := z
  first
    | exact wpAny_pure (wpAny_pure z)
    | (wp_walk; exact z)

theorem kw_call (FB : ExcBaseFacts B nI iI bB) (same : ∀ X : String, bm.contains (.type X) = bB.contains (.type X)) {ps : List Value} {fI : Addr}
    (cC : hp.get? C = some (excClassObj nm qn C N bs bm hd sn sb ab co dd k0 k1 k2 k3 k5 nI))
    (lk : W.Looks (model prog w) hp (typeLookup (.ref C) "__init__") (some (.ref fI)))
    (bd : ∀ self, W.Looks (model prog w) hp (bindSpecial (.ref fI) self) (.ref fI, [self])) (small : ps.length ≤ sizeLine)
    (fin : codeAny (model prog w) (ar.under (.builtin "type.__call__" ⟨.ref C :: ps, kw⟩)) (.call (.ref fI) ⟨.ref (hp.objs.size + 1) :: ps, kw⟩) (W.InitBack (hp.objs.size + 1) R)
      ⟨(hp.push (W.kdv_tup ps)).push (excO C hp.objs.size), ge, dr, tn, osx⟩) :
    codeAny (model prog w) ar (.call (.ref C) ⟨ps, kw⟩) R ⟨hp, ge, dr, tn, osx⟩ := by
  have f1 := tc_lookup
  have f2 := tc_bind (.ref C)
  have ty : (⟨hp, ge, dr, tn, osx⟩ : Shared).TypeIs (.ref C) "type" := ⟨_, cC, rfl⟩
  refine codeAny_of_tree ?_
  show wpAny _ _ (callAny (.ref C) _) _ _ _
  repeat (any_goals (first | assumption | with_reducible refine wpAny_loadPart_at cC ?_ | wp_step))
  refine ⟨rfl, ?_⟩
  refine codeAny_call_builtin_at (Code.quiet_builtin _ (by decide +kernel)) entry_typeCall (wpAny_check_type_call_sub cC (kw_typecall FB same cC lk bd small ?_))
  refine codeAny_mono fin fun r s' z => ?_
  rcases r with e | (v | _ | _ | _) <;> exact z
end
end ErrKw
end PySem

/-! The own __init__: the base's one through super, then one field. -/
namespace PySem
namespace ErrKw
open PySem.W PySem.Calls PyProof.Rows PySem.HandSPX
def iArgs (f : Str) (p1 p2 : Pos) : Arguments := { posonlyargs := [], args := [{ arg := "self", annotation := none, pos := p1 }, { arg := f, annotation := none, pos := p2 }], vararg := none, kwonlyargs := [], kw_defaults := [], kwarg := none, defaults := [] }
def iBody (f msg : Str) (k : Nat) (q1 q2 q3 q4 q5 q6 q7 q8 q9 q10 : Pos) : List Stmt :=
  [.Expr (.Call (.Attribute (.Call (.Name "super" q1) [] [] q2) "__init__" q3) [.Constant (.str msg) k q4] [] q5) q6,
   .Assign [.Attribute (.Name "self" q7) f q8] (.Name f q9) q10]
def iScope (f : Str) : Scope := { kind := .function, names := [("self", .local), (f, .local), ("__class__", .free), ("super", .globalImplicit)], isGenerator := false, isCoroutine := false, more := [] }
/-- how the call of the base's __init__ is read, for these places -/
def Reads0 (msg : Str) (k : Nat) (q1 q2 q3 q4 q5 : Pos) : Prop := ∃ pl : Env → Sem Bool, ∀ env : Env, eval (.Call (.Attribute (.Call (.Name "super" q1) [] [] q2) "__init__" q3) [.Constant (.str msg) k q4] [] q5) env = (do
  let ov ← attributeBase (.Call (.Name "super" q1) [] [] q2) "__init__" env (eval (.Call (.Name "super" q1) [] [] q2) env)
  standAt q3.atName
  let (g, first) ← holding [ov] (getMethod ov "__init__" (pl env))
  callWith q5 g first (backTo q5 (starEach [.Constant (.str msg) k q4] env)) [])
/-- what stands of an own error class at C (its field f), and of its __init__ at fI; D: the class that its __class__ cell names (itself) -/
structure Own (K : Frag) (C fI : Addr) (f : Str) : Prop where
  cls : ∃ nm qn N bs bm sn sub ab col dd k0 k1 k2 k3 k5, K.lookup C = some (excClassObj nm qn C N bs bm true sn sub ab col dd k0 k1 k2 k3 k5 "ValueError.__new__") ∧ refsVE bm = true
  sa : findIn K (.ref C) "__setattr__" = some (some (.builtin "object.__setattr__"))
  no : findIn K (.ref C) f = some none
  su : ks_superIn K C C "__init__" = some (some (.builtin "ValueError.__init__"))
  ve : subIn K (.ref C) (.type "ValueError") = some true
  me : mroIn K C (.ref C) = some true
  tp : nsIn K cStatics "thirdparty.any" = some none
  qi : excInitIn K C [.type "ValueError", .type "Exception", .type "BaseException", .type "object"] "ValueError.__new__" = true
  kl : (iScope f).names.lookup f = some .local
  vs : f ≠ "self"
  nd : (f == ("__debug__" : Str)) = false
  ks : (iScope f).names.lookup ("super" : Str) = some .globalImplicit
  kc : (iScope f).names.lookup ("__class__" : Str) = some .free
  fn : ∃ (qn msg : Str) (k : Nat) (oc doc pm ct ccl cll : Value) (od an cdd cld : Option Addr) (osl ccs csl : Array (Option Value)) (cda cc : Addr) (fs : Array Value) (file : Str) (tf : Tok) (p1 p2 q1 q2 q3 q4 q5 q6 q7 q8 q9 q10 : Pos),
    K.lookup fI = some ⟨oc, od, .func (ksFn "__init__" qn (iArgs f p1 p2) (iBody f msg k q1 q2 q3 q4 q5 q6 q7 q8 q9 q10) (iScope f) .none .none doc pm an (.ref cda) ct cc), osl⟩ ∧ codeIn K (.ref cda) qn = true ∧
    K.lookup cda = some ⟨ccl, cdd, .fields fs, ccs⟩ ∧ fs[2]? = some (.str file tf) ∧ K.lookup cc = some ⟨cll, cld, .cell (some (.ref C)), csl⟩ ∧ Reads0 msg k q1 q2 q3 q4 q5
/-- how the value comes to the field's parameter: by place, by keyword -/
structure Giv (f : Str) : Prop where
  place : ∀ (s : Shared) (x u : Value) qn p1 p2 body doc pm an cdv ct cc, BindsTo s (ksFn "__init__" qn (iArgs f p1 p2) body (iScope f) .none .none doc pm an cdv ct cc) ⟨[x, u], []⟩ [("self", x), (f, u)]
  word : ∀ (s : Shared) (x u : Value) qn p1 p2 body doc pm an cdv ct cc, BindsTo s (ksFn "__init__" qn (iArgs f p1 p2) body (iScope f) .none .none doc pm an cdv ct cc) ⟨[x], [(f, u)]⟩ [("self", x), (f, u)]
theorem given_path : Giv "path" := ⟨fun _ _ _ _ _ _ _ _ _ _ _ _ _ => .of_eq rfl, fun _ _ _ _ _ _ _ _ _ _ _ _ _ => .of_eq (by with_unfolding_all rfl)⟩
theorem given_place : Giv "place" := ⟨fun _ _ _ _ _ _ _ _ _ _ _ _ _ => .of_eq rfl, fun _ _ _ _ _ _ _ _ _ _ _ _ _ => .of_eq (by with_unfolding_all rfl)⟩
theorem given_index : Giv "index" := ⟨fun _ _ _ _ _ _ _ _ _ _ _ _ _ => .of_eq rfl, fun _ _ _ _ _ _ _ _ _ _ _ _ _ => .of_eq (by with_unfolding_all rfl)⟩
theorem given_name : Giv "name" := ⟨fun _ _ _ _ _ _ _ _ _ _ _ _ _ => .of_eq rfl, fun _ _ _ _ _ _ _ _ _ _ _ _ _ => .of_eq (by with_unfolding_all rfl)⟩
theorem given_status : Giv "status" := ⟨fun _ _ _ _ _ _ _ _ _ _ _ _ _ => .of_eq rfl, fun _ _ _ _ _ _ _ _ _ _ _ _ _ => .of_eq (by with_unfolding_all rfl)⟩
theorem given_limit : Giv "limit" := ⟨fun _ _ _ _ _ _ _ _ _ _ _ _ _ => .of_eq rfl, fun _ _ _ _ _ _ _ _ _ _ _ _ _ => .of_eq (by with_unfolding_all rfl)⟩
/-- what __init__ leaves -/
structure After (h h' : Heap) (x C dx t1 : Addr) (f : Str) (v : Value) : Prop where
  keep : ∀ b o, b ≠ x → h.get? b = some o → h'.get? b = some o
  obj : h'.get? x = some { cls := .ref C, dict := some dx, data := .fields #[.ref t1, .none, .none, .none, .bool false, .none] }
  big : h.objs.size ≤ dx
  ne : dx ≠ x
  ns : h'.Ns1 dx (fun y => if y = f then some v else none)
section
variable {prog : Program} {w : World} {A : Around} {R : Result → Shared → Prop} {s : Shared} {K : Frag} {mg mb : Str → Option Value} {C fI : Addr} {f : Str}
theorem err_init (T : Own K C fI f) {x t0 : Addr} {v : Value} {args : Args} (X : K.In s.heap) (G : s.heap.Ns mainGlobals mg) (Bt : s.heap.Ns builtinsNs mb) (hmg : mg "super" = none) (hmb : mb "super" = some (.type "super")) (hlim : s.heap.NoLimit)
    (hx : s.heap.get? x = some (excO C t0)) (hnx : K.lookup x = none) (hroom : A.depth < recursionLimit) (htop : (prog.main.scope.names.lookup ("super" : Str)).isSome = false)
    (hfile : ∀ cda ccl cdd fs ccs file tf, K.lookup cda = some ⟨ccl, cdd, .fields fs, ccs⟩ → fs[2]? = some (.str file tf) → ((prog.main.file : Str) == file) = true)
    (bnd : ∀ qn p1 p2 body doc pm an cdv ct cc, BindsTo s (ksFn "__init__" qn (iArgs f p1 p2) body (iScope f) .none .none doc pm an cdv ct cc) args [("self", .ref x), (f, v)])
    (hq : ∀ h' tk dx t1, After s.heap h' x C dx t1 f v → R (.ok (.ret .none)) { s with heap := h', toks := tk }) :
    codeAny (model prog w) A (.call (.ref fI) args) R s := by
  obtain ⟨qn, msg, k, oc, doc, pm, ct, ccl, cll, od, an, cdd, cld, osl, ccs, csl, cda, cc, fs, file, tf, p1, p2, q1, q2, q3, q4, q5, q6, q7, q8, q9, q10, ho, hcd, hcode, hfs, hcell, pl, hread⟩ := T.fn
  obtain ⟨nm, qc, N, bs, bm, sn, sub, ab, col, dd, k0, k1, k2, k3, k5, hC, hbm⟩ := T.cls
  have fl := hfile _ _ _ _ _ _ _ hcode hfs
  have nsf : (f == ("self" : Str)) = false := by simpa using T.vs
  refine ks_codeAny_call_defAt (fd := ksFn "__init__" qn (iArgs f p1 p2) (iBody f msg k q1 q2 q3 q4 q5 q6 q7 q8 q9 q10) (iScope f) .none .none doc pm an (.ref cda) ct cc) (body := iBody f msg k q1 q2 q3 q4 q5 q6 q7 q8 q9 q10)
    (binds := [("self", .ref x), (f, v)]) hroom (X _ _ ho) rfl hlim (codeRec_of X hcd) rfl (bnd _ _ _ _ _ _ _ _ _ _) ?_ ?_ (fun h₁ ns₁ kp₁ => ?_) rfl rfl rfl
  · intro y hy
    simp only [ksFn, fnX, iScope, List.mem_cons, List.not_mem_nil, or_false] at hy
    rcases hy with rfl | rfl | rfl | rfl <;> first | decide | (show NameKind.local ≠ NameKind.cell; decide)
  · intro y hy
    simp only [List.mem_cons, List.not_mem_nil, or_false] at hy
    rcases hy with rfl | rfl
    · rfl
    · exact T.kl
  show PySem.wpAt (model prog w) (A.deeper (ksEnv qn (iScope f) s.heap.objs.size fI (.ref cda) cc)) (.func _ (ksEnv qn (iScope f) s.heap.objs.size fI (.ref cda) cc)) (execs _ (ksEnv qn (iScope f) s.heap.objs.size fI (.ref cda) cc)) _ _ _
  have lt : x < s.heap.objs.size := Heap.lt_size hx
  have F₁ : Fr (hideAll s.heap [x]) s.heap.objs.size h₁ (fun y => List.lookup y [(f, v), (("self" : Str), Value.ref x)]) :=
    ⟨ns₁, fun b o e => kp₁ b o (of_hideAll _ e), Nat.le_of_eq (hideAll_size _ _)⟩
  have N₁ : News (hideAll s.heap [x]) s.heap.objs.size h₁ [(x, excObj C t0 none .none)] := by
    intro p hp
    simp only [List.mem_cons, List.not_mem_nil, or_false] at hp
    subst hp
    exact ⟨kp₁ _ _ hx, Nat.ne_of_lt lt, hideAll_none _ (by simp)⟩
  have X₀ : K.In (hideAll s.heap [x]) := fun a o e => hideAll_get _ (X a o e) (by
    intro z
    simp only [List.mem_cons, List.not_mem_nil, or_false] at z
    rw [z, hnx] at e
    cases e)
  have X₁ : K.In h₁ := X.keeps kp₁
  have vself : (fun y => List.lookup y [(f, v), (("self" : Str), Value.ref x)]) "self" = some (.ref x) := by
    show List.lookup ("self" : Str) [(f, v), (("self" : Str), Value.ref x)] = some (.ref x)
    have : (("self" : Str) == f) = false := by
      rw [Bool.eq_false_iff]; intro z; exact T.vs (beq_iff_eq.mp z).symm
    simp [List.lookup, this]
  refine ks_wpAt_execs_cons ?_
  refine ks_wpAt_Expr_any ?_ (hi := by rfl) (hs := by rfl)
  refine ks_wpAt_MethodCall (pl := pl _) ?_ (he := hread _)
  refine ks_wpAt_super_base (f := fI) (cc := cda) (ar := { arg := "self", annotation := none, pos := p1 }) ?a1 ?a2 (by decide) rfl (X₁ _ _ ho) rfl rfl rfl (X₁ _ _ hcode) rfl hfs fl htop ?_
  case a1 => exact T.ks
  case a2 => exact T.kc
  refine ks_loadName_global rfl T.ks (Calls.loadGlobal_builtin (mg := mg) (mb := mb) (G.at fun o e => kp₁ _ _ e) hmg (Bt.at fun o e => kp₁ _ _ e) hmb ⟨rfl, ?_⟩)
  refine wpAny_loadName_free rfl T.kc rfl ⟨_, X₁ _ _ hcell, rfl⟩ ?_
  refine wpAny_loadName_local rfl rfl F₁.ns vself ?_
  refine ks_wpAny_isType_cls (X₁ _ _ hC) rfl ⟨rfl, ?_⟩
  refine ks_wpAny_call_super (X₁ _ _ hC) rfl (N₁ (x, excObj C t0 none .none) (by simp)).1 rfl (fun c z => by cases z) (looks_mroIn X₁ T.me) (fun h₂ e₂ kp₂ => ?_)
  obtain ⟨F₂, N₂, l₂⟩ := ks_newsPush (s := ⟨h₁, s.gens, s.drawn, s.toks + 2, s.os⟩) F₁ N₁ rfl e₂ kp₂
  refine kxs_method (i := "ValueError.__init__") kxs_ValueError F₂ X₀ N₂ (so := h₁.objs.size) (x := x) (C := C) (D := C) (by simp) (InstAt.of_exc0 N₂ (t := t0) (c2 := .none) (by simp)) T.tp T.su T.ve (by decide) (fun q h₃ F₃ N₃ l₃ => ?_)
  refine kxs_callWith1 N₃ (x := x) (i := "ValueError.__init__") (by simp) ?_ (by rfl) (by rfl)
  refine spliced_more (Calls.Constant_str (spliced_none ⟨kxs_at N₃ (by simp), ?_⟩))
  have qx : q ≠ x := Nat.ne_of_gt (l₃ (x, excObj C t0 none .none) (by simp))
  have sx : h₁.objs.size ≠ x := Nat.ne_of_gt (l₂ (x, excObj C t0 none .none) (by simp))
  refine kxs_call (i := "ValueError.__init__") F₃ X₀ N₃ F.excBase_ValueError T.qi (by simp) (UpdF.tail qx (UpdF.tail sx (UpdF.head (fun p hp => by simp at hp)))) (show 1 ≤ sizeLine by rw [sizeLine_eq]; decide) (fun t' h₄ F₄ N₄ l₄ => ?_)
  have hx₄ := (N₄ (x, excObj C t' none .none) (by simp)).1
  have X₄ : K.In h₄ := X₀.keeps F₄.keep
  have hcl : clsIn K C = some { name := nm, bases := bs, mro := .ref C :: bm, ns := N, qualname := qc, hasDict := true, slotNames := sn, subclasses := sub, abstract := ab, collection := col, hasDel := false } := by
    unfold clsIn; rw [hC] <;> rfl
  show PySem.wpAt _ _ _ (execs _ _) _ _ _
  refine ks_wpAt_execs_cons (wpAt_of_wpAny (plainObj_wpAny_Assign_Attribute ?_ (by rfl)))
  refine wpAny_Name (wpAny_loadName_local rfl T.kl F₄.ns (v := v) (by simp [List.lookup]) ?_) T.nd
  refine wpAny_Name (wpAny_loadName_local rfl rfl F₄.ns vself ?_) (by decide)
  refine set_plain X₄ (ox := excObj C t' none .none) (od := none) ⟨hx₄, rfl, rfl, trivial⟩ T.sa ?_
  refine exc_osa X₄ hx₄ hcl (show refsVE (.ref C :: bm) = true from hbm) rfl T.no (fun h₅ tk₅ dx k₅ dn dne hx₅ hn₅ => ?_)
  show PySem.wpAt _ _ _ (execs [] _) _ _ _
  have sz : s.heap.objs.size < h₄.objs.size := F₄.ns.lt
  refine wpAt_of_wpAny (wpAny_execs_nil (hq h₅ tk₅ dx t' ⟨fun b o hb e => k₅ b o hb (F₄.keep b o (hideAll_get _ e (by
    intro z
    simp only [List.mem_cons, List.not_mem_nil, or_false] at z
    exact hb z))), hx₅, Nat.le_of_lt (Nat.lt_of_lt_of_le sz dn), dne, hn₅⟩))
end
end ErrKw
end PySem

namespace L2
open PySem PySem.Spec PyProof.Rows PySem.ErrKw
/-- an own error class of this program, at C, called x, with the field f -/
structure ErrC (P : Program) (K : PySem.W.Frag) (mg : Str → Option Value) (x f : Str) (C fI : Addr) : Prop where
  own : Own K C fI f
  gC : mg x = some (.ref C)
  kC : PySem.W.keepIn K (.ref C) = true
  iC : PySem.W.findIn K (.ref C) "__init__" = some (some (.ref fI))
  tI : PySem.W.typeIn K (.ref fI) = some (.type "function")
  ga : PySem.W.findIn K (.ref C) "__getattribute__" = some (some (.builtin "BaseException.__getattribute__"))
  gg : PySem.W.findIn K (.ref C) "__getattr__" = some none
  exC : PySem.W.subIn K (.ref C) (.type "BaseException") = some true
  hdC : PySem.W.hasDictIn K C = true
  ca : PySem.W.findIn K (.ref C) "__class__" = some (some (.builtin "object.__class__"))
  cg : PySem.W.specialIn K (.builtin "object.__class__") "__get__" = some (some (.builtin "getset_descriptor.__get__"))
  ct : PySem.W.takesIn K (.builtin "object.__class__") = some true
  mo : PySem.W.mroIn K C (.type "object") = some true
  isC : (PySem.W.clsIn K C).isSome = true
  sup : mg "super" = none
  top : (P.main.scope.names.lookup ("super" : Str)).isSome = false
  fil : ∀ cda ccl cdd fs ccs file tf, K.lookup cda = some ⟨ccl, cdd, .fields fs, ccs⟩ → fs[2]? = some (.str file tf) → ((P.main.file : Str) == file) = true
/-- at e: such an error with this value -/
def ErrAt (H : Hp) (e C : Addr) (f : Str) (v : V) : Prop := ∃ d, H e = some (exo e C (some d)) ∧ H d = some (exd d [(f, v)])
def sErr (C : Addr) (f : Str) (v : V) (H : Hp) (Q : VK) : Prop := ∀ e d, H e = none → H d = none → d ≠ e → Q (.ref e) (upd (upd H d (exd d [(f, v)])) e (exo e C (some d)))
section
variable {X : Cx} {x f : Str} {C fI : Addr} {pins : List (Addr × Obj)} {σ : St}
theorem run_err (Z : ErrC X.prog X.K X.mg x f C fI) (hr : Room 1 X.A) {H : Hp} {s : Shared} {Q : VK} {ps : List Value} {kw : List (Str × Value)} {v : V} {u : Value} (I : Inv X pins σ H s) (rv : RelV v u) (small : ps.length ≤ sizeLine)
    (bnd : ∀ (s' : Shared) (e : Addr) qn p1 p2 body doc pm an cdv ct cc, BindsTo s' (PySem.W.ksFn "__init__" qn (iArgs f p1 p2) body (iScope f) .none .none doc pm an cdv ct cc) ⟨.ref e :: ps, kw⟩ [("self", .ref e), (f, u)])
    (q : sErr C f v H Q) : wpAny (model X.prog X.w) X.A (call (.ref C) ps kw) (EP X pins σ Q) X.xe s := by
  obtain ⟨nm, qn, N, bs, bm, sn, sub, ab, col, dd, k0, k1, k2, k3, k5, hC, hbm⟩ := Z.own.cls
  have hlim := I.nolimit
  have Kn := I.kIn
  have G : s.heap.Ns mainGlobals X.mg := I.mod.glob.keeps I.bk
  obtain ⟨mb, B0, hmb⟩ := I.mod.blt
  have Bt : s.heap.Ns builtinsNs mb := B0.keeps I.bk
  have hsup : mb "super" = some (.type "super") := (hmb _ (by decide)).trans PyProof.Rows.Boot.«super»
  obtain ⟨hp, g, dr, tk, os⟩ := s
  have kk : ∀ b o, hp.get? b = some o → ((hp.push (PySem.W.kdv_tup ps)).push (PySem.HandSPX.excO C hp.objs.size)).get? b = some o := fun b o e => Heap.get?_push_of_some _ (Heap.get?_push_of_some _ e)
  have hget : ((hp.push (PySem.W.kdv_tup ps)).push (PySem.HandSPX.excO C hp.objs.size)).get? (hp.objs.size + 1) = some (PySem.HandSPX.excO C hp.objs.size) := by heap_get
  have hnx : X.K.lookup (hp.objs.size + 1) = none := by
    cases e : X.K.lookup (hp.objs.size + 1) with
    | none => rfl
    | some o =>
      have z : hp.get? (hp.objs.size + 1) = some o := Kn _ _ e
      exact absurd (Nat.lt_of_succ_lt (Heap.lt_size z)) (Nat.lt_irrefl _)
  refine wpAny_call (kw_call F.excBase_ValueError (fun Y => PySem.HandSPX.refsVE_contains Y bm hbm) (Kn _ _ hC) (PySem.W.looks_findIn Kn Z.iC) (fun self => PySem.W.bind_fn Kn self Z.tI) small ?_)
  refine err_init (s := ⟨(hp.push (PySem.W.kdv_tup ps)).push (PySem.HandSPX.excO C hp.objs.size), g, dr, tk, os⟩) (mg := X.mg) (mb := mb) Z.own (v := u) (Kn.keeps kk) (G.at fun o e => kk _ _ e) (Bt.at fun o e => kk _ _ e) Z.sup hsup (hlim.keeps kk) hget hnx ?_ Z.top Z.fil (bnd _ _) fun h' tk' d t1 M => ?_
  · have z := (hr.make C ps kw).dp
    omega
  · have old : ∀ b o, hp.get? b = some o → h'.get? b = some o := fun b o e => M.keep b o (Nat.ne_of_lt (Nat.lt_succ_of_lt (Heap.lt_size e))) (kk b o e)
    have dbig : hp.objs.size ≤ d := by
      have z := M.big
      rw [Heap.size_push, Heap.size_push] at z
      omega
    have He : H (hp.objs.size + 1) = none := I.hok.fresh (Nat.le_succ _)
    have Hd : H d = none := I.hok.fresh dbig
    have ned : ∀ {b : Addr} {o : Obj}, hp.get? b = some o → b ≠ d := fun {b o} z => Nat.ne_of_lt (Nat.lt_of_lt_of_le (Heap.lt_size z) dbig)
    have nee : ∀ {b : Addr} {o : Obj}, hp.get? b = some o → b ≠ hp.objs.size + 1 := fun {b o} z => Nat.ne_of_lt (Nat.lt_succ_of_lt (Heap.lt_size z))
    have Un1 : Un X.fs [] H (upd (upd H d (exd d [(f, v)])) (hp.objs.size + 1) (exo (hp.objs.size + 1) C (some d))) hp h' := {
      keep := fun b o z n _ _ => old b o z
      slot := fun b o z n _ _ => ⟨o.slots, old b o z⟩
      free := fun b o z n _ => by rw [upd_ne (nee z), upd_ne (ned z)]; exact n
      there := fun b o z _ => ⟨o, old b o z⟩
      tups := fun b xs z => by rw [upd_ne (ne_of_none z He), upd_ne (ne_of_none z Hd)]; exact z
      frzs := fun b o w z => by rw [upd_ne (ne_of_none z He), upd_ne (ne_of_none z Hd)]; exact z
      tbls := fun b ps z => ⟨#[], by rw [upd_ne (ne_of_none z He), upd_ne (ne_of_none z Hd), z]; simp⟩ }
    have J := I.un (t' := tk') Un1 (fun b o z => by
      by_cases hb : b = hp.objs.size + 1
      · subst hb
        rw [upd_same] at z
        cases z
        exact exo_ok M.obj
      · rw [upd_ne hb] at z
        by_cases hbd : b = d
        · subst hbd
          rw [upd_same] at z
          cases z
          exact exd_ok M.ns (relO_put (fs := []) rv fun g => True.intro)
        · rw [upd_ne hbd] at z
          exact (I.hok b o z).stay (fun c w _ y => old c w y) (fun c y => by rw [upd_ne (ne_of_none y He), upd_ne (ne_of_none y Hd)]; exact y) (fun c xs y => by rw [upd_ne (ne_of_none y He), upd_ne (ne_of_none y Hd)]; exact y))
    exact ⟨rfl, ⟨V.ref _, _, J, rfl, q _ d He Hd M.ne⟩⟩
/-- C(e) -/
def tErr (C : Addr) (f : Str) (te : TE) : TE := fun σ H Q => te σ H fun v H1 => sErr C f v H1 Q
theorem pe_err {e : Expr} {te : TE} {p pos : Pos} (Z : ErrC X.prog X.K X.mg x f C fI) (B : Giv f) (hr : Room 1 X.A) (ha : PE X e te) (hg : Gl X x := by rfl)
    (hdb : (x == ("__debug__" : Str)) = false := by decide) (he : starEach (e :: []) X.env = (false, eval e X.env) :: starEach [] X.env := by rfl) (hpl : (backTo pos (starEach [] X.env)).any (·.1) = false := by rfl) :
    PE X (.Call (.Name x p) [e] [] pos) (tErr C f te) := by
  refine ⟨fun pins s σ H Q I h => ?_⟩
  refine wpAny_Call_Name_kw (ld_glob I hg Z.gC ?_ hdb)
  have pa : PA X [e] (tCons te tNil) := pa_cons ha pa_nil he
  refine PySem.W.callWith_K (h₀ := X.base) I.ok.mod.kin Z.kC (thn (pa.run pos pins s σ H (fun vs H1 => match vs with | [v] => sErr C f v H1 Q | _ => False) I h) fun us s1 hh => ?_) he hpl
  obtain ⟨vs, H1, I1, r1, q1⟩ := hh
  refine ⟨I1.kIn, ?_⟩
  cases r1 with
  | nil => exact q1.elim
  | cons rv rn =>
    cases rn with
    | cons _ _ => exact q1.elim
    | nil => exact run_err Z hr I1 rv (show 1 ≤ sizeLine by rw [sizeLine_eq]; decide) (fun s' a => B.place s' (.ref a) _) q1
/-- C(f=e) -/
theorem pe_errK {e : Expr} {te : TE} {p pos kpos : Pos} (Z : ErrC X.prog X.K X.mg x f C fI) (B : Giv f) (hr : Room 1 X.A) (ha : PE X e te) (hg : Gl X x := by rfl)
    (hdb : (x == ("__debug__" : Str)) = false := by decide) (hall : (backToKw pos (keywordEach [⟨some f, e, kpos⟩] X.env)).all (·.1.isSome) = true := by rfl) (hks : (backToKw pos (keywordEach [⟨some f, e, kpos⟩] X.env)).filterMap (·.1) = [f] := by rfl)
    (hpl : ((backTo pos (starEach [] X.env)).any (·.1) || (backToKw pos (keywordEach [⟨some f, e, kpos⟩] X.env)).any (·.1.isNone)) = false := by rfl) :
    PE X (.Call (.Name x p) [] [⟨some f, e, kpos⟩] pos) (tErr C f te) := by
  refine ⟨fun pins s σ H Q I h => ?_⟩
  refine wpAny_Call_Name_kw (ld_glob I hg Z.gC ?_ hdb)
  have pk : PK X [⟨some f, e, kpos⟩] (tCons te tNil) := pk_cons ha pk_nil
  refine PySem.W.callWith_KW0 (h₀ := X.base) I.ok.mod.kin Z.kC hall (thn (pk.run pos pins s σ H (fun vs H1 => match vs with | [v] => sErr C f v H1 Q | _ => False) I h) fun us s1 hh => ?_) hpl
  obtain ⟨vs, H1, I1, r1, q1⟩ := hh
  refine ⟨I1.kIn, ?_⟩
  rw [hks]
  cases r1 with
  | nil => exact q1.elim
  | cons rv rn =>
    cases rn with
    | cons _ _ => exact q1.elim
    | nil => exact run_err Z hr I1 rv (Nat.zero_le _) (fun s' a => B.word s' (.ref a) _) q1
/-- e.f of such an error -/
def tErrF (P : Program) (K : PySem.W.Frag) (mg : Str → Option Value) (f : Str) (te : TE) : TE := fun σ H Q => te σ H fun x H1 => ∃ a n C fI v, x = .ref a ∧ ErrC P K mg n f C fI ∧ ErrAt H1 a C f v ∧ Q v H1
theorem pe_errF {e : Expr} {te : TE} {pos : Pos} (he : PE X e te) (hb : attributeBase e f X.env (eval e X.env) = eval e X.env := by rfl) : PE X (.Attribute e f pos) (tErrF X.prog X.K X.mg f te) := by
  refine ⟨fun pins s σ H Q I h => ?_⟩
  refine attr_of hb (thn (he.run pins s σ H _ I h) fun u s1 hh => ?_)
  obtain ⟨y, H1, I1, rx, a, n, C, fI, v, ex, Z, ⟨d, ea, ed⟩, q⟩ := hh
  subst ex
  obtain rfl : u = Value.ref a := rx
  obtain ⟨t1, ho⟩ := exo_at I1.hok ea
  obtain ⟨mA, hns, hrl⟩ := exd_at I1.hok ed
  obtain ⟨od, hod, hl⟩ := lookIn_ns hns
  have l : List.lookup f [(f, v)] = some v := by simp [List.lookup]
  obtain ⟨u, hu, ru⟩ := RelO.some_of (v := v) (o := mA f) (by rw [← l]; exact hrl f)
  have J : PySem.W.InstAt s1.heap a { cls := .ref C, dict := some d, data := .fields #[.ref t1, .none, .none, .none, .bool false, .none] } C (some od) := ⟨ho, rfl, rfl, hod⟩
  exact HandSPX.exc_get I1.kIn J Z.ga Z.gg Z.exC (PySem.W.findObj_own Z.hdC Z.own.no rfl (by rw [hl, hu])) (handed_of ru) ⟨v, H1, I1.tok _, ru, q⟩
/-- isinstance(e, D) -/
def rErrIs (P : Program) (K : PySem.W.Frag) (mg : Str → Option Value) : List V → Hp → VK → Prop := fun xs H Q => ∃ (a C fI : Addr) (n f : Str) (v c : V) (u : Value) (b : Bool), xs = [.ref a, c] ∧ ClsV c u ∧ ErrC P K mg n f C fI ∧ ErrAt H a C f v ∧ PySem.W.kitOne K (.ref C) u = some b ∧ Q (.bl b) H
theorem call_errIs : CallR X (.builtin "isinstance") (rErrIs X.prog X.K X.mg) := by
  intro pins s σ H xs us Q I r h
  obtain ⟨a, C, fI, n, f, v, c, u, b, rfl, k, Z, ⟨d, ea, ed⟩, e, q⟩ := h
  obtain ⟨u1, u2, rfl, r1, r2⟩ := vals2 r
  have e2 := k.eq r2
  subst e2
  obtain rfl : u1 = Value.ref a := r1
  obtain ⟨t1, ho⟩ := exo_at I.hok ea
  obtain ⟨mA, hns, hrl⟩ := exd_at I.hok ed
  obtain ⟨od, hod, hl⟩ := lookIn_ns hns
  have J : PySem.W.InstAt s.heap a { cls := .ref C, dict := some d, data := .fields #[.ref t1, .none, .none, .none, .bool false, .none] } C (some od) := ⟨ho, rfl, rfl, hod⟩
  exact PySem.W.kia_one (PySem.W.kitx_exc Z.isC Z.ga Z.gg Z.exC Z.ca Z.cg Z.ct Z.mo) I.kIn J e (fun z => by cases z) fun tk => ⟨.bl b, H, I.tok tk, rfl, q⟩
end
end L2

/-! Rules of my own: an own error raised, a try whose first clause names it, a def out of a table called. -/
namespace L2
open PySem PySem.Spec PyProof.Rows PySem.ErrKw
/-- an own error class that is raised and caught -/
structure ErrR (P : Program) (K : PySem.W.Frag) (mg : Str → Option Value) (x f : Str) (C fI : Addr) : Prop where
  c : ErrC P K mg x f C fI
  tyC : PySem.W.typeIn K (.ref C) = some (.type "type")
  te : PySem.W.exmOne K (.ref C) (.ref C) = some true
/-- C(e), to be raised -/
def tMkE (C : Addr) (f : Str) (te : TE) : St → Hp → XK → Prop := fun σ H Q => te σ H fun v H1 => ∀ d, H1 d = none → Q (.ref C) (some d) (upd H1 d (.xd [(f, v)]))
section
variable {X : Cx} {x f : Str} {C fI : Addr}
theorem pmk_err {a : Expr} {te : TE} {p pos : Pos} (Z : ErrR X.prog X.K X.mg x f C fI) (Bf : Giv f) (hr : Room 1 X.A) (ha : PE X a te) (hg : Gl X x := by rfl) (hdb : (x == ("__debug__" : Str)) = false := by decide)
    (he : starEach (a :: []) X.env = (false, eval a X.env) :: starEach [] X.env := by rfl) (hpl : (backTo pos (starEach [] X.env)).any (·.1) = false := by rfl) : PMk X (.Call (.Name x p) [a] [] pos) (tMkE C f te) := by
  intro pins s σ H Q I h
  refine wpAny_Call_Name_kw (ld_glob I hg Z.c.gC ?_ hdb)
  have pa : PA X [a] (tCons te tNil) := pa_cons ha pa_nil he
  refine PySem.W.callWith_K (h₀ := X.base) I.ok.mod.kin Z.c.kC (thn (pa.run pos pins s σ H (fun vs H1 => match vs with | [v] => ∀ d, H1 d = none → Q (.ref C) (some d) (upd H1 d (.xd [(f, v)])) | _ => False) I h) fun us s1 hh => ?_) he hpl
  obtain ⟨vs, H1, I1, r1, q1⟩ := hh
  refine ⟨I1.kIn, ?_⟩
  cases r1 with
  | nil => exact q1.elim
  | @cons v u vs us rv rn =>
    cases rn with
    | cons _ _ => exact q1.elim
    | nil =>
      obtain ⟨nm, qn, N, bs, bm, sn, sub, ab, col, dd, k0, k1, k2, k3, k5, hC, hbm⟩ := Z.c.own.cls
      have lim := I1.nolimit
      have Kn := I1.kIn
      have G := I1.mod.glob.keeps I1.bk
      obtain ⟨mb, B0, hmb⟩ := I1.mod.blt
      have Bt := B0.keeps I1.bk
      have sup : mb "super" = some (.type "super") := (hmb _ (by decide)).trans PyProof.Rows.Boot.«super»
      obtain ⟨hp, g, dr, tk, os⟩ := s1
      have up : ∀ b o, hp.get? b = some o → ((hp.push (PySem.W.kdv_tup [u])).push (PySem.HandSPX.excO C hp.objs.size)).get? b = some o := fun b o e => Heap.get?_push_of_some _ (Heap.get?_push_of_some _ e)
      have at1 : ((hp.push (PySem.W.kdv_tup [u])).push (PySem.HandSPX.excO C hp.objs.size)).get? (hp.objs.size + 1) = some (PySem.HandSPX.excO C hp.objs.size) := by heap_get
      have not1 : X.K.lookup (hp.objs.size + 1) = none := by
        cases e : X.K.lookup (hp.objs.size + 1) with
        | none => rfl
        | some o =>
          have z : hp.get? (hp.objs.size + 1) = some o := Kn _ _ e
          exact absurd (Nat.lt_of_succ_lt (Heap.lt_size z)) (Nat.lt_irrefl _)
      show wpAny _ _ (call (.ref C) [u]) _ _ _
      refine wpAny_call (kw_call F.excBase_ValueError (fun Y => PySem.HandSPX.refsVE_contains Y bm hbm) (Kn _ _ hC) (PySem.W.looks_findIn Kn Z.c.iC) (fun self => PySem.W.bind_fn Kn self Z.c.tI) (show 1 ≤ sizeLine by rw [sizeLine_eq]; decide) ?_)
      refine err_init (s := ⟨(hp.push (PySem.W.kdv_tup [u])).push (PySem.HandSPX.excO C hp.objs.size), g, dr, tk, os⟩) (mg := X.mg) (mb := mb) Z.c.own (v := u) (Kn.keeps up) (G.at fun o e => up _ _ e) (Bt.at fun o e => up _ _ e) Z.c.sup sup (lim.keeps up) at1 not1 ?_ Z.c.top Z.c.fil (Bf.place _ _ _) fun h' tk' d t1 M => ?_
      · have z := (hr.make C [u] []).dp
        omega
      · have ob := M.obj
        have old : ∀ b o, hp.get? b = some o → h'.get? b = some o := fun b o e => M.keep b o (Nat.ne_of_lt (Nat.lt_succ_of_lt (Heap.lt_size e))) (up b o e)
        have big : hp.objs.size ≤ d := by
          have z := M.big
          rw [Heap.size_push, Heap.size_push] at z
          omega
        obtain ⟨B, b1, b2⟩ := restrict h' fun b => decide (b ≠ hp.objs.size + 1)
        have bk : ∀ b, b ≠ hp.objs.size + 1 → B.get? b = h'.get? b := fun b z => b1 b (decide_eq_true z)
        have be : B.get? (hp.objs.size + 1) = none := b2 _ (by simp)
        have oldB : ∀ b o, hp.get? b = some o → B.get? b = some o := fun b o z => (bk b (Nat.ne_of_lt (Nat.lt_succ_of_lt (Heap.lt_size z)))).trans (old b o z)
        have new : ObjOk X.prog X.w (upd H1 d (.xd [(f, v)])) B d (.xd [(f, v)]) := ⟨_, M.ns.at (fun o z => (bk d M.ne).trans z), relO_put (fs := []) rv fun _ => True.intro⟩
        have J : Inv X pins σ (upd H1 d (.xd [(f, v)])) ⟨B, g, dr, tk', os⟩ := I1.laid (t' := tk') oldB big new
        refine ⟨rfl, hp.objs.size + 1, _, _, ⟨B, g, dr, tk', os⟩, _, .ref C, some d, rfl, J, fun b o z => ?_, be, ob, ⟨rfl, rfl⟩, rfl, rfl, ?_, rfl, I1.bare, raises_own Z.c.exC Z.tyC, q1 d (I1.hok.fresh big)⟩
        · by_cases e : b = hp.objs.size + 1
          · have z' : B.get? b = some o := z
            rw [e, be] at z'
            cases z'
          · exact (bk b e).symm.trans z
        · rw [upd_ne (Ne.symm M.ne)]
          exact I1.hok.fresh (Nat.le_succ _)
/-- raise C(e) -/
theorem ps_raiseE {a : Expr} {te : TE} {W : WX} {p pos pos2 : Pos} (hc : X.calm = true) (Z : ErrR X.prog X.K X.mg x f C fI) (Bf : Giv f) (hr : Room 1 X.A) (tk : Takes X W) (ha : PE X a te) (hg : Gl X x := by rfl) (hdb : (x == ("__debug__" : Str)) = false := by decide)
    (he : starEach (a :: []) X.env = (false, eval a X.env) :: starEach [] X.env := by rfl) (hpl : (backTo pos (starEach [] X.env)).any (·.1) = false := by rfl) :
    PS X (.Raise (some (.Call (.Name x p) [a] [] pos)) none pos2) (fun _ σ H => te σ H fun v H1 => ∀ d, H1 d = none → W (.ref C) (some d) σ (upd H1 d (.xd [(f, v)]))) := ps_raise hc tk (pmk_err Z Bf hr ha hg hdb he hpl)
end
/-! ### a table of defs -/
structure CallT (P : Program) (w : World) (K : PySem.W.Frag) (mg : Str → Option Value) (base : Heap) (CX : CXT) (k : Nat) (f : Addr) (sp : Sp) : Prop where
  ex : ∃ (fd : FuncData) (ps : List Str), FnOk P w K mg base CX k f fd ps sp ∧ PySem.W.keepIn K (.ref f) = true ∧ Binds K fd ps []
def tCallT {ι : Type} (i : Nat) (adr : ι → Addr) (sp : ι → Sp) (E : XK) (t : TA) : TE := fun σ H Q => ∃ j : ι, σ[i]? = some (some (.ref (adr j))) ∧ t σ H fun vs H1 => sp j vs H1 Q E
section
variable {X : Cx} {CX : CXT} {k i : Nat} {E : XK} {x : Str} {p pos : Pos} {e : Expr} {es : List Expr} {t : TA} {ι : Type} {adr : ι → Addr} {sp : ι → Sp}
theorem pe_callT (A : ∀ j, CallT X.prog X.w X.K X.mg X.base CX k (adr j) (sp j)) (hr : Room k X.A) (hN : X.N[i]? = some x) (hv : Vis X.env.scope x) (hx : Passes CX X E) (ha : PA X (e :: es) t)
    (hdb : (x == ("__debug__" : Str)) = false := by decide) (hcd : (x == ("__classdict__" : Str)) = false := by decide)
    (he : starEach (e :: es) X.env = (false, eval e X.env) :: starEach es X.env := by rfl) (hpl : (backTo pos (starEach es X.env)).any (·.1) = false := by rfl) : PE X (.Call (.Name x p) (e :: es) [] pos) (tCallT i adr sp E t) := by
  refine ⟨fun pins s σ H Q I h => ?_⟩
  obtain ⟨j, hs, ht⟩ := h
  obtain ⟨fd, ps, F, hk, hb⟩ := (A j).ex
  refine (pe_callL (i := i) (f := adr j) (sp := sp j) (dvs := []) (E := E) F hr hN hv hk hb .nil hx ha hdb hcd he hpl).run pins s σ H Q I ⟨hs, ?_⟩
  have e0 : (fun (vs : List V) (H1 : Hp) => sp j (vs ++ []) H1 Q E) = fun vs H1 => sp j vs H1 Q E := by
    funext vs H1
    rw [List.append_nil]
  show t σ H (fun vs H1 => sp j (vs ++ []) H1 Q E)
  rw [e0]
  exact ht
end
end L2

/-! The small defs: integers, names. -/
namespace Ck
open PySem PySem.Spec PyProof.Rows L2
def topS (i : Nat) : Stmt := PySem.Challenge.pw_shellways_k03_sizes_and_names.main.body.getD i (.Pass ⟨0, 0, 0, 0⟩)
abbrev sIsInt : Stmt := topS 6
abbrev sIsWithin : Stmt := topS 7
abbrev sIsName : Stmt := topS 8
abbrev sIsNew : Stmt := topS 24
abbrev sHasParts : Stmt := topS 25
/-- what the module's names hold -/
structure Md (K : PySem.W.Frag) (mg : Str → Option Value) (w : World) (dR dS : Addr) (adr : Kind → Addr) : Prop where
  mi : mg "isinstance" = none
  ml : mg "len" = none
  mm : mg "min" = none
  mint : mg "int" = none
  mbool : mg "bool" = none
  mstr : mg "str" = none
  mtup : mg "tuple" = none
  ln : ∃ t, mg "LONGEST_NAME" = some (.int 12 t)
  mf : ∃ t, mg "MOST_FUNCTIONS" = some (.int 20 t)
  mt : ∃ t, mg "MOST_TREES" = some (.int 3000 t)
  mv : ∃ t, mg "MOST_VARIABLES" = some (.int 40 t)
  mu : ∃ t, mg "MOST_UNFOLDED" = some (.int 3000 t)
  lp : ∃ t, mg "LONGEST_PATH" = some (.int 60 t)
  gn : ∃ t, mg "GREATEST_NUMBER" = some (.int 255 t)
  mr : ∃ t, mg "MOST_ROUNDS" = some (.int 1000 t)
  gR : mg "RESERVED" = some (.ref dR)
  gS : mg "SIZES" = some (.ref dS)
  kR : ∃ es n, KDict K w dR es n
  kS : ∃ es n, KDict K w dS es n
  inR : ∀ z, ∃ r, PySem.W.nsIn K dR z = some r ∧ r.isSome = reserved.contains z
  inS : ∀ z, PySem.W.nsIn K dS z = some ((kindOf z).map fun k => .ref (adr k))
def isIb : T → Bool
  | .int _ => true
  | .bl _ => true
  | _ => false
def isBl : T → Bool
  | .bl _ => true
  | _ => false
def isSt : T → Bool
  | .str _ => true
  | _ => false
def isTu : T → Bool
  | .tup _ => true
  | _ => false
theorem Im.ty {K : PySem.W.Frag} {H : Hp} {v : V} {t : T} (h : Im K H v t) : ∃ n, TyX K H v (.type n) ∧ kitB n "int" = some (isIb t) ∧ kitB n "bool" = some (isBl t) ∧ kitB n "str" = some (isSt t) ∧ kitB n "tuple" = some (isTu t) := by
  cases h with
  | non => exact ⟨_, .base .non, (by show kitB "NoneType" "int" = some false; decide +kernel), (by show kitB "NoneType" "bool" = some false; decide +kernel), (by show kitB "NoneType" "str" = some false; decide +kernel), (by show kitB "NoneType" "tuple" = some false; decide +kernel)⟩
  | bl b => exact ⟨_, .base (.bl b), (by show kitB "bool" "int" = some true; decide +kernel), (by show kitB "bool" "bool" = some true; decide +kernel), (by show kitB "bool" "str" = some false; decide +kernel), (by show kitB "bool" "tuple" = some false; decide +kernel)⟩
  | int i => exact ⟨_, .base (.int i), (by show kitB "int" "int" = some true; decide +kernel), (by show kitB "int" "bool" = some false; decide +kernel), (by show kitB "int" "str" = some false; decide +kernel), (by show kitB "int" "tuple" = some false; decide +kernel)⟩
  | @str z _ => exact ⟨_, .base (.str z), (by show kitB "str" "int" = some false; decide +kernel), (by show kitB "str" "bool" = some false; decide +kernel), (by show kitB "str" "str" = some true; decide +kernel), (by show kitB "str" "tuple" = some false; decide +kernel)⟩
  | tup e _ => exact ⟨_, .base (.tup e), (by show kitB "tuple" "int" = some false; decide +kernel), (by show kitB "tuple" "bool" = some false; decide +kernel), (by show kitB "tuple" "str" = some false; decide +kernel), (by show kitB "tuple" "tuple" = some true; decide +kernel)⟩
  | odd a b c d e _ => exact ⟨_, a, b, c, d, e⟩
theorem if_yes {c : Bool} {A B : Prop} (hc : c = true) (h : A) : if c = true then A else B := by
  rw [if_pos hc]
  exact h
theorem if_no {c : Bool} {A B : Prop} (hc : c = false) (h : B) : if c = true then A else B := by
  rw [hc, if_neg Bool.false_ne_true]
  exact h
section
variable {K : PySem.W.Frag} {H : Hp} {v : V} {t : T} {Q : VK}
/-- isinstance's reading, by the four classes that are asked for -/
theorem is_int (h : Im K H v t) (q : Q (.bl (isIb t)) H) : rIsi K [v, .ty "int"] H Q := by
  obtain ⟨n, a, b, _⟩ := h.ty
  exact ⟨_, _, _, _, _, rfl, .ty _, a, kit_ty b, q⟩
theorem is_bool (h : Im K H v t) (q : Q (.bl (isBl t)) H) : rIsi K [v, .ty "bool"] H Q := by
  obtain ⟨n, a, _, b, _⟩ := h.ty
  exact ⟨_, _, _, _, _, rfl, .ty _, a, kit_ty b, q⟩
theorem is_str (h : Im K H v t) (q : Q (.bl (isSt t)) H) : rIsi K [v, .ty "str"] H Q := by
  obtain ⟨n, a, _, _, b, _⟩ := h.ty
  exact ⟨_, _, _, _, _, rfl, .ty _, a, kit_ty b, q⟩
theorem is_tup (h : Im K H v t) (q : Q (.bl (isTu t)) H) : rIsi K [v, .ty "tuple"] H Q := by
  obtain ⟨n, a, _, _, _, b⟩ := h.ty
  exact ⟨_, _, _, _, _, rfl, .ty _, a, kit_ty b, q⟩
end
section
variable {X : Cx} {e : Expr} {te : TE} {p q pos : Pos}
abbrev tIs (K : PySem.W.Frag) (c : String) (te : TE) : TE := tCB (rIsi K) (tCons te (tCons (tC (.ty c)) tNil))
theorem pe_is {c : Str} {n : String} (mi : X.mg "isinstance" = none) (mc : X.mg c = none) (bc : bootBuiltins c = some (.type n)) (hg : Gl X "isinstance") (hc : Gl X c) (he : PE X e te)
    (hn : c ≠ "__name__" := by decide) (hd : (c == ("__debug__" : Str)) = false := by decide)
    (h1 : starEach [e, .Name c p] X.env = (false, eval e X.env) :: starEach [.Name c p] X.env := by rfl) (h2 : starEach [.Name c p] X.env = (false, eval (.Name c p) X.env) :: starEach [] X.env := by rfl) (h3 : (backTo pos (starEach [.Name c p] X.env)).any (·.1) = false := by rfl) :
    PE X (.Call (.Name "isinstance" q) [e, .Name c p] [] pos) (tIs X.K n te) :=
  pe_callB call_isi hg mi (by decide +kernel) (pa_cons he (pa_cons (pe_bltn hc mc bc rfl hn hd) pa_nil h2) h1) (by decide) (by decide) h1 h3
end
section
variable {P : Program} {w : World} {K : PySem.W.Frag} {mg : Str → Option Value} {base : Heap} {dR dS : Addr} {adr : Kind → Addr}
theorem scI : FnScope ["value"] ["value"] (defScope sIsInt) := ⟨rfl, rfl, rfl, by decide +kernel, rfl, by decide +kernel, by decide +kernel⟩
theorem scW : FnScope ["value", "least", "most"] ["value", "least", "most"] (defScope sIsWithin) := ⟨rfl, rfl, rfl, by decide +kernel, rfl, by decide +kernel, by decide +kernel⟩
theorem scN : FnScope ["value"] ["value"] (defScope sIsName) := ⟨rfl, rfl, rfl, by decide +kernel, rfl, by decide +kernel, by decide +kernel⟩
def isInt : T → Bool
  | .int _ => true
  | _ => false
def spIsInt (K : PySem.W.Frag) : Sp := fun vs H Q _ => ∃ v t, vs = [v] ∧ Im K H v t ∧ Q (.bl (isInt t)) H
theorem ok_isInt {f : Addr} {fd : FuncData} (F : Fun K "is_integer" "is_integer" sIsInt f fd) (M : Md K mg w dR dS adr) : FnOk P w K mg base CX0 1 f fd ["value"] (spIsInt K) := by
  refine F.ok scI (fun vs H Q E h => ?_) (fun cdv A outer s H vs Q E hr h => ?_)
  · obtain ⟨_, _, rfl, _⟩ := h
    rfl
  obtain ⟨v, t, rfl, im, q⟩ := h
  refine ⟨_, pss_one (ps_ret (pe_and (pe_is (n := "int") M.mi M.mint (by decide +kernel) rfl rfl (pv 0)) (pe_one (pe_not (pe_is (n := "bool") M.mi M.mbool (by decide +kernel) rfl rfl (pv 0)))))), ?_⟩
  dsimp only [L2.tRet, L2.tRetN, tAndV, tOrV, tNotV, tCB, L2.tCons, L2.tNil, tC, tVar, L2.tOp, L2.tUn, tSeq, tAsg, gName, tIfS, tTest, tNext, tAnd, tOr, tNot, L2.tIf, tFld, sFld, sFldAug, tCall, tTup, tB, tAug, tDrop, L2.tSl, tPart, tNoPart, tBM, tBM0, tChain, gTup, gCons, gNil, tPar, tIs, List.set]
  refine ⟨_, rfl, is_int im ⟨_, rfl, ?_⟩⟩
  cases t with
  | int i => exact if_yes rfl ⟨_, rfl, is_bool im ⟨_, rfl, q⟩⟩
  | bl b => exact if_yes rfl ⟨_, rfl, is_bool im ⟨_, rfl, q⟩⟩
  | non => exact if_no rfl q
  | str _ => exact if_no rfl q
  | tup _ => exact if_no rfl q
  | odd _ => exact if_no rfl q
def spIsWithin (K : PySem.W.Frag) : Sp := fun vs H Q _ => ∃ v t lo hi, vs = [v, .int lo, .int hi] ∧ Im K H v t ∧ Q (.bl (within lo hi t)) H
theorem ok_isWithin {f : Addr} {fd : FuncData} (F : Fun K "is_integer_within" "is_integer_within" sIsWithin f fd) (M : Md K mg w dR dS adr) : FnOk P w K mg base CX0 1 f fd ["value", "least", "most"] (spIsWithin K) := by
  refine F.ok scW (fun vs H Q E h => ?_) (fun cdv A outer s H vs Q E hr h => ?_)
  · obtain ⟨_, _, _, _, rfl, _⟩ := h
    rfl
  obtain ⟨v, t, lo, hi, rfl, im, q⟩ := h
  refine ⟨_, pss_one (ps_ret (pe_and (pe_is (n := "int") M.mi M.mint (by decide +kernel) rfl rfl (pv 0)) (pe_and (pe_not (pe_is (n := "bool") M.mi M.mbool (by decide +kernel) rfl rfl (pv 0))) (pe_one (pe_chain op_le op_le (pv 1) (pv 0) (pv 2)))))), ?_⟩
  dsimp only [L2.tRet, L2.tRetN, tAndV, tOrV, tNotV, tCB, L2.tCons, L2.tNil, tC, tVar, L2.tOp, L2.tUn, tSeq, tAsg, gName, tIfS, tTest, tNext, tAnd, tOr, tNot, L2.tIf, tFld, sFld, sFldAug, tCall, tTup, tB, tAug, tDrop, L2.tSl, tPart, tNoPart, tBM, tBM0, tChain, gTup, gCons, gNil, tPar, tIs, List.set]
  refine ⟨_, rfl, is_int im ⟨_, rfl, ?_⟩⟩
  cases t with
  | int i =>
    cases im with
    | int _ =>
      refine if_yes rfl ⟨_, rfl, is_bool (.int i) ⟨_, rfl, ⟨_, rfl, if_yes rfl ?_⟩⟩⟩
      refine ⟨_, rfl, _, rfl, _, _, rfl, rfl, _, rfl, ?_⟩
      by_cases c : lo ≤ i
      · refine if_yes (decide_eq_true c) ⟨_, rfl, _, _, rfl, rfl, ?_⟩
        have e : within lo hi (.int i) = decide (i ≤ hi) := by simp [within, c]
        rw [e] at q
        exact q
      · refine if_no (decide_eq_false c) ?_
        have e : within lo hi (.int i) = false := by simp [within, c]
        rw [e] at q
        exact q
  | bl b => exact if_yes rfl ⟨_, rfl, is_bool im ⟨_, rfl, ⟨_, rfl, if_no rfl q⟩⟩⟩
  | non => exact if_no rfl q
  | str _ => exact if_no rfl q
  | tup _ => exact if_no rfl q
  | odd _ => exact if_no rfl q
/-! ### names -/
theorem reading {R : R2} {x y : V} {H : Hp} {Q Q' : VK} (h : R x y H Q) (e : Q = Q') : R x y H Q' := e ▸ h
def spIsName (K : PySem.W.Frag) : Sp := fun vs H Q _ => ∃ v t, vs = [v] ∧ Im K H v t ∧ Q (.bl (isName t)) H
theorem b3 {a b : Bool} {P : Bool → Prop} (h1 : a = true → P b) (h0 : a = false → P false) : P (a && b) := by cases a with | true => exact h1 rfl | false => exact h0 rfl
theorem ok_isName {f : Addr} {fd : FuncData} (F : Fun K "is_name" "is_name" sIsName f fd) (M : Md K mg w dR dS adr) : FnOk P w K mg base CX0 1 f fd ["value"] (spIsName K) := by
  obtain ⟨lt, hln⟩ := M.ln
  obtain ⟨es, n, hD⟩ := M.kR
  refine F.ok scN (fun vs H Q E h => ?_) (fun cdv A outer s H vs Q E hr h => ?_)
  · obtain ⟨_, _, rfl, _⟩ := h
    rfl
  obtain ⟨v, t, rfl, im, q⟩ := h
  refine ⟨_, pss_cons (ps_if (PW.pt (pw_or (pt_not (pt_val (pe_is (n := "str") M.mi M.mstr (by decide +kernel) rfl rfl (pv 0)))) (pw_or1 (pt_cmpR op_gt (pe_callB call_len_str rfl M.ml PySem.boot_len (pa_cons (pv 0) pa_nil)) (pe_glob (v := .int 12) rfl hln ⟨_, rfl⟩) (nomark _))))) (pss_one (ps_ret pe_bl)) pss_nil)
    (pss_one (ps_ret (pe_and (pe_bm0 PySem.F.plainAttrs_str PySem.F.slot_str_isascii PySem.F.type_str_isascii mt_isascii (pv 0)) (pe_and (pe_bm0 PySem.F.plainAttrs_str PySem.F.slot_str_isalpha PySem.F.type_str_isalpha mt_isalpha (pv 0))
      (pe_and (pe_bm0 PySem.F.plainAttrs_str PySem.F.slot_str_islower PySem.F.type_str_islower mt_islower (pv 0)) (pe_one (pe_cmpR (op_notIn_kd hD) (pv 0) (pe_glob (v := .ref dR) rfl M.gR rfl) (by rfl)))))))), ?_⟩
  dsimp only [L2.tRet, L2.tRetN, tAndV, tOrV, tNotV, tCB, L2.tCons, L2.tNil, tC, tVar, L2.tOp, L2.tUn, tSeq, tAsg, gName, tIfS, tTest, tNext, tAnd, tOr, tNot, L2.tIf, tFld, sFld, sFldAug, tCall, tTup, tB, tAug, tDrop, L2.tSl, tPart, tNoPart, tBM, tBM0, tChain, gTup, gCons, gNil, tPar, tIs, List.set]
  refine ⟨_, rfl, is_str im ⟨_, rfl, ?_⟩⟩
  have no : isSt t = false → Q (.bl false) H := fun e => by
    have z : isName t = false := by cases t <;> simp_all [isSt, isName]
    rw [z] at q
    exact q
  cases e : isSt t with
  | false => exact if_yes rfl (no e)
  | true =>
    cases t with
    | str z =>
      cases im with
      | str hz =>
      refine if_no rfl ?_
      refine ⟨_, rfl, _, rfl, hz, _, _, rfl, rfl, _, rfl, ?_⟩
      have qq : Q (.bl (nameOk z)) H := q
      unfold nameOk at qq
      by_cases c : (z.length : Int) ≤ 12
      · rw [decide_eq_true c, Bool.true_and] at qq
        refine if_no (decide_eq_false (by omega)) ?_
        refine ⟨_, rfl, rfl, _, rfl, rfl, True.intro, _, rfl, ?_⟩
        cases a1 : Txt.isascii z with
        | false => rw [a1] at qq; exact if_no rfl qq
        | true =>
          rw [a1, Bool.true_and] at qq
          refine if_yes rfl ⟨_, rfl, rfl, _, rfl, rfl, True.intro, _, rfl, ?_⟩
          cases a2 : Txt.isalpha z with
          | false => rw [a2] at qq; exact if_no rfl qq
          | true =>
            rw [a2, Bool.true_and] at qq
            refine if_yes rfl ⟨_, rfl, rfl, _, rfl, rfl, True.intro, _, rfl, ?_⟩
            cases a3 : Txt.islower z with
            | false => rw [a3] at qq; exact if_no rfl qq
            | true =>
              rw [a3, Bool.true_and] at qq
              obtain ⟨r, h1, h2⟩ := M.inR z
              rw [← h2] at qq
              exact if_yes rfl ⟨_, rfl, _, _, rfl, rfl, h1, qq⟩
      · rw [decide_eq_false c, Bool.false_and] at qq
        exact if_yes (decide_eq_true (by omega)) qq
    | non => simp [isSt] at e
    | bl _ => simp [isSt] at e
    | int _ => simp [isSt] at e
    | tup _ => simp [isSt] at e
    | odd _ => simp [isSt] at e
end
end Ck

/-! Names that are new, parts that are there. -/
namespace L2
open PySem PySem.Spec PyProof.Rows
/-- a def of the module, by its name -/
structure Go (P : Program) (w : World) (K : PySem.W.Frag) (mg : Str → Option Value) (base : Heap) (CX : CXT) (n : Nat) (x : Str) (ps : List Str) (sp : Sp) : Prop where
  ex : ∃ f fd, FnOk P w K mg base CX n f fd ps sp ∧ mg x = some (.ref f) ∧ PySem.W.keepIn K (.ref f) = true ∧ Binds K fd ps []
section
variable {X : Cx} {CX : CXT} {n : Nat} {x : Str} {ps : List Str} {sp : Sp} {p pos : Pos} {e : Expr} {es : List Expr} {t : TA} {E : XK}
theorem pe_go (G : Go X.prog X.w X.K X.mg X.base CX n x ps sp) (hr : Room n X.A) (hx : Passes CX X E) (hg : Gl X x) (ha : PA X (e :: es) t) (hdb : (x == ("__debug__" : Str)) = false := by decide)
    (he : starEach (e :: es) X.env = (false, eval e X.env) :: starEach es X.env := by rfl) (hpl : (backTo pos (starEach es X.env)).any (·.1) = false := by rfl) : PE X (.Call (.Name x p) (e :: es) [] pos) (tCall sp [] E t) := by
  obtain ⟨f, fd, F, g, k, b⟩ := G.ex
  exact pe_call F hr hg g k b .nil hx ha hdb he hpl
theorem pe_go0 (G : Go X.prog X.w X.K X.mg X.base CX n x ps sp) (hr : Room n X.A) (hx : Passes CX X E) (hg : Gl X x) (hdb : (x == ("__debug__" : Str)) = false := by decide) : PE X (.Call (.Name x p) [] [] pos) (tCall sp [] E L2.tNil) := by
  obtain ⟨f, fd, F, g, k, b⟩ := G.ex
  exact pe_call0 F hr hg g k b .nil hx hdb
theorem Go.mono {P : Program} {w : World} {K : PySem.W.Frag} {mg : Str → Option Value} {base : Heap} {j k : Nat} (G : Go P w K mg base CX j x ps sp) (h : j ≤ k) : Go P w K mg base CX k x ps sp := by
  obtain ⟨f, fd, F, r⟩ := G.ex
  exact ⟨f, fd, F.mono h, r⟩
end
theorem upd_self {H : Hp} {a : Addr} {o : HO} (h : H a = some o) : upd H a o = H := by
  funext b
  by_cases e : b = a
  · rw [e, upd_same, h]
  · rw [upd_ne e]
end L2
namespace Ck
open PySem PySem.Spec PyProof.Rows L2
/-- a table of names -/
def tab (ns : List Str) : List (Key × V) := ns.map fun z => (.inr z, .bl true)
theorem valV_tab (z : Str) : ∀ ns : List Str, (valV (tab ns) (.inr z)).isSome = ns.contains z
  | [] => rfl
  | n :: ns => by
    show (valV ((Sum.inr n, V.bl true) :: tab ns) (.inr z)).isSome = _
    by_cases e : n = z
    · rw [valV_pos (by rw [e])]
      simp [e]
    · rw [valV_neg (fun q => e (Sum.inr.inj q)), valV_tab z ns]
      simp [Ne.symm e]
theorem putK_tab {z : Str} {ns : List Str} (h : ns.contains z = false) : putK (tab ns) (.inr z) (.bl true) = tab (ns ++ [z]) := by
  unfold putK
  have e : ((tab ns).any fun kv => decide (kv.1 = (Sum.inr z : Key))) = false := by
    rw [valV_any, valV_tab, h]
  rw [e, if_neg Bool.false_ne_true]
  simp [tab]
section
variable {P : Program} {w : World} {K : PySem.W.Frag} {mg : Str → Option Value} {base : Heap} {dR dS : Addr} {adr : Kind → Addr}
theorem scNew : FnScope ["names", "value"] ["names", "value"] (defScope sIsNew) := ⟨rfl, rfl, rfl, by decide +kernel, rfl, by decide +kernel, by decide +kernel⟩
theorem scHp : FnScope ["tree"] ["tree"] (defScope sHasParts) := ⟨rfl, rfl, rfl, by decide +kernel, rfl, by decide +kernel, by decide +kernel⟩
def spNew (K : PySem.W.Frag) : Sp := fun vs H Q _ => ∃ d v t ns, vs = [.ref d, v] ∧ H d = some (.dK (tab ns)) ∧ ns.length ≤ 5000 ∧ Im K H v t ∧ Q (.bl (newName ns t).1) (upd H d (.dK (tab (newName ns t).2)))
theorem newName_str (ns : List Str) (z : Str) : newName ns (.str z) = if ns.contains z = true then (true, ns) else if nameOk z = true then (true, ns ++ [z]) else (false, ns) := rfl
abbrev GN (P : Program) (w : World) (K : PySem.W.Frag) (mg : Str → Option Value) (base : Heap) : Prop := Go P w K mg base CX0 1 "is_name" ["value"] (spIsName K)
theorem ok_isNew {f : Addr} {fd : FuncData} (F : Fun K "is_new_name" "is_new_name" sIsNew f fd) (M : Md K mg w dR dS adr) (G : GN P w K mg base) : FnOk P w K mg base CX0 2 f fd ["names", "value"] (spNew K) := by
  refine F.ok scNew (fun vs H Q E h => ?_) (fun cdv A outer s H vs Q E hr h => ?_)
  · obtain ⟨_, _, _, _, rfl, _⟩ := h
    rfl
  obtain ⟨d, v, t, ns, rfl, hd, few, im, q⟩ := h
  have hu := hu_of hr
  refine ⟨_, pss_cons (ps_if (PW.pt (pw_and (pt_val (pe_is (n := "str") M.mi M.mstr (by decide +kernel) rfl rfl (pv 1))) (pw_and1 (pt_cmp (pc_din hu (pv 1) (pv 0)) (by rfl))))) (pss_one (ps_ret pe_bl)) pss_nil)
    (pss_cons (ps_if (pt_not (pt_val (pe_go G hr pass0 rfl (pa_cons (pv 1) pa_nil)))) (pss_one (ps_ret pe_bl)) pss_nil)
    (pss_cons (ps_dput hu (pv 0) (pv 1) pe_bl rfl) (pss_one (ps_ret pe_bl)))), ?_⟩
  dsimp only [L2.tRet, L2.tRetN, tAndV, tOrV, tNotV, tCB, L2.tCons, L2.tNil, tC, tVar, L2.tOp, L2.tUn, tSeq, tAsg, gName, tIfS, tTest, tNext, tAnd, tOr, tNot, L2.tIf, tFld, sFld, sFldAug, tCall, tTup, tB, tAug, tDrop, L2.tSl, tPart, tNoPart, tBM, tBM0, tChain, gTup, gCons, gNil, tPar, tIs, List.set, tDIn, sDPut]
  refine ⟨_, rfl, is_str im ⟨_, rfl, ?_⟩⟩
  have self : upd H d (.dK (tab ns)) = H := upd_self hd
  have out : isName t = false → Q (.bl (newName ns t).1) (upd H d (.dK (tab (newName ns t).2))) → isSt t = false → Q (.bl false) H := fun _ z e => by
    have y : newName ns t = (false, ns) := by cases t <;> simp_all [isSt, newName]
    rw [y] at z
    dsimp only at z
    rw [self] at z
    exact z
  cases e : isSt t with
  | false =>
    have n : isName t = false := by cases t <;> simp_all [isSt, isName]
    refine if_no rfl (if_no rfl ?_)
    refine ⟨_, rfl, v, t, rfl, im, _, rfl, ?_⟩
    rw [n]
    exact if_yes rfl (out n q e)
  | true =>
    cases t with
    | str z =>
      cases im with
      | str hz =>
      refine if_yes rfl ⟨_, rfl, _, rfl, d, _, rfl, DGet.k (k := Sum.inr z) hd, _, rfl, ?_⟩
      rw [valV_tab]
      have qq : Q (.bl (newName ns (.str z)).1) (upd H d (.dK (tab (newName ns (.str z)).2))) := q
      rw [newName_str] at qq
      cases c : ns.contains z with
      | true =>
        rw [c, if_pos rfl] at qq
        dsimp only at qq
        rw [self] at qq
        exact if_yes rfl qq
      | false =>
        rw [c, if_neg Bool.false_ne_true] at qq
        refine if_no rfl ⟨_, rfl, _, .str z, rfl, .str hz, _, rfl, ?_⟩
        show if (!nameOk z) = true then _ else _
        cases m : nameOk z with
        | false =>
          rw [m, if_neg Bool.false_ne_true] at qq
          dsimp only at qq
          rw [self] at qq
          exact if_yes rfl qq
        | true =>
          rw [m, if_pos rfl] at qq
          refine if_no rfl ⟨_, rfl, _, rfl, d, _, rfl, DPut.k (k := Sum.inr z) hd (by unfold tab; rw [List.length_map, sizeLine_eq]; omega), ?_⟩
          rw [putK_tab c]
          exact qq
    | non => simp [isSt] at e
    | bl _ => simp [isSt] at e
    | int _ => simp [isSt] at e
    | tup _ => simp [isSt] at e
    | odd _ => simp [isSt] at e
def hasParts : List T → Bool
  | [_, .tup ps] => decide (2 ≤ ps.length)
  | _ => false
theorem Ims.len {H : Hp} : ∀ {xs : List V} {ts : List T}, Ims K H xs ts → xs.length = ts.length
  | _, _, .nil => rfl
  | _, _, .cons _ r => by rw [List.length_cons, List.length_cons, Ims.len r]
def spHp (K : PySem.W.Frag) : Sp := fun vs H Q _ => ∃ a xs ts, vs = [.ref a] ∧ H a = some (.tup xs) ∧ Ims K H xs ts ∧ Q (.bl (hasParts ts)) H
theorem sqt {H : Hp} {a : Addr} {xs : List V} (h : H a = some (.tup xs)) : SqT K H a xs := Or.inl (Or.inl h)
theorem ok_hp {f : Addr} {fd : FuncData} (F : Fun K "has_parts" "has_parts" sHasParts f fd) (M : Md K mg w dR dS adr) : FnOk P w K mg base CX0 1 f fd ["tree"] (spHp K) := by
  refine F.ok scHp (fun vs H Q E h => ?_) (fun cdv A outer s H vs Q E hr h => ?_)
  · obtain ⟨_, _, _, rfl, _⟩ := h
    rfl
  obtain ⟨a, xs, ts, rfl, ha, im, q⟩ := h
  refine ⟨_, pss_one (ps_ret (pe_and (pe_cmpR op_eq (pe_callB call_len_seq rfl M.ml PySem.boot_len (pa_cons (pv 0) pa_nil)) pe_int (nomark _)) (pe_and (pe_is (n := "tuple") M.mi M.mtup (by decide +kernel) rfl rfl (pe_ix ix_tup (pv 0) pe_int fun _ _ => rfl))
    (pe_one (pe_cmpR op_ge (pe_callB call_len_seq rfl M.ml PySem.boot_len (pa_cons (pe_ix ix_tup (pv 0) pe_int fun _ _ => rfl) pa_nil)) pe_int (nomark _)))))), ?_⟩
  dsimp only [L2.tRet, L2.tRetN, tAndV, tOrV, tNotV, tCB, L2.tCons, L2.tNil, tC, tVar, L2.tOp, L2.tUn, tSeq, tAsg, gName, tIfS, tTest, tNext, tAnd, tOr, tNot, L2.tIf, tFld, sFld, sFldAug, tCall, tTup, tB, tAug, tDrop, L2.tSl, tPart, tNoPart, tBM, tBM0, tChain, gTup, gCons, gNil, tPar, tIs, List.set]
  have ln := im.len
  refine ⟨_, rfl, a, xs, rfl, .inr (sqt ha), rfl, _, rfl, ?_⟩
  have no : xs.length ≠ 2 → Q (.bl false) H := fun c => by
    have z : hasParts ts = false := by
      rcases ts with _ | ⟨a, _ | ⟨b, _ | ⟨c, r⟩⟩⟩ <;> first | rfl | (exfalso; apply c; rw [ln]; rfl) | (cases b <;> rfl)
    rw [z] at q
    exact q
  by_cases c : xs.length = 2
  · refine if_yes (decide_eq_true (by rw [c]; rfl)) ?_
    obtain ⟨x0, x1, rfl⟩ : ∃ x0 x1, xs = [x0, x1] := by
      rcases xs with _ | ⟨x0, _ | ⟨x1, _ | ⟨x2, r⟩⟩⟩ <;> simp at c
      exact ⟨_, _, rfl⟩
    rcases im with _ | ⟨i0, _ | ⟨i1, _ | _⟩⟩
    rename_i t0 t1
    refine ⟨_, rfl, a, _, _, _, rfl, rfl, sqt ha, rfl, is_tup i1 ⟨_, rfl, ?_⟩⟩
    cases e : isTu t1 with
    | false =>
      have z : hasParts [t0, t1] = false := by cases t1 <;> simp_all [isTu, hasParts]
      rw [z] at q
      exact if_no rfl q
    | true =>
      cases t1 with
      | tup ps =>
        cases i1 with
        | @tup b ys _ hb ip =>
        have l2 := ip.len
        refine if_yes rfl ⟨_, rfl, a, _, _, _, rfl, rfl, sqt ha, rfl, b, ys, rfl, .inr (sqt hb), _, _, rfl, rfl, ?_⟩
        have z : hasParts [t0, .tup ps] = decide ((ys.length : Int) ≥ 2) := by
          show decide (2 ≤ ps.length) = _
          rw [l2]
          exact decide_eq_decide.mpr (by omega)
        rw [z] at q
        exact q
      | non => simp [isTu] at e
      | bl _ => simp [isTu] at e
      | int _ => simp [isTu] at e
      | str _ => simp [isTu] at e
      | odd _ => simp [isTu] at e
  · exact if_no (decide_eq_false (by intro z; apply c; have y := V.int.inj z; omega)) (no c)
end
end Ck

/-! The check's own object, and what each def does with it. -/
namespace Ck
open PySem PySem.Spec PyProof.Rows L2
/-- where the check, its dict, its tables and its list stand -/
structure Foot where
  c : Addr
  dx : Addr
  dc : Addr
  dv : Addr
  df : Addr
  dp : Addr
def flds (F : Foot) (S : CS) : List (Str × V) := [("trees", .int S.trees), ("commands", .ref F.dc), ("variables", .ref F.dv), ("unfolded", .int S.unf), ("functions", .ref F.df), ("places", .ref F.dp), ("loops", .int S.loops), ("returns", .bl S.rets)]
def ftab (fs : List (Str × Int)) : List (Key × V) := fs.map fun p => (.inr p.1, .int p.2)
structure At (C : Addr) (H : Hp) (F : Foot) (S : CS) : Prop where
  c : H F.c = some (.ins C F.dx (flds F S))
  dc : H F.dc = some (.dK (tab S.cmds))
  dv : H F.dv = some (.dK (tab S.vars))
  df : H F.df = some (.dK (ftab S.fns))
  dp : H F.dp = some (.lst (S.places.map V.int))
  cv : F.dc ≠ F.dv
  cf : F.dc ≠ F.df
  vf : F.dv ≠ F.df
structure Ok (S : CS) : Prop where
  lo : 0 ≤ S.trees
  hi : S.trees ≤ 3000
  cm : (S.cmds.length : Int) ≤ S.trees
  va : (S.vars.length : Int) ≤ S.trees
/-- with one tree more than names -/
structure Ok1 (S : CS) : Prop where
  lo : 0 ≤ S.trees
  hi : S.trees ≤ 3000
  cm : (S.cmds.length : Int) + 1 ≤ S.trees
  va : (S.vars.length : Int) + 1 ≤ S.trees
theorem Ok1.ok {S : CS} (h : Ok1 S) : Ok S := ⟨h.lo, h.hi, by have := h.cm; omega, by have := h.va; omega⟩
theorem newName_len (ns : List Str) (t : T) : (newName ns t).2.length ≤ ns.length + 1 := by
  cases t with
  | str z =>
    rw [newName_str]
    split
    · exact Nat.le_succ _
    · split
      · simp
      · exact Nat.le_succ _
  | _ => exact Nat.le_succ _
structure Free (F : Foot) (G : Hp) : Prop where
  c : G F.c = none
  dc : G F.dc = none
  dv : G F.dv = none
  df : G F.df = none
  dp : G F.dp = none
/-- what comes of a def that gives a size, over the data G -/
def Res (C IP : Addr) (F : Foot) (G : Hp) (pl : List Int) (r : R) (Q : VK) (E : XK) : Prop := match r with
  | .ok (i, S) => ∀ H', Same G H' → At C H' F S → Ok S → S.places = pl → Q (.int i) H'
  | .error path => ∀ H' d p, Same G H' → H' d = some (.xd [("path", .ref p)]) → H' p = some (.tup (path.map V.int)) → E (.ref IP) (some d) H'
section
variable {C IP : Addr} {F : Foot} {G H : Hp} {S : CS} {K : PySem.W.Frag}
theorem Same.up {p : Addr} {o : HO} (h : Same G H) (n : G p = none) : Same G (upd H p o) := fun b u z => by
  rw [upd_ne (ne_of_none z n)]
  exact h b u z
theorem Same.new {p : Addr} {o : HO} (h : Same G H) (n : H p = none) : Same G (upd H p o) := fun b u z => by
  rw [upd_ne (ne_of_none (h b u z) n)]
  exact h b u z
theorem Same.non {p : Addr} (h : Same G H) (n : H p = none) : G p = none := by
  cases e : G p with
  | none => rfl
  | some u =>
    rw [h p u e] at n
    cases n
/-- the data, and one thing more -/
theorem Same.both {p : Addr} {o : HO} (h : Same G H) : Same (upd G p o) (upd H p o) := fun b u z => by
  by_cases e : b = p
  · subst e
    rw [upd_same] at z ⊢
    exact z
  · rw [upd_ne e] at z ⊢
    exact h b u z
theorem Same.left {p : Addr} {o : HO} {H' : Hp} (h : Same (upd G p o) H') (n : G p = none) : Same G H' := fun b u z => h b u (by rw [upd_ne (ne_of_none z n)]; exact z)
theorem At.ne {p : Addr} (a : At C H F S) (n : H p = none) : F.c ≠ p ∧ F.dc ≠ p ∧ F.dv ≠ p ∧ F.df ≠ p ∧ F.dp ≠ p := ⟨ne_of_none a.c n, ne_of_none a.dc n, ne_of_none a.dv n, ne_of_none a.df n, ne_of_none a.dp n⟩
theorem At.new {p : Addr} {o : HO} (a : At C H F S) (n : H p = none) : At C (upd H p o) F S := by
  obtain ⟨n1, n2, n3, n4, n5⟩ := a.ne n
  exact ⟨by rw [upd_ne n1]; exact a.c, by rw [upd_ne n2]; exact a.dc, by rw [upd_ne n3]; exact a.dv, by rw [upd_ne n4]; exact a.df, by rw [upd_ne n5]; exact a.dp, a.cv, a.cf, a.vf⟩
theorem Free.new {p : Addr} {o : HO} (f : Free F G) (a : At C H F S) (n : H p = none) : Free F (upd G p o) := by
  obtain ⟨n1, n2, n3, n4, n5⟩ := a.ne n
  exact ⟨by rw [upd_ne n1]; exact f.c, by rw [upd_ne n2]; exact f.dc, by rw [upd_ne n3]; exact f.dv, by rw [upd_ne n4]; exact f.df, by rw [upd_ne n5]; exact f.dp⟩
theorem At.cne (a : At C H F S) : F.dc ≠ F.c ∧ F.dv ≠ F.c ∧ F.df ≠ F.c ∧ F.dp ≠ F.c :=
  ⟨ne_of a.dc a.c (by intro z; cases z), ne_of a.dv a.c (by intro z; cases z), ne_of a.df a.c (by intro z; cases z), ne_of a.dp a.c (by intro z; cases z)⟩
/-- a field of the check is set -/
theorem At.set (a : At C H F S) {S' : CS} {f : Str} {v : V} (e : putF f v (flds F S) = flds F S') (e1 : S'.cmds = S.cmds) (e2 : S'.vars = S.vars) (e3 : S'.fns = S.fns) (e4 : S'.places = S.places) : At C (upd H F.c (.ins C F.dx (putF f v (flds F S)))) F S' := by
  obtain ⟨n1, n2, n3, n4⟩ := a.cne
  exact ⟨by rw [upd_same, e], by rw [upd_ne n1, e1]; exact a.dc, by rw [upd_ne n2, e2]; exact a.dv, by rw [upd_ne n3, e3]; exact a.df, by rw [upd_ne n4, e4]; exact a.dp, a.cv, a.cf, a.vf⟩
theorem put_trees {i : Int} : putF "trees" (.int i) (flds F S) = flds F { S with trees := i } := by with_unfolding_all rfl
theorem put_loops {i : Int} : putF "loops" (.int i) (flds F S) = flds F { S with loops := i } := by with_unfolding_all rfl
theorem put_rets {b : Bool} : putF "returns" (.bl b) (flds F S) = flds F { S with rets := b } := by with_unfolding_all rfl
theorem put_unf {i : Int} : putF "unfolded" (.int i) (flds F S) = flds F { S with unf := i } := by with_unfolding_all rfl
theorem At.cmds (a : At C H F S) (ns : List Str) : At C (upd H F.dc (.dK (tab ns))) F { S with cmds := ns } := by
  obtain ⟨n1, n2, n3, n4⟩ := a.cne
  exact ⟨by rw [upd_ne (Ne.symm n1)]; exact a.c, upd_same, by rw [upd_ne (Ne.symm a.cv)]; exact a.dv, by rw [upd_ne (Ne.symm a.cf)]; exact a.df, by rw [upd_ne (ne_of a.dp a.dc (by intro z; cases z))]; exact a.dp, a.cv, a.cf, a.vf⟩
theorem At.vars (a : At C H F S) (ns : List Str) : At C (upd H F.dv (.dK (tab ns))) F { S with vars := ns } := by
  obtain ⟨n1, n2, n3, n4⟩ := a.cne
  exact ⟨by rw [upd_ne (Ne.symm n2)]; exact a.c, by rw [upd_ne a.cv]; exact a.dc, upd_same, by rw [upd_ne (Ne.symm a.vf)]; exact a.df, by rw [upd_ne (ne_of a.dp a.dv (by intro z; cases z))]; exact a.dp, a.cv, a.cf, a.vf⟩
theorem At.fns (a : At C H F S) (fs : List (Str × Int)) : At C (upd H F.df (.dK (ftab fs))) F { S with fns := fs } := by
  obtain ⟨n1, n2, n3, n4⟩ := a.cne
  exact ⟨by rw [upd_ne (Ne.symm n3)]; exact a.c, by rw [upd_ne a.cf]; exact a.dc, by rw [upd_ne a.vf]; exact a.dv, upd_same, by rw [upd_ne (ne_of a.dp a.df (by intro z; cases z))]; exact a.dp, a.cv, a.cf, a.vf⟩
theorem At.places (a : At C H F S) (ps : List Int) : At C (upd H F.dp (.lst (ps.map V.int))) F { S with places := ps } := by
  obtain ⟨n1, n2, n3, n4⟩ := a.cne
  exact ⟨by rw [upd_ne (Ne.symm n4)]; exact a.c, by rw [upd_ne (ne_of a.dc a.dp (by intro z; cases z))]; exact a.dc, by rw [upd_ne (ne_of a.dv a.dp (by intro z; cases z))]; exact a.dv, by rw [upd_ne (ne_of a.df a.dp (by intro z; cases z))]; exact a.df, upd_same, a.cv, a.cf, a.vf⟩
theorem tyOf_mono (h : Same G H) {v : V} {t : Value} (y : TyOf K G v t) : TyOf K H v t := by
  cases y with
  | non => exact .non
  | bl x => exact .bl x
  | int i => exact .int i
  | str x => exact .str x
  | flt x => exact .flt x
  | lst e => exact .lst (h _ _ e)
  | frz e => exact .frz (h _ _ e)
  | tup e => exact .tup (h _ _ e)
  | dK e => exact .dK (h _ _ e)
  | dT e => exact .dT (h _ _ e)
  | ins e a b c d f => exact .ins (h _ _ e) a b c d f
theorem tyX_mono (h : Same G H) {v : V} {t : Value} (y : TyX K G v t) : TyX K H v t := by
  cases y with
  | base b => exact .base (tyOf_mono h b)
  | byt b => exact .byt b
  | set e => exact .set (h _ _ e)
  | kList e c => exact .kList e c
  | kTuple e c => exact .kTuple e c
  | kDict e c => exact .kDict e c
  | fTuple e => exact .fTuple (h _ _ e)
  | fDict e => exact .fDict (h _ _ e)
mutual
theorem Im.mono (h : Same G H) : ∀ {v : V} {t : T}, Im K G v t → Im K H v t
  | _, _, .non => .non
  | _, _, .bl b => .bl b
  | _, _, .int i => .int i
  | _, _, .str z => .str z
  | _, _, .tup e r => .tup (h _ _ e) (Ims.mono h r)
  | _, _, .odd a b c d e n => .odd (tyX_mono h a) b c d e n
theorem Ims.mono (h : Same G H) : ∀ {vs : List V} {ts : List T}, Ims K G vs ts → Ims K H vs ts
  | _, _, .nil => .nil
  | _, _, .cons a r => .cons (Im.mono h a) (Ims.mono h r)
end
theorem get_trees : List.lookup ("trees" : Str) (flds F S) = some (V.int S.trees) := by with_unfolding_all rfl
theorem get_cmds : List.lookup ("commands" : Str) (flds F S) = some (V.ref F.dc) := by with_unfolding_all rfl
theorem get_vars : List.lookup ("variables" : Str) (flds F S) = some (V.ref F.dv) := by with_unfolding_all rfl
theorem get_unf : List.lookup ("unfolded" : Str) (flds F S) = some (V.int S.unf) := by with_unfolding_all rfl
theorem get_fns : List.lookup ("functions" : Str) (flds F S) = some (V.ref F.df) := by with_unfolding_all rfl
theorem get_places : List.lookup ("places" : Str) (flds F S) = some (V.ref F.dp) := by with_unfolding_all rfl
theorem get_loops : List.lookup ("loops" : Str) (flds F S) = some (V.int S.loops) := by with_unfolding_all rfl
theorem get_rets : List.lookup ("returns" : Str) (flds F S) = some (V.bl S.rets) := by with_unfolding_all rfl
theorem two {xs : List V} {ts : List T} (im : Ims K G xs ts) : (∃ x0 x1 t0 t1, xs = [x0, x1] ∧ ts = [t0, t1] ∧ Im K G x0 t0 ∧ Im K G x1 t1) ∨ (xs.length ≠ 2 ∧ ∀ t0 t1, ts ≠ [t0, t1]) := by
  rcases im with _ | ⟨i0, _ | ⟨i1, _ | ⟨i2, r⟩⟩⟩
  · exact .inr ⟨by simp, by simp⟩
  · exact .inr ⟨by simp, by simp⟩
  · exact .inl ⟨_, _, _, _, rfl, rfl, i0, i1⟩
  · exact .inr ⟨by simp, by simp⟩
theorem three {xs : List V} {ts : List T} (im : Ims K G xs ts) : (∃ x0 x1 x2 t0 t1 t2, xs = [x0, x1, x2] ∧ ts = [t0, t1, t2] ∧ Im K G x0 t0 ∧ Im K G x1 t1 ∧ Im K G x2 t2) ∨ (xs.length ≠ 3 ∧ ∀ t0 t1 t2, ts ≠ [t0, t1, t2]) := by
  rcases im with _ | ⟨i0, _ | ⟨i1, _ | ⟨i2, _ | ⟨i3, r⟩⟩⟩⟩
  · exact .inr ⟨by simp, by simp⟩
  · exact .inr ⟨by simp, by simp⟩
  · exact .inr ⟨by simp, by simp⟩
  · exact .inl ⟨_, _, _, _, _, _, rfl, rfl, i0, i1, i2⟩
  · exact .inr ⟨by simp, by simp⟩
theorem four {xs : List V} {ts : List T} (im : Ims K G xs ts) : (∃ x0 x1 x2 x3 t0 t1 t2 t3, xs = [x0, x1, x2, x3] ∧ ts = [t0, t1, t2, t3] ∧ Im K G x0 t0 ∧ Im K G x1 t1 ∧ Im K G x2 t2 ∧ Im K G x3 t3) ∨ (xs.length ≠ 4 ∧ ∀ t0 t1 t2 t3, ts ≠ [t0, t1, t2, t3]) := by
  rcases im with _ | ⟨i0, _ | ⟨i1, _ | ⟨i2, _ | ⟨i3, _ | ⟨i4, r⟩⟩⟩⟩⟩
  · exact .inr ⟨by simp, by simp⟩
  · exact .inr ⟨by simp, by simp⟩
  · exact .inr ⟨by simp, by simp⟩
  · exact .inr ⟨by simp, by simp⟩
  · exact .inl ⟨_, _, _, _, _, _, _, _, rfl, rfl, i0, i1, i2, i3⟩
  · exact .inr ⟨by simp, by simp⟩
end
/-- the class of checks, and the error -/
structure Mc (P : Program) (K : PySem.W.Frag) (mg : Str → Option Value) (C IP fI : Addr) : Prop where
  cl : Cls K C
  n1 : NoAttr K C "trees"
  n2 : NoAttr K C "commands"
  n3 : NoAttr K C "variables"
  n4 : NoAttr K C "unfolded"
  n5 : NoAttr K C "functions"
  n6 : NoAttr K C "places"
  n7 : NoAttr K C "loops"
  n8 : NoAttr K C "returns"
  er : ErrR P K mg "InvalidProgram" "path" IP fI
/-- what a caller gives to a def that looks at one tree -/
def spAct (K : PySem.W.Frag) (C IP : Addr) (n : Nat) (k : Kind) : Sp := fun vs H Q E => ∃ F S G a xs ts p, vs = [.ref (Foot.c F), .ref a, .int p] ∧ Same G H ∧ Free F G ∧ At C H F S ∧ Ok1 S ∧ S.places.length + n = 59 ∧ G a = some (.tup xs) ∧ Ims K G xs ts ∧ Res C IP F G S.places (act (ins n) k S ts p) Q E
end Ck

/-! Promises of defs deep below one another: one place of the stack for each call, where Room counts three. -/
namespace L2
open PySem PySem.Spec PyProof.Rows
structure RoomD (k : Nat) (A : Around) : Prop where
  hd : A.handled = none
  dp : A.depth + k + 20 < recursionLimit
  un : A.units + 3 * k + 300 < cLine
theorem RoomD.mono {j k : Nat} {A : Around} (r : RoomD k A) (h : j ≤ k) : RoomD j A := ⟨r.hd, by have := r.dp; omega, by have := r.un; omega⟩
theorem RoomD.low {k : Nat} {A : Around} (r : RoomD k A) : Room 5 A := ⟨r.hd, by have := r.dp; omega, by have := r.un; omega⟩
theorem RoomD.deeper {k : Nat} {A : Around} (r : RoomD (k + 1) A) (e : Env) : RoomD k (A.deeper e) := ⟨r.hd, by have := r.dp; show A.depth + 1 + k + 20 < _; omega, by have := r.un; show A.units + 3 + 3 * k + 300 < _; omega⟩
theorem RoomD.depth {k : Nat} {A : Around} (r : RoomD k A) : A.depth < recursionLimit := by have := r.dp; omega
theorem Room.high {k m : Nat} {A : Around} (r : Room k A) (h : m + 15 ≤ 3 * k) (h2 : 3 * m + 100 ≤ 16 * k) : RoomD m A := ⟨r.hd, by have := r.dp; omega, by have := r.un; omega⟩
structure FnD (P : Program) (w : World) (K : PySem.W.Frag) (mg : Str → Option Value) (base : Heap) (CX : CXT) (k : Nat) (f : Addr) (fd : FuncData) (ps : List Str) (sp : Sp) : Prop where
  len : ∀ vs H Q E, sp vs H Q E → vs.length = ps.length
  run : ∀ (A : Around) (outer : List Env) (s : Shared) (H : Hp) (args : Args) (us : List Value) (vs : List V) (Q : VK) (E : XK), RoomD k A → Env0 P w K mg base A outer s H → BindsTo s fd args (ps.zip us) → Vals vs us → sp vs H Q E →
    codeAny (model P w) A (.call (.ref f) args) (CR CX outer P w H s Q E) s
section
variable {P : Program} {w : World} {K : PySem.W.Frag} {mg : Str → Option Value} {base : Heap} {CX : CXT} {j k : Nat} {f : Addr} {fd : FuncData} {ps : List Str} {sp : Sp}
theorem FnD.mono (F : FnD P w K mg base CX j f fd ps sp) (h : j ≤ k) : FnD P w K mg base CX k f fd ps sp := ⟨F.len, fun A outer s H args us vs Q E hr => F.run A outer s H args us vs Q E (hr.mono h)⟩
theorem FnD.of (F : FnOk P w K mg base CX j f fd ps sp) (h : j ≤ 5) : FnD P w K mg base CX k f fd ps sp := ⟨F.len, fun A outer s H args us vs Q E hr => F.run A outer s H args us vs Q E (hr.low.mono h)⟩
theorem FnD.ok (F : FnD P w K mg base CX j f fd ps sp) (h : j + 15 ≤ 3 * k) (h2 : 3 * j + 100 ≤ 16 * k) : FnOk P w K mg base CX k f fd ps sp := ⟨F.len, fun A outer s H args us vs Q E hr => F.run A outer s H args us vs Q E (hr.high h h2)⟩
end
/-- the def's body, run so deep -/
theorem okXD {P : Program} {w : World} {K : PySem.W.Frag} {mg : Str → Option Value} {base : Heap} {x qual : Str} {stm : Stmt} {f : Addr} {fd : FuncData} {N ps : List Str} {k : Nat} {sp : Sp}
    (F : Fun K x qual stm f fd) (S : FnScope N ps (defScope stm)) (many : ∀ vs H Q E, sp vs H Q E → vs.length = ps.length)
    (body : ∀ (cdv : Value) (A : Around) (outer : List Env) (st : Shared) (H : Hp) (vs : List V) (Q : VK) (E : XK), RoomD k (A.deeper (envOfC qual (defScope stm) st.heap.objs.size f cdv)) → sp vs H Q E →
      ∃ t, PSs (cxOf (L2.CX P w) P w K mg base N qual (defScope stm) f cdv A outer st H E) (defBody stm) t ∧ t { nx := fun _ H' => Q .non H', rt := Q } (L2.start N vs) H) :
    FnD P w K mg base (L2.CX P w) (k + 1) f fd ps sp := by
  obtain ⟨oc, od, kV, doc, pm, an, cdv, ct, osl, rfl, look, code⟩ := F.ex
  refine ⟨many, fun A outer st H args us vs Q E hr e0 hb hv hs => ?_⟩
  have nvs := many _ _ _ _ hs
  have Kin : K.In st.heap := e0.mod.kin.keeps fun b o e => (e0.bs b o e).1
  have lim : st.heap.NoLimit := e0.mod.nolimit.keeps fun b o e => (e0.bs b o e).1
  have kinds : ∀ y ∈ ps.zip us, (defScope stm).names.lookup y.1 = some .local ∨ ((defScope stm).names.lookup y.1 = some .cell ∧ ((cellsFrom (st.heap.objs.size + 1) (defScope stm).names []).lookup y.1).isSome = true) := by
    intro y hy
    obtain ⟨n, v⟩ := y
    rcases S.par n (List.of_mem_zip hy).1 with z | z
    · exact Or.inl z
    · exact Or.inr ⟨z, PySem.W.cellsFrom_some _ _ _ (.inl z)⟩
  refine codeAny_call_function hr.depth (Kin _ _ look) rfl S.co S.gen rfl (PySem.W.codeRec_of Kin code) (hb _ _ _ _ ?_)
  refine wpAny_newFunctionEnv_cells S.kind kinds fun env he sB xB => ?_
  subst he
  refine ⟨lim.keeps xB.toInCall.keep, codeAny_func ?_⟩
  obtain ⟨t, ht, hq⟩ := body cdv A outer st H vs Q E (hr.deeper _) hs
  have J0 : Inv (cxOf (L2.CX P w) P w K mg base N qual (defScope stm) f cdv A outer st H E) [] (L2.start N vs) H sB := inv_start S hr.hd e0 nvs hv xB
  refine wpAny_mono (ht.run [] sB (L2.start N vs) H _ J0 hq) (fun fl sC hC => ?_) fun _ _ z => z
  cases fl with
  | ret u =>
    obtain ⟨v, σ2, H2, J, rv, z⟩ := hC
    exact ⟨v, H2, J.os, J.bare, J.base, J.hok, rv, z⟩
  | next =>
    obtain ⟨σ2, H2, J, z⟩ := hC
    exact ⟨V.non, H2, J.os, J.bare, J.base, J.hok, rfl, z⟩
  | brk =>
    obtain ⟨_, _, _, z⟩ := hC
    exact z.elim
  | cont =>
    obtain ⟨_, _, _, z⟩ := hC
    exact z.elim
section
variable {X : Cx} {CX : CXT} {k : Nat} {f : Addr} {fd : FuncData} {ps : List Str} {sp : Sp} {x : Str} {p pos : Pos} {e : Expr} {es : List Expr} {t : TA} {E : XK}
/-- such a def, run where it is called -/
theorem run_deep {pins : List (Addr × Obj)} {σ : St} {H : Hp} {s : Shared} {Q : VK} {us : List Value} {vs : List V} (F : FnD X.prog X.w X.K X.mg X.base CX k f fd ps sp) (hr : RoomD k X.A) (hb : Binds X.K fd ps []) (hx : Passes CX X E) (I : Inv X pins σ H s) (r : Vals vs us) (h : sp vs H Q E) :
    wpAny (model X.prog X.w) X.A (call (.ref f) us) (EP X pins σ Q) X.xe s := by
  have l : us.length = ps.length := by
    rw [← r.length]
    exact F.len _ _ _ _ h
  have bd := hb s us I.kIn (by rw [List.append_nil]; exact l)
  rw [List.append_nil] at bd
  refine wpAny_call (codeAny_mono (F.run X.A X.stack s H ⟨us, []⟩ us vs Q E hr I.env0 bd r h) fun res sC hC => ?_)
  cases res with
  | error er => exact hx pins σ H s er sC I hC
  | ok fl =>
    cases fl with
    | ret u => exact I.after hC
    | next => exact hC.elim
    | brk => exact hC.elim
    | cont => exact hC.elim
structure GoD (P : Program) (w : World) (K : PySem.W.Frag) (mg : Str → Option Value) (base : Heap) (CX : CXT) (n : Nat) (x : Str) (ps : List Str) (sp : Sp) : Prop where
  ex : ∃ f fd, FnD P w K mg base CX n f fd ps sp ∧ mg x = some (.ref f) ∧ PySem.W.keepIn K (.ref f) = true ∧ Binds K fd ps []
theorem pe_goD {n : Nat} (G : GoD X.prog X.w X.K X.mg X.base CX n x ps sp) (hr : RoomD n X.A) (hx : Passes CX X E) (hg : Gl X x) (ha : PA X (e :: es) t) (hdb : (x == ("__debug__" : Str)) = false := by decide)
    (he : starEach (e :: es) X.env = (false, eval e X.env) :: starEach es X.env := by rfl) (hpl : (backTo pos (starEach es X.env)).any (·.1) = false := by rfl) : PE X (.Call (.Name x p) (e :: es) [] pos) (tCall sp [] E t) := by
  obtain ⟨f, fd, F, hm, hk, hb⟩ := G.ex
  refine ⟨fun pins st σ H Q I h => ?_⟩
  refine wpAny_Call_Name_kw (ld_glob I hg hm ?_ hdb)
  refine PySem.W.callWith_K (h₀ := X.base) I.ok.mod.kin hk (thn (ha.run pos pins st σ H _ I h) fun us sB hh => ?_) he hpl
  obtain ⟨vs, H1, I1, r, q⟩ := hh
  refine ⟨I1.kIn, ?_⟩
  have q2 : sp vs H1 Q E := by
    have z := q
    rw [List.append_nil] at z
    exact z
  exact run_deep F hr hb hx I1 r q2
structure CallD (P : Program) (w : World) (K : PySem.W.Frag) (mg : Str → Option Value) (base : Heap) (CX : CXT) (k : Nat) (f : Addr) (sp : Sp) : Prop where
  ex : ∃ (fd : FuncData) (ps : List Str), FnD P w K mg base CX k f fd ps sp ∧ PySem.W.keepIn K (.ref f) = true ∧ Binds K fd ps []
theorem pe_callTD {i : Nat} {ι : Type} {adr : ι → Addr} {sp : ι → Sp} (A : ∀ j, CallD X.prog X.w X.K X.mg X.base CX k (adr j) (sp j)) (hr : RoomD k X.A) (hN : X.N[i]? = some x) (hv : Vis X.env.scope x) (hx : Passes CX X E) (ha : PA X (e :: es) t)
    (hdb : (x == ("__debug__" : Str)) = false := by decide) (hcd : (x == ("__classdict__" : Str)) = false := by decide)
    (he : starEach (e :: es) X.env = (false, eval e X.env) :: starEach es X.env := by rfl) (hpl : (backTo pos (starEach es X.env)).any (·.1) = false := by rfl) : PE X (.Call (.Name x p) (e :: es) [] pos) (tCallT i adr sp E t) := by
  refine ⟨fun pins s σ H Q I h => ?_⟩
  obtain ⟨j, hs, ht⟩ := h
  obtain ⟨fd, ps, F, hk, hb⟩ := (A j).ex
  refine wpAny_Call_Name_kw (thn ((pe_var hN hv hdb hcd).run pins s σ H (fun v H1 => v = V.ref (adr j) ∧ H1 = H) I ⟨_, hs, rfl, rfl⟩) fun u s1 hh => ?_)
  obtain ⟨v, H1, I1, r1, rfl, rfl⟩ := hh
  obtain rfl : u = Value.ref (adr j) := r1
  refine PySem.W.callWith_K (h₀ := X.base) I1.ok.mod.kin hk (thn (ha.run pos pins s1 σ _ _ I1 ht) fun us s2 hh => ?_) he hpl
  obtain ⟨vs, H2, I2, r, q⟩ := hh
  exact ⟨I2.kIn, run_deep F hr hb hx I2 r q⟩
end
end L2

/-! The defs that look at one tree without trees in it. -/
namespace Ck
open PySem PySem.Spec PyProof.Rows L2
section
variable {P : Program} {w : World} {K : PySem.W.Frag} {mg : Str → Option Value} {base : Heap} {dR dS : Addr} {adr : Kind → Addr} {C IP fI : Addr}
theorem res0 {F : Foot} {G H : Hp} {i : Int} {S : CS} {pl : List Int} {Q : VK} {E : XK} (r : Res C IP F G pl (.ok (i, S)) Q E) (sm : Same G H) (a : At C H F S) (o : Ok S) (e : S.places = pl := by rfl) : Q (.int i) H := r H sm a o e
abbrev GW (P : Program) (w : World) (K : PySem.W.Frag) (mg : Str → Option Value) (base : Heap) : Prop := Go P w K mg base CX0 1 "is_integer_within" ["value", "least", "most"] (spIsWithin K)
abbrev GI (P : Program) (w : World) (K : PySem.W.Frag) (mg : Str → Option Value) (base : Heap) : Prop := Go P w K mg base CX0 1 "is_integer" ["value"] (spIsInt K)
abbrev GNew (P : Program) (w : World) (K : PySem.W.Frag) (mg : Str → Option Value) (base : Heap) : Prop := Go P w K mg base CX0 2 "is_new_name" ["names", "value"] (spNew K)
theorem len_ne {xs : List V} {n : Nat} (h : xs.length ≠ n) : decide (V.int (xs.length : Nat) = V.int (n : Nat)) = false := decide_eq_false fun z => h (by have y := V.int.inj z; omega)
theorem len_not {xs : List V} {n : Nat} (h : xs.length ≠ n) : (!decide (V.int (xs.length : Nat) = V.int (n : Nat))) = true := by rw [len_ne h]; rfl
theorem new_ok {S : CS} {ns : List Str} {t : T} (o : Ok1 S) (e : S.cmds = ns) : Ok { S with cmds := (newName ns t).2 } := by
  have := newName_len ns t
  have h := o.cm
  rw [e] at h
  exact ⟨o.lo, o.hi, by show ((newName ns t).2.length : Int) ≤ S.trees; omega, o.ok.va⟩
theorem new_okv {S : CS} {ns : List Str} {t : T} (o : Ok1 S) (e : S.vars = ns) : Ok { S with vars := (newName ns t).2 } := by
  have := newName_len ns t
  have h := o.va
  rw [e] at h
  exact ⟨o.lo, o.hi, o.ok.cm, by show ((newName ns t).2.length : Int) ≤ S.trees; omega⟩
theorem cmds_few {S : CS} (o : Ok1 S) : S.cmds.length ≤ 5000 := by
  have h := o.cm
  have h2 := o.hi
  omega
theorem vars_few {S : CS} (o : Ok1 S) : S.vars.length ≤ 5000 := by
  have h := o.va
  have h2 := o.hi
  omega
/-- 1 if b, else 0 -/
theorem one_if {b : Bool} {Q : VK} {H : Hp} (q : Q (.int (b2 b)) H) : if b = true then Q (.int 1) H else Q (.int 0) H := by
  cases b with
  | true => exact if_yes rfl q
  | false => exact if_no rfl q

abbrev sRun : Stmt := topS 26
theorem scRun : FnScope ["check", "tree", "place"] ["check", "tree", "place"] (defScope sRun) := ⟨rfl, rfl, rfl, by decide +kernel, rfl, by decide +kernel, by decide +kernel⟩
theorem ok_Run {n : Nat} {f : Addr} {fd : FuncData} (F0 : Fun K "size_of_run" "size_of_run" sRun f fd) (M : Md K mg w dR dS adr) (Z : Mc P K mg C IP fI) (GN : GNew P w K mg base) : FnOk P w K mg base (L2.CX P w) 3 f fd ["check", "tree", "place"] (spAct K C IP n .run) := by
  refine F0.okX scRun (fun vs H Q E h => ?_) (fun cdv A outer s H vs Q E hr h => ?_)
  · obtain ⟨_, _, _, _, _, _, _, rfl, _⟩ := h
    rfl
  obtain ⟨F, S, G, a, xs, ts, p, rfl, sm, fr, at0, ok, lv, ga, im, q⟩ := h
  have hu := hu_of hr
  have ha := sqt (K := K) (sm _ _ ga)

  refine ⟨_, pss_one (ps_ret (pe_ifExp (PW.pt (pw_and (pt_cmpR op_eq (pe_callB call_len_seq rfl M.ml PySem.boot_len (pa_cons (pv 1) pa_nil)) pe_int (nomark _)) (pw_and1 (pt_val (pe_go GN hr pass0 rfl (pa_cons (pe_fld (pv 0) rfl) (pa_cons (pe_ix ix_tup (pv 1) pe_int fun _ _ => rfl) pa_nil))))))) pe_int pe_int)), ?_⟩
  dsimp only [L2.tRet, L2.tRetN, tAndV, tOrV, tNotV, tCB, L2.tCons, L2.tNil, tC, tVar, L2.tOp, L2.tUn, tSeq, tAsg, gName, tIfS, tTest, tNext, tAnd, tOr, tNot, L2.tIf, tFld, sFld, sFldAug, tCall, tTup, tB, tAug, tDrop, L2.tSl, tPart, tNoPart, tBM, tBM0, tChain, gTup, gCons, gNil, tPar, tIs, List.set]
  refine ⟨_, rfl, a, xs, rfl, .inr ha, rfl, _, rfl, ?_⟩
  rcases two im with ⟨x0, x1, t0, t1, rfl, rfl, i0, i1⟩ | ⟨c, nt⟩
  · refine if_yes rfl ?_
    refine ⟨_, rfl, F.c, C, F.dx, _, _, rfl, at0.c, Z.cl, Z.n2, get_cmds, _, rfl, a, _, _, _, rfl, rfl, ha, rfl, F.dc, x1, t1, S.cmds, rfl, at0.dc, cmds_few ok, i1.mono sm, _, rfl, ?_⟩
    have nd : G F.dc = none := fr.dc
    exact one_if (res0 q (Ck.Same.up sm nd) (at0.cmds _) (new_ok ok rfl))
  · refine if_no (len_ne c) (if_no rfl ?_)
    have e : act (ins n) .run S ts p = .ok (0, S) := by
      rcases ts with _ | ⟨t0, _ | ⟨t1, _ | ⟨t2, r⟩⟩⟩ <;> first | rfl | exact absurd rfl (nt _ _)
    rw [e] at q
    exact res0 q sm at0 ok.ok

abbrev sVar : Stmt := topS 28
theorem scVar : FnScope ["check", "tree", "place"] ["check", "tree", "place"] (defScope sVar) := ⟨rfl, rfl, rfl, by decide +kernel, rfl, by decide +kernel, by decide +kernel⟩
theorem ok_Var {n : Nat} {f : Addr} {fd : FuncData} (F0 : Fun K "size_with_variable" "size_with_variable" sVar f fd) (M : Md K mg w dR dS adr) (Z : Mc P K mg C IP fI) (GN : GNew P w K mg base) : FnOk P w K mg base (L2.CX P w) 3 f fd ["check", "tree", "place"] (spAct K C IP n .var) := by
  refine F0.okX scVar (fun vs H Q E h => ?_) (fun cdv A outer s H vs Q E hr h => ?_)
  · obtain ⟨_, _, _, _, _, _, _, rfl, _⟩ := h
    rfl
  obtain ⟨F, S, G, a, xs, ts, p, rfl, sm, fr, at0, ok, lv, ga, im, q⟩ := h
  have hu := hu_of hr
  have ha := sqt (K := K) (sm _ _ ga)

  refine ⟨_, pss_one (ps_ret (pe_ifExp (PW.pt (pw_and (pt_cmpR op_eq (pe_callB call_len_seq rfl M.ml PySem.boot_len (pa_cons (pv 1) pa_nil)) pe_int (nomark _)) (pw_and1 (pt_val (pe_go GN hr pass0 rfl (pa_cons (pe_fld (pv 0) rfl) (pa_cons (pe_ix ix_tup (pv 1) pe_int fun _ _ => rfl) pa_nil))))))) pe_int pe_int)), ?_⟩
  dsimp only [L2.tRet, L2.tRetN, tAndV, tOrV, tNotV, tCB, L2.tCons, L2.tNil, tC, tVar, L2.tOp, L2.tUn, tSeq, tAsg, gName, tIfS, tTest, tNext, tAnd, tOr, tNot, L2.tIf, tFld, sFld, sFldAug, tCall, tTup, tB, tAug, tDrop, L2.tSl, tPart, tNoPart, tBM, tBM0, tChain, gTup, gCons, gNil, tPar, tIs, List.set]
  refine ⟨_, rfl, a, xs, rfl, .inr ha, rfl, _, rfl, ?_⟩
  rcases two im with ⟨x0, x1, t0, t1, rfl, rfl, i0, i1⟩ | ⟨c, nt⟩
  · refine if_yes rfl ?_
    refine ⟨_, rfl, F.c, C, F.dx, _, _, rfl, at0.c, Z.cl, Z.n3, get_vars, _, rfl, a, _, _, _, rfl, rfl, ha, rfl, F.dv, x1, t1, S.vars, rfl, at0.dv, vars_few ok, i1.mono sm, _, rfl, ?_⟩
    have nd : G F.dv = none := fr.dv
    exact one_if (res0 q (Ck.Same.up sm nd) (at0.vars _) (new_okv ok rfl))
  · refine if_no (len_ne c) (if_no rfl ?_)
    have e : act (ins n) .var S ts p = .ok (0, S) := by
      rcases ts with _ | ⟨t0, _ | ⟨t1, _ | ⟨t2, r⟩⟩⟩ <;> first | rfl | exact absurd rfl (nt _ _)
    rw [e] at q
    exact res0 q sm at0 ok.ok

abbrev sSta : Stmt := topS 27
theorem scSta : FnScope ["check", "tree", "place"] ["check", "tree", "place"] (defScope sSta) := ⟨rfl, rfl, rfl, by decide +kernel, rfl, by decide +kernel, by decide +kernel⟩
theorem ok_Sta {n : Nat} {f : Addr} {fd : FuncData} (F0 : Fun K "size_of_status" "size_of_status" sSta f fd) (M : Md K mg w dR dS adr) (Z : Mc P K mg C IP fI) (GW : GW P w K mg base) : FnOk P w K mg base (L2.CX P w) 3 f fd ["check", "tree", "place"] (spAct K C IP n .status) := by
  refine F0.okX scSta (fun vs H Q E h => ?_) (fun cdv A outer s H vs Q E hr h => ?_)
  · obtain ⟨_, _, _, _, _, _, _, rfl, _⟩ := h
    rfl
  obtain ⟨F, S, G, a, xs, ts, p, rfl, sm, fr, at0, ok, lv, ga, im, q⟩ := h
  have hu := hu_of hr
  have ha := sqt (K := K) (sm _ _ ga)

  obtain ⟨tg, gn⟩ := M.gn
  refine ⟨_, pss_one (ps_ret (pe_ifExp (PW.pt (pw_and (pt_cmpR op_eq (pe_callB call_len_seq rfl M.ml PySem.boot_len (pa_cons (pv 1) pa_nil)) pe_int (nomark _)) (pw_and1 (pt_val (pe_go GW (hr.mono (by decide)) pass0 rfl (pa_cons (pe_ix ix_tup (pv 1) pe_int fun _ _ => rfl) (pa_cons pe_int (pa_cons (pe_glob (v := .int 255) rfl gn ⟨_, rfl⟩) pa_nil)))))))) pe_int pe_int)), ?_⟩
  dsimp only [L2.tRet, L2.tRetN, tAndV, tOrV, tNotV, tCB, L2.tCons, L2.tNil, tC, tVar, L2.tOp, L2.tUn, tSeq, tAsg, gName, tIfS, tTest, tNext, tAnd, tOr, tNot, L2.tIf, tFld, sFld, sFldAug, tCall, tTup, tB, tAug, tDrop, L2.tSl, tPart, tNoPart, tBM, tBM0, tChain, gTup, gCons, gNil, tPar, tIs, List.set]
  refine ⟨_, rfl, a, xs, rfl, .inr ha, rfl, _, rfl, ?_⟩
  rcases two im with ⟨x0, x1, t0, t1, rfl, rfl, i0, i1⟩ | ⟨c, nt⟩
  · refine if_yes rfl ?_
    exact ⟨_, rfl, a, _, _, _, rfl, rfl, ha, rfl, x1, t1, 0, 255, rfl, i1.mono sm, _, rfl, one_if (res0 q sm at0 ok.ok)⟩
  · refine if_no (len_ne c) (if_no rfl ?_)
    have e : act (ins n) .status S ts p = .ok (0, S) := by
      rcases ts with _ | ⟨t0, _ | ⟨t1, _ | ⟨t2, r⟩⟩⟩ <;> first | rfl | exact absurd rfl (nt _ _)
    rw [e] at q
    exact res0 q sm at0 ok.ok

theorem neS : ∀ {b : Bool} {A B : Prop}, b = false → B → if (!!b) = true then A else B := fun {b A B} e h => by
  rw [e]
  exact if_no rfl h
theorem valV_ftab (z : Str) : ∀ fs : List (Str × Int), valV (ftab fs) (.inr z) = (fs.lookup z).map V.int
  | [] => rfl
  | (n, i) :: fs => by
    show valV ((Sum.inr n, V.int i) :: ftab fs) (.inr z) = _
    by_cases e : n = z
    · rw [valV_pos (by rw [e])]
      simp [List.lookup, e]
    · have e2 : (z == n) = false := by simpa using Ne.symm e
      rw [valV_neg (fun q => e (Sum.inr.inj q)), valV_ftab z fs]
      simp [List.lookup, e2]
theorem non_is {H : Hp} {v : V} {t : T} (h : Im K H v t) : decide (v = .non) = isNon t := by
  cases h with
  | non => rfl
  | odd _ _ _ _ _ n => exact decide_eq_false n
  | _ => exact decide_eq_false (by intro z; cases z)
theorem str_of {H : Hp} {v : V} {t : T} (h : Im K H v t) (e : isSt t = true) : ∃ z, v = .str z ∧ t = .str z := by
  cases h with
  | str _ => exact ⟨_, rfl, rfl⟩
  | _ => simp [isSt] at e
theorem bl_of {H : Hp} {v : V} {t : T} (h : Im K H v t) (e : isBl t = true) : ∃ b, v = .bl b ∧ t = .bl b := by
  cases h with
  | bl _ => exact ⟨_, rfl, rfl⟩
  | _ => simp [isBl] at e

abbrev sPut : Stmt := topS 29
theorem scPut : FnScope ["check", "tree", "place"] ["check", "tree", "place"] (defScope sPut) := ⟨rfl, rfl, rfl, by decide +kernel, rfl, by decide +kernel, by decide +kernel⟩
theorem ok_Put {n : Nat} {f : Addr} {fd : FuncData} (F0 : Fun K "size_of_put" "size_of_put" sPut f fd) (M : Md K mg w dR dS adr) (Z : Mc P K mg C IP fI) (GN : GNew P w K mg base) (GW : GW P w K mg base) : FnOk P w K mg base (L2.CX P w) 3 f fd ["check", "tree", "place"] (spAct K C IP n .put) := by
  refine F0.okX scPut (fun vs H Q E h => ?_) (fun cdv A outer s H vs Q E hr h => ?_)
  · obtain ⟨_, _, _, _, _, _, _, rfl, _⟩ := h
    rfl
  obtain ⟨F, S, G, a, xs, ts, p, rfl, sm, fr, at0, ok, lv, ga, im, q⟩ := h
  have hu := hu_of hr
  have ha := sqt (K := K) (sm _ _ ga)

  obtain ⟨tg, gn⟩ := M.gn
  refine ⟨_, pss_cons (ps_if (PW.pt (pw_or (pt_cmpR op_ne (pe_callB call_len_seq rfl M.ml PySem.boot_len (pa_cons (pv 1) pa_nil)) pe_int (nomark _)) (pw_or1 (pt_not (pt_val (pe_go GW (hr.mono (by decide)) pass0 rfl (pa_cons (pe_ix ix_tup (pv 1) pe_int fun _ _ => rfl) (pa_cons pe_int (pa_cons (pe_glob (v := .int 255) rfl gn ⟨_, rfl⟩) pa_nil))))))))) (pss_one (ps_ret pe_int)) pss_nil)
    (pss_one (ps_ret (pe_ifExp (pt_val (pe_go GN hr pass0 rfl (pa_cons (pe_fld (pv 0) rfl) (pa_cons (pe_ix ix_tup (pv 1) pe_int fun _ _ => rfl) pa_nil)))) pe_int pe_int))), ?_⟩
  dsimp only [L2.tRet, L2.tRetN, tAndV, tOrV, tNotV, tCB, L2.tCons, L2.tNil, tC, tVar, L2.tOp, L2.tUn, tSeq, tAsg, gName, tIfS, tTest, tNext, tAnd, tOr, tNot, L2.tIf, tFld, sFld, sFldAug, tCall, tTup, tB, tAug, tDrop, L2.tSl, tPart, tNoPart, tBM, tBM0, tChain, gTup, gCons, gNil, tPar, tIs, List.set]
  refine ⟨_, rfl, a, xs, rfl, .inr ha, rfl, _, rfl, ?_⟩
  rcases three im with ⟨x0, x1, x2, t0, t1, t2, rfl, rfl, i0, i1, i2⟩ | ⟨c, nt⟩
  · refine if_no rfl ?_
    refine ⟨_, rfl, a, _, _, _, rfl, rfl, ha, rfl, x2, t2, 0, 255, rfl, i2.mono sm, _, rfl, ?_⟩
    cases e : within 0 255 t2 with
    | false =>
      have z : act (ins n) .put S [t0, t1, t2] p = .ok (0, S) := by
        show (if within 0 255 t2 = true then varied S t1 else .ok (0, S)) = _
        rw [e]
        rfl
      rw [z] at q
      exact if_yes rfl (res0 q sm at0 ok.ok)
    | true =>
      have z : act (ins n) .put S [t0, t1, t2] p = varied S t1 := by
        show (if within 0 255 t2 = true then varied S t1 else .ok (0, S)) = _
        rw [e]
        rfl
      rw [z] at q
      refine if_no rfl ?_
      refine ⟨_, rfl, F.c, C, F.dx, _, _, rfl, at0.c, Z.cl, Z.n3, get_vars, _, rfl, a, _, _, _, rfl, rfl, ha, rfl, F.dv, x1, t1, S.vars, rfl, at0.dv, vars_few ok, i1.mono sm, _, rfl, ?_⟩
      have nd : G F.dv = none := fr.dv
      exact one_if (res0 q (Ck.Same.up sm nd) (at0.vars _) (new_okv ok rfl))
  · have e : act (ins n) .put S ts p = .ok (0, S) := by
      rcases ts with _ | ⟨t0, _ | ⟨t1, _ | ⟨t2, _ | ⟨t3, r⟩⟩⟩⟩ <;> first | rfl | exact absurd rfl (nt _ _ _)
    rw [e] at q
    refine if_yes (len_not c) (if_yes rfl (res0 q sm at0 ok.ok))

abbrev sOpt : Stmt := topS 30
theorem scOpt : FnScope ["check", "tree", "place"] ["check", "tree", "place"] (defScope sOpt) := ⟨rfl, rfl, rfl, by decide +kernel, rfl, by decide +kernel, by decide +kernel⟩
theorem ok_Opt {n : Nat} {f : Addr} {fd : FuncData} (F0 : Fun K "size_of_option" "size_of_option" sOpt f fd) (M : Md K mg w dR dS adr) (Z : Mc P K mg C IP fI) : FnOk P w K mg base (L2.CX P w) 3 f fd ["check", "tree", "place"] (spAct K C IP n .option) := by
  refine F0.okX scOpt (fun vs H Q E h => ?_) (fun cdv A outer s H vs Q E hr h => ?_)
  · obtain ⟨_, _, _, _, _, _, _, rfl, _⟩ := h
    rfl
  obtain ⟨F, S, G, a, xs, ts, p, rfl, sm, fr, at0, ok, lv, ga, im, q⟩ := h
  have hu := hu_of hr
  have ha := sqt (K := K) (sm _ _ ga)

  refine ⟨_, pss_cons (ps_if (PW.pt (pw_or (pt_cmpR op_ne (pe_callB call_len_seq rfl M.ml PySem.boot_len (pa_cons (pv 1) pa_nil)) pe_int (nomark _)) (pw_or (pt_not (pt_val (pe_is (n := "str") M.mi M.mstr (by decide +kernel) rfl rfl (pe_ix ix_tup (pv 1) pe_int fun _ _ => rfl)))) (pw_or1 (pt_not (pt_val (pe_is (n := "bool") M.mi M.mbool (by decide +kernel) rfl rfl (pe_ix ix_tup (pv 1) pe_int fun _ _ => rfl)))))))) (pss_one (ps_ret pe_int)) pss_nil)
    (pss_one (ps_ret (pe_ifExp (PW.pt (pw_or (pt_cmpR op_eq (pe_ix ix_tup (pv 1) pe_int fun _ _ => rfl) pe_str (nomark _)) (pw_or1 (pt_cmpR op_eq (pe_ix ix_tup (pv 1) pe_int fun _ _ => rfl) pe_str (nomark _))))) pe_int pe_int))), ?_⟩
  dsimp only [L2.tRet, L2.tRetN, tAndV, tOrV, tNotV, tCB, L2.tCons, L2.tNil, tC, tVar, L2.tOp, L2.tUn, tSeq, tAsg, gName, tIfS, tTest, tNext, tAnd, tOr, tNot, L2.tIf, tFld, sFld, sFldAug, tCall, tTup, tB, tAug, tDrop, L2.tSl, tPart, tNoPart, tBM, tBM0, tChain, gTup, gCons, gNil, tPar, tIs, List.set]
  refine ⟨_, rfl, a, xs, rfl, .inr ha, rfl, _, rfl, ?_⟩
  rcases three im with ⟨x0, x1, x2, t0, t1, t2, rfl, rfl, i0, i1, i2⟩ | ⟨c, nt⟩
  · refine if_no rfl ?_
    refine ⟨_, rfl, a, _, _, _, rfl, rfl, ha, rfl, is_str (i1.mono sm) ⟨_, rfl, ?_⟩⟩
    have no : isSt t1 = false ∨ isBl t2 = false → act (ins n) .option S [t0, t1, t2] p = .ok (0, S) := by
      intro h
      cases t1 <;> first | rfl | (cases t2 <;> first | rfl | simp [isSt, isBl] at h)
    cases e1 : isSt t1 with
    | false =>
      rw [no (.inl e1)] at q
      exact if_yes rfl (if_yes rfl (res0 q sm at0 ok.ok))
    | true =>
      refine if_no rfl ?_
      refine ⟨_, rfl, a, _, _, _, rfl, rfl, ha, rfl, is_bool (i2.mono sm) ⟨_, rfl, ?_⟩⟩
      cases e2 : isBl t2 with
      | false =>
        rw [no (.inr e2)] at q
        exact if_yes rfl (res0 q sm at0 ok.ok)
      | true =>
        refine if_no rfl ?_
        obtain ⟨z, rfl, rfl⟩ := str_of i1 e1
        obtain ⟨b, rfl, rfl⟩ := bl_of i2 e2
        refine ⟨_, rfl, a, _, _, _, rfl, rfl, ha, rfl, rfl, _, rfl, ?_⟩
        have qq : Res C IP F G S.places (.ok (b2 (decide (z = "fail") || decide (z = "pipes")), S)) Q E := q
        by_cases f1 : z = "fail"
        · subst f1
          exact if_yes (decide_eq_true rfl) (if_yes rfl (res0 qq sm at0 ok.ok))
        · refine if_no (decide_eq_false fun y => f1 (V.str.inj y)) ?_
          rw [decide_eq_false f1, Bool.false_or] at qq
          refine ⟨_, rfl, a, _, _, _, rfl, rfl, ha, rfl, rfl, _, rfl, ?_⟩
          by_cases f2 : z = "pipes"
          · subst f2
            exact if_yes (decide_eq_true rfl) (res0 qq sm at0 ok.ok)
          · rw [decide_eq_false f2] at qq
            exact if_no (decide_eq_false fun y => f2 (V.str.inj y)) (res0 qq sm at0 ok.ok)
  · have e : act (ins n) .option S ts p = .ok (0, S) := by
      rcases ts with _ | ⟨t0, _ | ⟨t1, _ | ⟨t2, _ | ⟨t3, r⟩⟩⟩⟩ <;> first | rfl | exact absurd rfl (nt _ _ _) | (cases t1 <;> first | rfl | (cases t2 <;> rfl))
    rw [e] at q
    exact if_yes (len_not c) (if_yes rfl (res0 q sm at0 ok.ok))

abbrev sJmp : Stmt := topS 40
theorem scJmp : FnScope ["check", "tree", "place"] ["check", "tree", "place"] (defScope sJmp) := ⟨rfl, rfl, rfl, by decide +kernel, rfl, by decide +kernel, by decide +kernel⟩
theorem ok_Jmp {n : Nat} {f : Addr} {fd : FuncData} (F0 : Fun K "size_of_jump" "size_of_jump" sJmp f fd) (M : Md K mg w dR dS adr) (Z : Mc P K mg C IP fI) (GI : GI P w K mg base) : FnOk P w K mg base (L2.CX P w) 3 f fd ["check", "tree", "place"] (spAct K C IP n .jump) := by
  refine F0.okX scJmp (fun vs H Q E h => ?_) (fun cdv A outer s H vs Q E hr h => ?_)
  · obtain ⟨_, _, _, _, _, _, _, rfl, _⟩ := h
    rfl
  obtain ⟨F, S, G, a, xs, ts, p, rfl, sm, fr, at0, ok, lv, ga, im, q⟩ := h
  have hu := hu_of hr
  have ha := sqt (K := K) (sm _ _ ga)

  refine ⟨_, pss_one (ps_ret (pe_ifExp (PW.pt (pw_and (pt_cmpR op_eq (pe_callB call_len_seq rfl M.ml PySem.boot_len (pa_cons (pv 1) pa_nil)) pe_int (nomark _)) (pw_and (pt_val (pe_go GI (hr.mono (by decide)) pass0 rfl (pa_cons (pe_ix ix_tup (pv 1) pe_int fun _ _ => rfl) pa_nil))) (pw_and1 (pt_chain op_le op_le pe_int (pe_ix ix_tup (pv 1) pe_int fun _ _ => rfl) (pe_fld (pv 0) rfl)))))) pe_int pe_int)), ?_⟩
  dsimp only [L2.tRet, L2.tRetN, tAndV, tOrV, tNotV, tCB, L2.tCons, L2.tNil, tC, tVar, L2.tOp, L2.tUn, tSeq, tAsg, gName, tIfS, tTest, tNext, tAnd, tOr, tNot, L2.tIf, tFld, sFld, sFldAug, tCall, tTup, tB, tAug, tDrop, L2.tSl, tPart, tNoPart, tBM, tBM0, tChain, gTup, gCons, gNil, tPar, tIs, List.set]
  refine ⟨_, rfl, a, xs, rfl, .inr ha, rfl, _, rfl, ?_⟩
  rcases two im with ⟨x0, x1, t0, t1, rfl, rfl, i0, i1⟩ | ⟨c, nt⟩
  · refine if_yes rfl ?_
    refine ⟨_, rfl, a, _, _, _, rfl, rfl, ha, rfl, x1, t1, rfl, i1.mono sm, _, rfl, ?_⟩
    cases e : isInt t1 with
    | false =>
      have z : act (ins n) .jump S [t0, t1] p = .ok (0, S) := by cases t1 <;> first | rfl | simp [isInt] at e
      rw [z] at q
      exact if_no rfl (if_no rfl (res0 q sm at0 ok.ok))
    | true =>
      cases i1 with
      | int k =>
        refine if_yes rfl ?_
        refine ⟨_, rfl, a, _, _, _, rfl, rfl, ha, rfl, _, _, rfl, rfl, _, rfl, ?_⟩
        have qq : Res C IP F G S.places (.ok (b2 (decide (1 ≤ k) && decide (k ≤ S.loops)), S)) Q E := q
        by_cases f1 : 1 ≤ k
        · rw [decide_eq_true f1, Bool.true_and] at qq
          refine if_yes (decide_eq_true f1) ?_
          refine ⟨_, rfl, F.c, C, F.dx, _, _, rfl, at0.c, Z.cl, Z.n7, get_loops, _, _, rfl, rfl, _, rfl, ?_⟩
          exact one_if (res0 qq sm at0 ok.ok)
        · rw [decide_eq_false f1, Bool.false_and] at qq
          exact if_no (decide_eq_false f1) ⟨_, rfl, if_no rfl (res0 qq sm at0 ok.ok)⟩
      | _ => simp [isInt] at e
  · refine if_no (len_ne c) (if_no rfl ?_)
    have e : act (ins n) .jump S ts p = .ok (0, S) := by
      rcases ts with _ | ⟨t0, _ | ⟨t1, _ | ⟨t2, r⟩⟩⟩ <;> first | rfl | exact absurd rfl (nt _ _) | (cases t1 <;> rfl)
    rw [e] at q
    exact res0 q sm at0 ok.ok

abbrev sCal : Stmt := topS 41
theorem scCal : FnScope ["check", "tree", "place"] ["check", "tree", "place"] (defScope sCal) := ⟨rfl, rfl, rfl, by decide +kernel, rfl, by decide +kernel, by decide +kernel⟩
theorem ok_Cal {n : Nat} {f : Addr} {fd : FuncData} (F0 : Fun K "size_of_call" "size_of_call" sCal f fd) (M : Md K mg w dR dS adr) (Z : Mc P K mg C IP fI) : FnOk P w K mg base (L2.CX P w) 3 f fd ["check", "tree", "place"] (spAct K C IP n .call) := by
  refine F0.okX scCal (fun vs H Q E h => ?_) (fun cdv A outer s H vs Q E hr h => ?_)
  · obtain ⟨_, _, _, _, _, _, _, rfl, _⟩ := h
    rfl
  obtain ⟨F, S, G, a, xs, ts, p, rfl, sm, fr, at0, ok, lv, ga, im, q⟩ := h
  have hu := hu_of hr
  have ha := sqt (K := K) (sm _ _ ga)

  refine ⟨_, pss_cons (ps_if (PW.pt (pw_or (pt_cmpR op_ne (pe_callB call_len_seq rfl M.ml PySem.boot_len (pa_cons (pv 1) pa_nil)) pe_int (nomark _)) (pw_or (pt_not (pt_val (pe_is (n := "str") M.mi M.mstr (by decide +kernel) rfl rfl (pe_ix ix_tup (pv 1) pe_int fun _ _ => rfl)))) (pw_or1 (pt_cmp (pc_dnotin hu (pe_ix ix_tup (pv 1) pe_int fun _ _ => rfl) (pe_fld (pv 0) rfl)) (by rfl)))))) (pss_one (ps_ret pe_int)) pss_nil)
    (pss_one (ps_ret (pe_op op_add pe_int (pe_dget hu (pe_fld (pv 0) rfl) (pe_ix ix_tup (pv 1) pe_int fun _ _ => rfl) fun _ _ => rfl)))), ?_⟩
  dsimp only [L2.tRet, L2.tRetN, tAndV, tOrV, tNotV, tCB, L2.tCons, L2.tNil, tC, tVar, L2.tOp, L2.tUn, tSeq, tAsg, gName, tIfS, tTest, tNext, tAnd, tOr, tNot, L2.tIf, tFld, sFld, sFldAug, tCall, tTup, tB, tAug, tDrop, L2.tSl, tPart, tNoPart, tBM, tBM0, tChain, gTup, gCons, gNil, tPar, tIs, List.set, tDNotIn, tDGet]
  refine ⟨_, rfl, a, xs, rfl, .inr ha, rfl, _, rfl, ?_⟩
  rcases two im with ⟨x0, x1, t0, t1, rfl, rfl, i0, i1⟩ | ⟨c, nt⟩
  · refine if_no rfl ?_
    refine ⟨_, rfl, a, _, _, _, rfl, rfl, ha, rfl, is_str (i1.mono sm) ⟨_, rfl, ?_⟩⟩
    cases e1 : isSt t1 with
    | false =>
      have z : act (ins n) .call S [t0, t1] p = .ok (0, S) := by cases t1 <;> first | rfl | simp [isSt] at e1
      rw [z] at q
      exact if_yes rfl (if_yes rfl (res0 q sm at0 ok.ok))
    | true =>
      refine if_no rfl ?_
      obtain ⟨z, rfl, rfl⟩ := str_of i1 e1
      have g : DGet H F.df (.str z) (valV (ftab S.fns) (.inr z)) := DGet.k (k := Sum.inr z) at0.df
      refine ⟨_, rfl, a, _, _, _, rfl, rfl, ha, rfl, _, rfl, F.c, C, F.dx, _, _, rfl, at0.c, Z.cl, Z.n5, get_fns, F.df, _, rfl, g, _, rfl, ?_⟩
      have qq : Res C IP F G S.places (match S.fns.lookup z with | some v => .ok (1 + v, S) | none => .ok (0, S)) Q E := q
      rw [valV_ftab] at g ⊢
      cases l : S.fns.lookup z with
      | none =>
        rw [l] at qq
        exact if_yes rfl (res0 qq sm at0 ok.ok)
      | some v =>
        rw [l] at qq g
        refine if_no rfl ?_
        exact ⟨_, rfl, F.c, C, F.dx, _, _, rfl, at0.c, Z.cl, Z.n5, get_fns, _, rfl, a, _, _, _, rfl, rfl, ha, rfl, F.df, _, rfl, g, _, _, rfl, rfl, res0 qq sm at0 ok.ok⟩
  · have e : act (ins n) .call S ts p = .ok (0, S) := by
      rcases ts with _ | ⟨t0, _ | ⟨t1, _ | ⟨t2, r⟩⟩⟩ <;> first | rfl | exact absurd rfl (nt _ _) | (cases t1 <;> rfl)
    rw [e] at q
    exact if_yes (len_not c) (if_yes rfl (res0 q sm at0 ok.ok))

abbrev sExi : Stmt := topS 43
theorem scExi : FnScope ["check", "tree", "place"] ["check", "tree", "place"] (defScope sExi) := ⟨rfl, rfl, rfl, by decide +kernel, rfl, by decide +kernel, by decide +kernel⟩
theorem ok_Exi {n : Nat} {f : Addr} {fd : FuncData} (F0 : Fun K "size_of_exit" "size_of_exit" sExi f fd) (M : Md K mg w dR dS adr) (Z : Mc P K mg C IP fI) (GW : GW P w K mg base) : FnOk P w K mg base (L2.CX P w) 3 f fd ["check", "tree", "place"] (spAct K C IP n .exit) := by
  refine F0.okX scExi (fun vs H Q E h => ?_) (fun cdv A outer s H vs Q E hr h => ?_)
  · obtain ⟨_, _, _, _, _, _, _, rfl, _⟩ := h
    rfl
  obtain ⟨F, S, G, a, xs, ts, p, rfl, sm, fr, at0, ok, lv, ga, im, q⟩ := h
  have hu := hu_of hr
  have ha := sqt (K := K) (sm _ _ ga)

  obtain ⟨tg, gn⟩ := M.gn
  refine ⟨_, pss_cons (ps_if (pt_cmpR op_ne (pe_callB call_len_seq rfl M.ml PySem.boot_len (pa_cons (pv 1) pa_nil)) pe_int (nomark _)) (pss_one (ps_ret pe_int)) pss_nil)
    (pss_one (ps_ret (pe_ifExp (PW.pt (pw_or (pt_cmpR op_isN (pe_ix ix_tup (pv 1) pe_int fun _ _ => rfl) pe_non (nomark _)) (pw_or1 (pt_val (pe_go GW (hr.mono (by decide)) pass0 rfl (pa_cons (pe_ix ix_tup (pv 1) pe_int fun _ _ => rfl) (pa_cons pe_int (pa_cons (pe_glob (v := .int 255) rfl gn ⟨_, rfl⟩) pa_nil)))))))) pe_int pe_int))), ?_⟩
  dsimp only [L2.tRet, L2.tRetN, tAndV, tOrV, tNotV, tCB, L2.tCons, L2.tNil, tC, tVar, L2.tOp, L2.tUn, tSeq, tAsg, gName, tIfS, tTest, tNext, tAnd, tOr, tNot, L2.tIf, tFld, sFld, sFldAug, tCall, tTup, tB, tAug, tDrop, L2.tSl, tPart, tNoPart, tBM, tBM0, tChain, gTup, gCons, gNil, tPar, tIs, List.set]
  refine ⟨_, rfl, a, xs, rfl, .inr ha, rfl, _, rfl, ?_⟩
  rcases two im with ⟨x0, x1, t0, t1, rfl, rfl, i0, i1⟩ | ⟨c, nt⟩
  · refine if_no rfl ?_
    have qq : Res C IP F G S.places (.ok (b2 (isNon t1 || within 0 255 t1), S)) Q E := q
    refine ⟨_, rfl, a, _, _, _, rfl, rfl, ha, rfl, rfl, _, rfl, ?_⟩
    rw [non_is i1]
    cases e : isNon t1 with
    | true =>
      rw [e, Bool.true_or] at qq
      exact if_yes rfl (if_yes rfl (res0 qq sm at0 ok.ok))
    | false =>
      rw [e, Bool.false_or] at qq
      refine if_no rfl ?_
      exact ⟨_, rfl, a, _, _, _, rfl, rfl, ha, rfl, x1, t1, 0, 255, rfl, i1.mono sm, _, rfl, one_if (res0 qq sm at0 ok.ok)⟩
  · have e : act (ins n) .exit S ts p = .ok (0, S) := by
      rcases ts with _ | ⟨t0, _ | ⟨t1, _ | ⟨t2, r⟩⟩⟩ <;> first | rfl | exact absurd rfl (nt _ _)
    rw [e] at q
    exact if_yes (len_not c) (res0 q sm at0 ok.ok)

abbrev GX (P : Program) (w : World) (K : PySem.W.Frag) (mg : Str → Option Value) (base : Heap) (C IP : Addr) (n j : Nat) (x : Str) (k : Kind) : Prop := Go P w K mg base (L2.CX P w) j x ["check", "tree", "place"] (spAct K C IP n k)

abbrev sRet : Stmt := topS 42
theorem scRet : FnScope ["check", "tree", "place"] ["check", "tree", "place"] (defScope sRet) := ⟨rfl, rfl, rfl, by decide +kernel, rfl, by decide +kernel, by decide +kernel⟩
theorem ok_Ret {n : Nat} {f : Addr} {fd : FuncData} (F0 : Fun K "size_of_return" "size_of_return" sRet f fd) (M : Md K mg w dR dS adr) (Z : Mc P K mg C IP fI) (GE : GX P w K mg base C IP n 3 "size_of_exit" .exit) : FnOk P w K mg base (L2.CX P w) 4 f fd ["check", "tree", "place"] (spAct K C IP n .ret) := by
  refine F0.okX scRet (fun vs H Q E h => ?_) (fun cdv A outer s H vs Q E hr h => ?_)
  · obtain ⟨_, _, _, _, _, _, _, rfl, _⟩ := h
    rfl
  obtain ⟨F, S, G, a, xs, ts, p, rfl, sm, fr, at0, ok, lv, ga, im, q⟩ := h
  have hu := hu_of hr
  have ha := sqt (K := K) (sm _ _ ga)

  refine ⟨_, pss_one (ps_ret (pe_ifExp (pt_val (pe_fld (pv 0) rfl)) (pe_go (E := E) GE hr (passes_call (takes_of rfl rfl rfl rfl) fun _ _ _ _ z => z) rfl (pa_cons (pv 0) (pa_cons (pv 1) (pa_cons (pv 2) pa_nil)))) pe_int)), ?_⟩
  dsimp only [L2.tRet, L2.tRetN, tAndV, tOrV, tNotV, tCB, L2.tCons, L2.tNil, tC, tVar, L2.tOp, L2.tUn, tSeq, tAsg, gName, tIfS, tTest, tNext, tAnd, tOr, tNot, L2.tIf, tFld, sFld, sFldAug, tCall, tTup, tB, tAug, tDrop, L2.tSl, tPart, tNoPart, tBM, tBM0, tChain, gTup, gCons, gNil, tPar, tIs, List.set]
  refine ⟨_, rfl, F.c, C, F.dx, _, _, rfl, at0.c, Z.cl, Z.n8, get_rets, _, rfl, ?_⟩
  have qq : Res C IP F G S.places (if S.rets = true then .ok (exited ts, S) else .ok (0, S)) Q E := q
  cases e : S.rets with
  | true =>
    rw [e, if_pos rfl] at qq
    exact if_yes rfl ⟨_, rfl, _, rfl, _, rfl, F, S, G, a, xs, ts, p, rfl, sm, fr, at0, ok, lv, ga, im, qq⟩
  | false =>
    rw [e, if_neg Bool.false_ne_true] at qq
    exact if_no rfl (res0 qq sm at0 ok.ok)

end
end Ck

/-! The defs that look at trees with trees in them, each by what it calls. -/
namespace Ck
open PySem PySem.Spec PyProof.Rows L2 PySem.ErrKw
section
variable {P : Program} {w : World} {K : PySem.W.Frag} {mg : Str → Option Value} {base : Heap} {dR dS : Addr} {adr : Kind → Addr} {C IP fI : Addr}
/-- size_inside, n parts deep from here; size_of_all; size_behind_barrier -/
def spInto (K : PySem.W.Frag) (C IP : Addr) (n : Nat) : Sp := fun vs H Q E => ∃ F S G a xs ts p, vs = [.ref (Foot.c F), .ref a, .int p] ∧ Same G H ∧ Free F G ∧ At C H F S ∧ Ok S ∧ S.places.length + n = 59 ∧ G a = some (.tup xs) ∧ Ims K G xs ts ∧ Res C IP F G S.places (ins n S ts p) Q E
def spBar (K : PySem.W.Frag) (C IP : Addr) (n : Nat) : Sp := fun vs H Q E => ∃ F S G a xs ts p, vs = [.ref (Foot.c F), .ref a, .int p] ∧ Same G H ∧ Free F G ∧ At C H F S ∧ Ok S ∧ S.places.length + n = 59 ∧ G a = some (.tup xs) ∧ Ims K G xs ts ∧ Res C IP F G S.places (barrier (ins n) S ts p) Q E
def spAll (K : PySem.W.Frag) (C IP : Addr) (n : Nat) : Sp := fun vs H Q E => ∃ F S G a xs ts p, vs = [.ref (Foot.c F), .ref a, .int p] ∧ Same G H ∧ Free F G ∧ At C H F S ∧ Ok S ∧ S.places.length + n = 59 ∧ G a = some (.tup xs) ∧ Ims K G xs ts ∧ Res C IP F G S.places (all n S ts p 0) Q E
abbrev GInto (P : Program) (w : World) (K : PySem.W.Frag) (mg : Str → Option Value) (base : Heap) (C IP : Addr) (n j : Nat) : Prop := GoD P w K mg base (L2.CX P w) j "size_inside" ["check", "parts", "place"] (spInto K C IP n)
abbrev GBar (P : Program) (w : World) (K : PySem.W.Frag) (mg : Str → Option Value) (base : Heap) (C IP : Addr) (n j : Nat) : Prop := GoD P w K mg base (L2.CX P w) j "size_behind_barrier" ["check", "parts", "place"] (spBar K C IP n)
abbrev GAll (P : Program) (w : World) (K : PySem.W.Frag) (mg : Str → Option Value) (base : Heap) (C IP : Addr) (n j : Nat) : Prop := GoD P w K mg base (L2.CX P w) j "size_of_all" ["check", "trees", "place"] (spAll K C IP n)
/-- a call's result, by its two ways -/
theorem res_to {F : Foot} {G G1 : Hp} {pl pl0 : List Int} {r : R} {Q Q' : VK} {E : XK} (h : ∀ H', Same G1 H' → Same G H') (he : ∀ e, r = .error e → Res C IP F G pl (.error e) Q E) (ho : ∀ i S', r = .ok (i, S') → ∀ H', Same G1 H' → At C H' F S' → Ok S' → S'.places = pl0 → Q' (.int i) H') : Res C IP F G1 pl0 r Q' E := by
  cases r with
  | error e => exact fun H' d p a b c => he e rfl H' d p (h H' a) b c
  | ok v => exact ho v.1 v.2 rfl
theorem few (F : Foot) (S : CS) : (flds F S).length < 1000 := Nat.lt_of_sub_eq_succ rfl

abbrev sInto : Stmt := topS 22
theorem scInto : FnScope ["check", "parts", "place", "size"] ["check", "parts", "place"] (defScope sInto) := ⟨rfl, rfl, rfl, by decide +kernel, rfl, by decide +kernel, by decide +kernel⟩
theorem places_pop {ps : List Int} {p : Int} : ((ps ++ [p]).map V.int)[((ps ++ [p]).map V.int).length - 1]? = some (.int p) := by
  simp
theorem ok_into {n j : Nat} {f : Addr} {fd : FuncData} (F0 : Fun K "size_inside" "size_inside" sInto f fd) (M : Md K mg w dR dS adr) (Z : Mc P K mg C IP fI) (hj : 1 ≤ j) (GA : n ≠ 0 → GAll P w K mg base C IP (n - 1) j) : FnD P w K mg base (L2.CX P w) (j + 1) f fd ["check", "parts", "place"] (spInto K C IP n) := by
  obtain ⟨tl, lp⟩ := M.lp
  obtain ⟨tt, mt⟩ := M.mt
  refine okXD F0 scInto (fun vs H Q E h => ?_) (fun cdv A outer s H vs Q E hr h => ?_)
  · obtain ⟨_, _, _, _, _, _, _, rfl, _⟩ := h
    rfl
  obtain ⟨F, S, G, a, xs, ts, p, rfl, sm, fr, at0, ok, lv, ga, im, q⟩ := h
  have hu := hu_of hr.low
  have len61 : S.places.length ≤ 59 := by omega
  have at1 : At C (upd H F.dp (.lst (S.places.map V.int ++ [V.int p]))) F { S with places := S.places ++ [p] } := by
    have z := at0.places (S.places ++ [p])
    rw [List.map_append] at z
    exact z
  have sm1 : Same G (upd H F.dp (.lst (S.places.map V.int ++ [V.int p]))) := Ck.Same.up sm fr.dp
  have sq : SqL K H F.dp (S.places.map V.int) := .inl (.inl at0.dp)
  have sq1 : SqL K (upd H F.dp (.lst (S.places.map V.int ++ [V.int p]))) F.dp ((S.places ++ [p]).map V.int) := .inl (.inl at1.dp)
  by_cases hn : n = 0
  · subst hn
    refine ⟨_, pss_cons (ps_expr (pe_bm PySem.F.plainAttrs_list PySem.F.slot_list_append PySem.F.type_list_append mt_append (pe_fld (pv 0) rfl) (pa_cons (pv 2) pa_nil)))
      (pss_cons (ps_if (pt_cmpR op_eq (pe_callB call_len_seq rfl M.ml PySem.boot_len (pa_cons (pe_fld (pv 0) rfl) pa_nil)) (pe_glob (v := .int 60) rfl lp ⟨_, rfl⟩) (nomark _))
        (pss_one (ps_raiseE rfl Z.er given_path (hr.low.mono (by decide)) (takes_of rfl rfl rfl rfl) (pe_ifExp (pt_cmpR op_eq (pe_fld (pv 0) rfl) (pe_glob (v := .int 3000) rfl mt ⟨_, rfl⟩) (nomark _)) (pe_tup pa_nil) (pe_tup (StX.pa_star (pe_fld (pv 0) rfl) (pa_cons pe_int pa_nil)))))) pss_nil) pss_never), ?_⟩
    dsimp only [L2.tRet, L2.tRetN, tAndV, tOrV, tNotV, tCB, L2.tCons, L2.tNil, tC, tVar, L2.tOp, L2.tUn, tSeq, tAsg, gName, tIfS, tTest, tNext, tAnd, tOr, tNot, L2.tIf, tFld, sFld, sFldAug, tCall, tTup, tB, tAug, tDrop, L2.tSl, tPart, tNoPart, tBM, tBM0, tChain, gTup, gCons, gNil, tPar, tIs, List.set, StX.tStar]
    refine ⟨_, rfl, F.c, C, F.dx, _, _, rfl, at0.c, Z.cl, Z.n6, get_places, .inl ⟨rfl, _, sq⟩, _, rfl, F.dp, _, _, rfl, rfl, at0.dp, (by rw [List.length_map, sizeLine_eq]; omega), ?_⟩
    refine ⟨_, rfl, F.c, C, F.dx, _, _, rfl, at1.c, Z.cl, Z.n6, get_places, F.dp, _, rfl, .inl sq1, rfl, _, rfl, ?_⟩
    have l60 : S.places.length + 1 = 60 := by omega
    have e : ins 0 S ts p = .error (if S.trees = 3000 then [] else S.places ++ [p] ++ [0]) := by
      show into (fun _ _ _ _ => .error []) S ts p = _
      unfold into
      rw [if_pos l60]
    rw [e] at q
    refine if_yes (decide_eq_true (by simp; omega)) ?_
    refine ⟨_, rfl, F.c, C, F.dx, _, _, rfl, at1.c, Z.cl, Z.n1, get_trees, rfl, _, rfl, ?_⟩
    have fin : ∀ (path : List Int) (r : Addr), (if S.trees = 3000 then [] else S.places ++ [p] ++ [0]) = path → (upd H F.dp (.lst (S.places.map V.int ++ [V.int p]))) r = none →
        ∀ d, (upd (upd H F.dp (.lst (S.places.map V.int ++ [V.int p]))) r (.tup (path.map V.int))) d = none → E (.ref IP) (some d) (upd (upd (upd H F.dp (.lst (S.places.map V.int ++ [V.int p]))) r (.tup (path.map V.int))) d (.xd [("path", .ref r)])) := by
      rintro path r rfl nr d nd
      refine q _ d r (Ck.Same.new (Ck.Same.new sm1 nr) nd) upd_same ?_
      rw [upd_ne (ne_of_none upd_same nd), upd_same]
    by_cases tr : S.trees = 3000
    · refine if_yes (decide_eq_true (by rw [tr])) ⟨by decide, fun r nr => ?_⟩
      exact fin [] r (if_pos tr) nr
    · refine if_no (decide_eq_false fun z => tr (V.int.inj z)) ?_
      refine ⟨_, rfl, F.c, C, F.dx, _, _, rfl, at1.c, Z.cl, Z.n6, get_places, F.dp, _, rfl, .inr sq1, (by simp [sizeLine_eq]; omega), fun r nr => ?_⟩
      have f := fin (S.places ++ [p] ++ [0]) r (if_neg tr) nr
      rw [List.map_append] at f
      exact f
  · obtain ⟨m, rfl⟩ : ∃ m, n = m + 1 := ⟨n - 1, by omega⟩
    have GA1 : GAll P w K mg base C IP m j := GA hn
    refine ⟨_, pss_cons (ps_expr (pe_bm PySem.F.plainAttrs_list PySem.F.slot_list_append PySem.F.type_list_append mt_append (pe_fld (pv 0) rfl) (pa_cons (pv 2) pa_nil)))
      (pss_cons (ps_if (pt_cmpR op_eq (pe_callB call_len_seq rfl M.ml PySem.boot_len (pa_cons (pe_fld (pv 0) rfl) pa_nil)) (pe_glob (v := .int 60) rfl lp ⟨_, rfl⟩) (nomark _)) pss_never pss_nil)
      (pss_cons (ps_set (i := 3) scInto.nd rfl (.inl rfl) (pe_goD (E := E) GA1 hr (passes_call (takes_of rfl rfl rfl rfl) fun _ _ _ _ z => z) rfl (pa_cons (pv 0) (pa_cons (pv 1) (pa_cons pe_int pa_nil)))))
      (pss_cons (ps_expr (pe_bm0 PySem.F.plainAttrs_list PySem.F.slot_list_pop PySem.F.type_list_pop mt_pop (pe_fld (pv 0) rfl))) (pss_one (ps_ret (pv 3)))))), ?_⟩
    dsimp only [L2.tRet, L2.tRetN, tAndV, tOrV, tNotV, tCB, L2.tCons, L2.tNil, tC, tVar, L2.tOp, L2.tUn, tSeq, tAsg, gName, tIfS, tTest, tNext, tAnd, tOr, tNot, L2.tIf, tFld, sFld, sFldAug, tCall, tTup, tB, tAug, tDrop, L2.tSl, tPart, tNoPart, tBM, tBM0, tChain, gTup, gCons, gNil, tPar, tIs, List.set]
    refine ⟨_, rfl, F.c, C, F.dx, _, _, rfl, at0.c, Z.cl, Z.n6, get_places, .inl ⟨rfl, _, sq⟩, _, rfl, F.dp, _, _, rfl, rfl, at0.dp, (by rw [List.length_map, sizeLine_eq]; omega), ?_⟩
    refine ⟨_, rfl, F.c, C, F.dx, _, _, rfl, at1.c, Z.cl, Z.n6, get_places, F.dp, _, rfl, .inl sq1, rfl, _, rfl, ?_⟩
    have l60 : ¬ S.places.length + 1 = 60 := by omega
    have e : ins (m + 1) S ts p = behind (fun S' => { S' with places := S'.places.dropLast }) (all m { S with places := S.places ++ [p] } ts 0 0) := by
      show into _ S ts p = _
      unfold into
      rw [if_neg l60]
    rw [e] at q
    refine if_no (decide_eq_false (by intro z; have y := V.int.inj z; simp at y; omega)) ?_
    refine ⟨_, rfl, _, rfl, F, { S with places := S.places ++ [p] }, G, a, xs, ts, 0, rfl, sm1, fr, at1, ⟨ok.lo, ok.hi, ok.cm, ok.va⟩, (by simp; omega), ga, im, ?_⟩
    refine res_to (G := G) (pl := S.places) (Q := Q) (fun _ z => z) (fun e r => ?_) (fun i S' r H2 sm2 at2 ok2 pl => ?_)
    · rw [r] at q
      exact q
    · rw [r] at q
      have pl2 : S'.places = S.places ++ [p] := pl
      have sq2 : SqL K H2 F.dp (S'.places.map V.int) := .inl (.inl at2.dp)
      refine ⟨_, rfl, F.c, C, F.dx, _, _, rfl, at2.c, Z.cl, Z.n6, get_places, .inl ⟨rfl, _, sq2⟩, F.dp, _, .int p, rfl, rfl, at2.dp, (by rw [pl2]; exact places_pop), ?_⟩
      refine ⟨_, rfl, ?_⟩
      have at3 := at2.places S'.places.dropLast
      rw [List.map_dropLast] at at3
      refine q _ (Ck.Same.up sm2 fr.dp) at3 ⟨ok2.lo, ok2.hi, ok2.cm, ok2.va⟩ ?_
      show S'.places.dropLast = S.places
      rw [pl2, List.dropLast_concat]

abbrev sBar : Stmt := topS 23
theorem scBar : FnScope ["check", "parts", "place", "loops", "returns", "size"] ["check", "parts", "place"] (defScope sBar) := ⟨rfl, rfl, rfl, by decide +kernel, rfl, by decide +kernel, by decide +kernel⟩
theorem ok_bar {n j : Nat} {f : Addr} {fd : FuncData} (F0 : Fun K "size_behind_barrier" "size_behind_barrier" sBar f fd) (M : Md K mg w dR dS adr) (Z : Mc P K mg C IP fI) (GA : GInto P w K mg base C IP n j) : FnD P w K mg base (L2.CX P w) (j + 1) f fd ["check", "parts", "place"] (spBar K C IP n) := by
  refine okXD F0 scBar (fun vs H Q E h => ?_) (fun cdv A outer s H vs Q E hr h => ?_)
  · obtain ⟨_, _, _, _, _, _, _, rfl, _⟩ := h
    rfl
  obtain ⟨F, S, G, a, xs, ts, p, rfl, sm, fr, at0, ok, lv, ga, im, q⟩ := h
  refine ⟨_, pss_cons (ps_set (i := 3) scBar.nd rfl (.inl rfl) (pe_fld (pv 0) rfl)) (pss_cons (ps_set (i := 4) scBar.nd rfl (.inl rfl) (pe_fld (pv 0) rfl)) (pss_cons (ps_fld (pv 0) pe_int rfl) (pss_cons (ps_fld (pv 0) pe_bl rfl)
    (pss_cons (ps_set (i := 5) scBar.nd rfl (.inl rfl) (pe_goD (E := E) GA hr (passes_call (takes_of rfl rfl rfl rfl) fun _ _ _ _ z => z) rfl (pa_cons (pv 0) (pa_cons (pv 1) (pa_cons (pv 2) pa_nil)))))
    (pss_cons (ps_fld (pv 0) (pv 3) rfl) (pss_cons (ps_fld (pv 0) (pv 4) rfl) (pss_one (ps_ret (pv 5))))))))), ?_⟩
  dsimp only [L2.tRet, L2.tRetN, tAndV, tOrV, tNotV, tCB, L2.tCons, L2.tNil, tC, tVar, L2.tOp, L2.tUn, tSeq, tAsg, gName, tIfS, tTest, tNext, tAnd, tOr, tNot, L2.tIf, tFld, sFld, sFldAug, tCall, tTup, tB, tAug, tDrop, L2.tSl, tPart, tNoPart, tBM, tBM0, tChain, gTup, gCons, gNil, tPar, tIs, List.set]
  refine ⟨_, rfl, F.c, C, F.dx, _, _, rfl, at0.c, Z.cl, Z.n7, get_loops, ?_⟩
  refine ⟨_, rfl, F.c, C, F.dx, _, _, rfl, at0.c, Z.cl, Z.n8, get_rets, ?_⟩
  have at1 := at0.set (S' := { S with loops := 0 }) put_loops rfl rfl rfl rfl
  refine ⟨_, rfl, F.c, C, F.dx, _, rfl, at0.c, Z.cl, Z.n7, few F S, ?_⟩
  have at2 := at1.set (S' := { S with loops := 0, rets := false }) put_rets rfl rfl rfl rfl
  refine ⟨_, rfl, F.c, C, F.dx, _, rfl, at1.c, Z.cl, Z.n8, few F _, ?_⟩
  have sm2 := Ck.Same.up (o := .ins C F.dx (putF "returns" (.bl false) (flds F { S with loops := 0 }))) (Ck.Same.up (o := .ins C F.dx (putF "loops" (.int 0) (flds F S))) sm fr.c) fr.c
  refine ⟨_, rfl, _, rfl, _, rfl, F, { S with loops := 0, rets := false }, G, a, xs, ts, p, rfl, sm2, fr, at2, ⟨ok.lo, ok.hi, ok.cm, ok.va⟩, lv, ga, im, ?_⟩
  have qq : Res C IP F G S.places (behind (fun S' => { S' with loops := S.loops, rets := S.rets }) (ins n { S with loops := 0, rets := false } ts p)) Q E := q
  refine res_to (G := G) (pl := S.places) (Q := Q) (fun _ z => z) (fun e r => ?_) (fun i S' r H2 sm2 at2 ok2 pl => ?_)
  · rw [r] at qq
    exact qq
  · rw [r] at qq
    have at3 := at2.set (S' := { S' with loops := S.loops }) put_loops rfl rfl rfl rfl
    refine ⟨_, rfl, _, rfl, F.c, C, F.dx, _, rfl, at2.c, Z.cl, Z.n7, few F _, ?_⟩
    have at4 := at3.set (S' := { S' with loops := S.loops, rets := S.rets }) put_rets rfl rfl rfl rfl
    refine ⟨_, rfl, _, rfl, F.c, C, F.dx, _, rfl, at3.c, Z.cl, Z.n8, few F _, ?_⟩
    refine ⟨_, rfl, ?_⟩
    exact qq _ (Ck.Same.up (Ck.Same.up sm2 fr.c) fr.c) at4 ⟨ok2.lo, ok2.hi, ok2.cm, ok2.va⟩ pl

theorem keep_left {G : Hp} {r : Addr} {o : HO} (n : G r = none) : ∀ H', Same (upd G r o) H' → Same G H' := fun _ z => Ck.Same.left z n
/-- one more than the inner size -/
theorem inc_to {F : Foot} {G G1 : Hp} {S0 : CS} {r : R} {Q Q' : VK} {E : XK} (h : ∀ H', Same G1 H' → Same G H') (q : Res C IP F G S0.places (inc r) Q E) (ho : ∀ i H', Q (.int (1 + i)) H' → Q' (.int i) H') : Res C IP F G1 S0.places r Q' E := by
  refine res_to (G := G) (pl := S0.places) (Q := Q) h (fun e z => ?_) (fun i S' z H2 sm2 at2 ok2 pl => ?_)
  · rw [z] at q
    exact q
  · rw [z] at q
    exact ho i H2 (q H2 (h H2 sm2) at2 ok2 pl)
abbrev GHp (P : Program) (w : World) (K : PySem.W.Frag) (mg : Str → Option Value) (base : Heap) : Prop := Go P w K mg base CX0 1 "has_parts" ["tree"] (spHp K)
theorem hp_of {H : Hp} {xs : List V} {ts : List T} (im : Ims K H xs ts) (e : hasParts ts = true) : ∃ x0 t0 b ys ps, xs = [x0, .ref b] ∧ ts = [t0, .tup ps] ∧ H b = some (.tup ys) ∧ Ims K H ys ps ∧ 2 ≤ ps.length := by
  rcases im with _ | ⟨i0, _ | ⟨i1, _ | ⟨i2, r⟩⟩⟩
  · simp [hasParts] at e
  · simp [hasParts] at e
  · cases i1 with
    | tup hb ip => exact ⟨_, _, _, _, _, rfl, rfl, hb, ip, of_decide_eq_true e⟩
    | _ => simp [hasParts] at e
  · simp [hasParts] at e

abbrev sSeq : Stmt := topS 32
theorem scSeq : FnScope ["check", "tree", "place"] ["check", "tree", "place"] (defScope sSeq) := ⟨rfl, rfl, rfl, by decide +kernel, rfl, by decide +kernel, by decide +kernel⟩
theorem ok_Seq {n : Nat} {f : Addr} {fd : FuncData} (F0 : Fun K "size_of_seq" "size_of_seq" sSeq f fd) (M : Md K mg w dR dS adr) (Z : Mc P K mg C IP fI) {j : Nat} (hj : 1 ≤ j) (GP : GHp P w K mg base) (GA : GInto P w K mg base C IP n j) : FnD P w K mg base (L2.CX P w) (j + 1) f fd ["check", "tree", "place"] (spAct K C IP n .seq) := by
  refine okXD F0 scSeq (fun vs H Q E h => ?_) (fun cdv A outer s H vs Q E hr h => ?_)
  · obtain ⟨_, _, _, _, _, _, _, rfl, _⟩ := h
    rfl
  obtain ⟨F, S, G, a, xs, ts, p, rfl, sm, fr, at0, ok, lv, ga, im, q⟩ := h
  have hu := hu_of hr.low
  have ha := sqt (K := K) (sm _ _ ga)

  refine ⟨_, pss_one (ps_ret (pe_ifExp (pt_val (pe_go GP (hr.low.mono (by decide)) pass0 rfl (pa_cons (pv 1) pa_nil))) (pe_op op_add pe_int (pe_goD (E := E) GA hr (passes_call (takes_of rfl rfl rfl rfl) fun _ _ _ _ z => z) rfl (pa_cons (pv 0) (pa_cons (pe_ix ix_tup (pv 1) pe_int fun _ _ => rfl) (pa_cons (pv 2) pa_nil))))) pe_int)), ?_⟩
  dsimp only [L2.tRet, L2.tRetN, tAndV, tOrV, tNotV, tCB, L2.tCons, L2.tNil, tC, tVar, L2.tOp, L2.tUn, tSeq, tAsg, gName, tIfS, tTest, tNext, tAnd, tOr, tNot, L2.tIf, tFld, sFld, sFldAug, tCall, tTup, tB, tAug, tDrop, L2.tSl, tPart, tNoPart, tBM, tBM0, tChain, gTup, gCons, gNil, tPar, tIs, List.set]
  refine ⟨_, rfl, a, xs, ts, rfl, sm _ _ ga, im.mono sm, _, rfl, ?_⟩
  cases e : hasParts ts with
  | false =>
    have z : act (ins n) .seq S ts p = .ok (0, S) := by
      rcases ts with _ | ⟨t0, _ | ⟨t1, _ | ⟨t2, r⟩⟩⟩ <;> first | rfl | (cases t1 <;> first | rfl | (show (if 2 ≤ _ then _ else _) = _; rw [if_neg (of_decide_eq_false e)]))
    rw [z] at q
    exact if_no rfl (res0 q sm at0 ok.ok)
  | true =>
    obtain ⟨x0, t0, b, ys, ps, rfl, rfl, hb, ip, two⟩ := hp_of im e
    have z : act (ins n) .seq S [t0, .tup ps] p = inc (ins n S ps p) := by
      show (if 2 ≤ ps.length then _ else _) = _
      rw [if_pos two]
    rw [z] at q
    refine if_yes rfl ?_
    refine ⟨_, rfl, _, rfl, a, _, _, _, rfl, rfl, ha, rfl, _, rfl, F, S, G, b, ys, ps, p, rfl, sm, fr, at0, ok.ok, lv, hb, ip, ?_⟩
    exact inc_to (fun _ z => z) q fun i H' y => ⟨_, _, rfl, rfl, y⟩

abbrev sPip : Stmt := topS 33
theorem scPip : FnScope ["check", "tree", "place"] ["check", "tree", "place"] (defScope sPip) := ⟨rfl, rfl, rfl, by decide +kernel, rfl, by decide +kernel, by decide +kernel⟩
theorem ok_Pip {n : Nat} {f : Addr} {fd : FuncData} (F0 : Fun K "size_of_pipe" "size_of_pipe" sPip f fd) (M : Md K mg w dR dS adr) (Z : Mc P K mg C IP fI) {j : Nat} (hj : 1 ≤ j) (GP : GHp P w K mg base) (GA : GBar P w K mg base C IP n j) : FnD P w K mg base (L2.CX P w) (j + 1) f fd ["check", "tree", "place"] (spAct K C IP n .pipe) := by
  refine okXD F0 scPip (fun vs H Q E h => ?_) (fun cdv A outer s H vs Q E hr h => ?_)
  · obtain ⟨_, _, _, _, _, _, _, rfl, _⟩ := h
    rfl
  obtain ⟨F, S, G, a, xs, ts, p, rfl, sm, fr, at0, ok, lv, ga, im, q⟩ := h
  have hu := hu_of hr.low
  have ha := sqt (K := K) (sm _ _ ga)

  refine ⟨_, pss_one (ps_ret (pe_ifExp (pt_val (pe_go GP (hr.low.mono (by decide)) pass0 rfl (pa_cons (pv 1) pa_nil))) (pe_op op_add pe_int (pe_goD (E := E) GA hr (passes_call (takes_of rfl rfl rfl rfl) fun _ _ _ _ z => z) rfl (pa_cons (pv 0) (pa_cons (pe_ix ix_tup (pv 1) pe_int fun _ _ => rfl) (pa_cons (pv 2) pa_nil))))) pe_int)), ?_⟩
  dsimp only [L2.tRet, L2.tRetN, tAndV, tOrV, tNotV, tCB, L2.tCons, L2.tNil, tC, tVar, L2.tOp, L2.tUn, tSeq, tAsg, gName, tIfS, tTest, tNext, tAnd, tOr, tNot, L2.tIf, tFld, sFld, sFldAug, tCall, tTup, tB, tAug, tDrop, L2.tSl, tPart, tNoPart, tBM, tBM0, tChain, gTup, gCons, gNil, tPar, tIs, List.set]
  refine ⟨_, rfl, a, xs, ts, rfl, sm _ _ ga, im.mono sm, _, rfl, ?_⟩
  cases e : hasParts ts with
  | false =>
    have z : act (ins n) .pipe S ts p = .ok (0, S) := by
      rcases ts with _ | ⟨t0, _ | ⟨t1, _ | ⟨t2, r⟩⟩⟩ <;> first | rfl | (cases t1 <;> first | rfl | (show (if 2 ≤ _ then _ else _) = _; rw [if_neg (of_decide_eq_false e)]))
    rw [z] at q
    exact if_no rfl (res0 q sm at0 ok.ok)
  | true =>
    obtain ⟨x0, t0, b, ys, ps, rfl, rfl, hb, ip, two⟩ := hp_of im e
    have z : act (ins n) .pipe S [t0, .tup ps] p = inc (barrier (ins n) S ps p) := by
      show (if 2 ≤ ps.length then _ else _) = _
      rw [if_pos two]
    rw [z] at q
    refine if_yes rfl ?_
    refine ⟨_, rfl, _, rfl, a, _, _, _, rfl, rfl, ha, rfl, _, rfl, F, S, G, b, ys, ps, p, rfl, sm, fr, at0, ok.ok, lv, hb, ip, ?_⟩
    exact inc_to (fun _ z => z) q fun i H' y => ⟨_, _, rfl, rfl, y⟩

abbrev sAnd : Stmt := topS 34
theorem scAnd : FnScope ["check", "tree", "place"] ["check", "tree", "place"] (defScope sAnd) := ⟨rfl, rfl, rfl, by decide +kernel, rfl, by decide +kernel, by decide +kernel⟩
theorem ok_And {n : Nat} {f : Addr} {fd : FuncData} (F0 : Fun K "size_of_and_or" "size_of_and_or" sAnd f fd) (M : Md K mg w dR dS adr) (Z : Mc P K mg C IP fI) {j : Nat} (hj : 1 ≤ j) (GA : GInto P w K mg base C IP n j) : FnD P w K mg base (L2.CX P w) (j + 1) f fd ["check", "tree", "place"] (spAct K C IP n .andor) := by
  refine okXD F0 scAnd (fun vs H Q E h => ?_) (fun cdv A outer s H vs Q E hr h => ?_)
  · obtain ⟨_, _, _, _, _, _, _, rfl, _⟩ := h
    rfl
  obtain ⟨F, S, G, a, xs, ts, p, rfl, sm, fr, at0, ok, lv, ga, im, q⟩ := h
  have hu := hu_of hr.low
  have ha := sqt (K := K) (sm _ _ ga)

  refine ⟨_, pss_one (ps_ret (pe_ifExp (pt_cmpR op_eq (pe_callB call_len_seq rfl M.ml PySem.boot_len (pa_cons (pv 1) pa_nil)) pe_int (nomark _)) (pe_op op_add pe_int (pe_goD (E := E) GA hr (passes_call (takes_of rfl rfl rfl rfl) fun _ _ _ _ z => z) rfl (pa_cons (pv 0) (pa_cons (pe_slice sl_tup (pv 1) (po_some pe_int) po_none) (pa_cons (pv 2) pa_nil))))) pe_int)), ?_⟩
  dsimp only [L2.tRet, L2.tRetN, tAndV, tOrV, tNotV, tCB, L2.tCons, L2.tNil, tC, tVar, L2.tOp, L2.tUn, tSeq, tAsg, gName, tIfS, tTest, tNext, tAnd, tOr, tNot, L2.tIf, tFld, sFld, sFldAug, tCall, tTup, tB, tAug, tDrop, L2.tSl, tPart, tNoPart, tBM, tBM0, tChain, gTup, gCons, gNil, tPar, tIs, List.set]
  refine ⟨_, rfl, a, xs, rfl, .inr ha, rfl, _, rfl, ?_⟩
  rcases three im with ⟨x0, x1, x2, t0, t1, t2, rfl, rfl, i0, i1, i2⟩ | ⟨c, nt⟩
  · refine if_yes rfl ?_
    refine ⟨_, rfl, _, rfl, 1, rfl, a, _, rfl, ha, (by show ¬ (HT.sIx 3 0 (some 1) = 0 ∧ HT.sIx 3 3 none = 3); decide), fun r nr => ?_⟩
    have nG := Ck.Same.non sm nr
    have im1 : Ims K G [x1, x2] [t1, t2] := (.cons i1 (.cons i2 .nil))
    refine ⟨_, rfl, F, S, upd G r (.tup [x1, x2]), r, [x1, x2], [t1, t2], p, rfl, Ck.Same.both sm, fr.new at0 nr, at0.new nr, ok.ok, lv, upd_same, im1.mono (Ck.Same.new (fun _ _ z => z) nG), ?_⟩
    exact inc_to (keep_left nG) q fun i H' y => ⟨_, _, rfl, rfl, y⟩
  · have e : act (ins n) .andor S ts p = .ok (0, S) := by
      rcases ts with _ | ⟨t0, _ | ⟨t1, _ | ⟨t2, _ | ⟨t3, r⟩⟩⟩⟩ <;> first | rfl | exact absurd rfl (nt _ _ _)
    rw [e] at q
    exact if_no (len_ne c) (res0 q sm at0 ok.ok)

abbrev sNot : Stmt := topS 35
theorem scNot : FnScope ["check", "tree", "place"] ["check", "tree", "place"] (defScope sNot) := ⟨rfl, rfl, rfl, by decide +kernel, rfl, by decide +kernel, by decide +kernel⟩
theorem ok_Not {n : Nat} {f : Addr} {fd : FuncData} (F0 : Fun K "size_of_not" "size_of_not" sNot f fd) (M : Md K mg w dR dS adr) (Z : Mc P K mg C IP fI) {j : Nat} (hj : 1 ≤ j) (GA : GInto P w K mg base C IP n j) : FnD P w K mg base (L2.CX P w) (j + 1) f fd ["check", "tree", "place"] (spAct K C IP n .not) := by
  refine okXD F0 scNot (fun vs H Q E h => ?_) (fun cdv A outer s H vs Q E hr h => ?_)
  · obtain ⟨_, _, _, _, _, _, _, rfl, _⟩ := h
    rfl
  obtain ⟨F, S, G, a, xs, ts, p, rfl, sm, fr, at0, ok, lv, ga, im, q⟩ := h
  have hu := hu_of hr.low
  have ha := sqt (K := K) (sm _ _ ga)

  refine ⟨_, pss_one (ps_ret (pe_ifExp (pt_cmpR op_eq (pe_callB call_len_seq rfl M.ml PySem.boot_len (pa_cons (pv 1) pa_nil)) pe_int (nomark _)) (pe_op op_add pe_int (pe_goD (E := E) GA hr (passes_call (takes_of rfl rfl rfl rfl) fun _ _ _ _ z => z) rfl (pa_cons (pv 0) (pa_cons (pe_slice sl_tup (pv 1) (po_some pe_int) po_none) (pa_cons (pv 2) pa_nil))))) pe_int)), ?_⟩
  dsimp only [L2.tRet, L2.tRetN, tAndV, tOrV, tNotV, tCB, L2.tCons, L2.tNil, tC, tVar, L2.tOp, L2.tUn, tSeq, tAsg, gName, tIfS, tTest, tNext, tAnd, tOr, tNot, L2.tIf, tFld, sFld, sFldAug, tCall, tTup, tB, tAug, tDrop, L2.tSl, tPart, tNoPart, tBM, tBM0, tChain, gTup, gCons, gNil, tPar, tIs, List.set]
  refine ⟨_, rfl, a, xs, rfl, .inr ha, rfl, _, rfl, ?_⟩
  rcases two im with ⟨x0, x1, t0, t1, rfl, rfl, i0, i1⟩ | ⟨c, nt⟩
  · refine if_yes rfl ?_
    refine ⟨_, rfl, _, rfl, 1, rfl, a, _, rfl, ha, (by show ¬ (HT.sIx 2 0 (some 1) = 0 ∧ HT.sIx 2 2 none = 2); decide), fun r nr => ?_⟩
    have nG := Ck.Same.non sm nr
    have im1 : Ims K G [x1] [t1] := (.cons i1 .nil)
    refine ⟨_, rfl, F, S, upd G r (.tup [x1]), r, [x1], [t1], p, rfl, Ck.Same.both sm, fr.new at0 nr, at0.new nr, ok.ok, lv, upd_same, im1.mono (Ck.Same.new (fun _ _ z => z) nG), ?_⟩
    exact inc_to (keep_left nG) q fun i H' y => ⟨_, _, rfl, rfl, y⟩
  · have e : act (ins n) .not S ts p = .ok (0, S) := by
      rcases ts with _ | ⟨t0, _ | ⟨t1, _ | ⟨t2, r⟩⟩⟩ <;> first | rfl | exact absurd rfl (nt _ _)
    rw [e] at q
    exact if_no (len_ne c) (res0 q sm at0 ok.ok)

abbrev sSub : Stmt := topS 36
theorem scSub : FnScope ["check", "tree", "place"] ["check", "tree", "place"] (defScope sSub) := ⟨rfl, rfl, rfl, by decide +kernel, rfl, by decide +kernel, by decide +kernel⟩
theorem ok_Sub {n : Nat} {f : Addr} {fd : FuncData} (F0 : Fun K "size_of_sub" "size_of_sub" sSub f fd) (M : Md K mg w dR dS adr) (Z : Mc P K mg C IP fI) {j : Nat} (hj : 1 ≤ j) (GA : GBar P w K mg base C IP n j) : FnD P w K mg base (L2.CX P w) (j + 1) f fd ["check", "tree", "place"] (spAct K C IP n .sub) := by
  refine okXD F0 scSub (fun vs H Q E h => ?_) (fun cdv A outer s H vs Q E hr h => ?_)
  · obtain ⟨_, _, _, _, _, _, _, rfl, _⟩ := h
    rfl
  obtain ⟨F, S, G, a, xs, ts, p, rfl, sm, fr, at0, ok, lv, ga, im, q⟩ := h
  have hu := hu_of hr.low
  have ha := sqt (K := K) (sm _ _ ga)

  refine ⟨_, pss_one (ps_ret (pe_ifExp (pt_cmpR op_eq (pe_callB call_len_seq rfl M.ml PySem.boot_len (pa_cons (pv 1) pa_nil)) pe_int (nomark _)) (pe_op op_add pe_int (pe_goD (E := E) GA hr (passes_call (takes_of rfl rfl rfl rfl) fun _ _ _ _ z => z) rfl (pa_cons (pv 0) (pa_cons (pe_slice sl_tup (pv 1) (po_some pe_int) po_none) (pa_cons (pv 2) pa_nil))))) pe_int)), ?_⟩
  dsimp only [L2.tRet, L2.tRetN, tAndV, tOrV, tNotV, tCB, L2.tCons, L2.tNil, tC, tVar, L2.tOp, L2.tUn, tSeq, tAsg, gName, tIfS, tTest, tNext, tAnd, tOr, tNot, L2.tIf, tFld, sFld, sFldAug, tCall, tTup, tB, tAug, tDrop, L2.tSl, tPart, tNoPart, tBM, tBM0, tChain, gTup, gCons, gNil, tPar, tIs, List.set]
  refine ⟨_, rfl, a, xs, rfl, .inr ha, rfl, _, rfl, ?_⟩
  rcases two im with ⟨x0, x1, t0, t1, rfl, rfl, i0, i1⟩ | ⟨c, nt⟩
  · refine if_yes rfl ?_
    refine ⟨_, rfl, _, rfl, 1, rfl, a, _, rfl, ha, (by show ¬ (HT.sIx 2 0 (some 1) = 0 ∧ HT.sIx 2 2 none = 2); decide), fun r nr => ?_⟩
    have nG := Ck.Same.non sm nr
    have im1 : Ims K G [x1] [t1] := (.cons i1 .nil)
    refine ⟨_, rfl, F, S, upd G r (.tup [x1]), r, [x1], [t1], p, rfl, Ck.Same.both sm, fr.new at0 nr, at0.new nr, ok.ok, lv, upd_same, im1.mono (Ck.Same.new (fun _ _ z => z) nG), ?_⟩
    exact inc_to (keep_left nG) q fun i H' y => ⟨_, _, rfl, rfl, y⟩
  · have e : act (ins n) .sub S ts p = .ok (0, S) := by
      rcases ts with _ | ⟨t0, _ | ⟨t1, _ | ⟨t2, r⟩⟩⟩ <;> first | rfl | exact absurd rfl (nt _ _)
    rw [e] at q
    exact if_no (len_ne c) (res0 q sm at0 ok.ok)

end
end Ck

/-! Traps, ifs, loops; trees side by side. -/
namespace Ck
open PySem PySem.Spec PyProof.Rows L2 PySem.ErrKw
section
variable {P : Program} {w : World} {K : PySem.W.Frag} {mg : Str → Option Value} {base : Heap} {dR dS : Addr} {adr : Kind → Addr} {C IP fI : Addr}

abbrev sTra : Stmt := topS 31
theorem scTra : FnScope ["check", "tree", "place"] ["check", "tree", "place"] (defScope sTra) := ⟨rfl, rfl, rfl, by decide +kernel, rfl, by decide +kernel, by decide +kernel⟩
theorem ok_Tra {n : Nat} {f : Addr} {fd : FuncData} (F0 : Fun K "size_of_trap" "size_of_trap" sTra f fd) (M : Md K mg w dR dS adr) (Z : Mc P K mg C IP fI) {j : Nat} (GA : GBar P w K mg base C IP n j) : FnD P w K mg base (L2.CX P w) (j + 1) f fd ["check", "tree", "place"] (spAct K C IP n .trap) := by
  refine okXD F0 scTra (fun vs H Q E h => ?_) (fun cdv A outer s H vs Q E hr h => ?_)
  · obtain ⟨_, _, _, _, _, _, _, rfl, _⟩ := h
    rfl
  obtain ⟨F, S, G, a, xs, ts, p, rfl, sm, fr, at0, ok, lv, ga, im, q⟩ := h
  have hu := hu_of hr.low
  have ha := sqt (K := K) (sm _ _ ga)

  refine ⟨_, pss_cons (ps_if (PW.pt (pw_or (pt_cmpR op_ne (pe_callB call_len_seq rfl M.ml PySem.boot_len (pa_cons (pv 1) pa_nil)) pe_int (nomark _)) (pw_or (pt_not (pt_val (pe_is (n := "str") M.mi M.mstr (by decide +kernel) rfl rfl (pe_ix ix_tup (pv 1) pe_int fun _ _ => rfl)))) (pw_or1 (pt_cmpR op_notIn_seq (pe_ix ix_tup (pv 1) pe_int fun _ _ => rfl) (pe_tup (pa_cons pe_str (pa_cons pe_str pa_nil))) (by rfl)))))) (pss_one (ps_ret pe_int)) pss_nil)
    (pss_one (ps_ret (pe_ifExp (pt_cmpR op_isN (pe_ix ix_tup (pv 1) pe_int fun _ _ => rfl) pe_non (nomark _)) pe_int (pe_op op_add pe_int (pe_goD (E := E) GA hr (passes_call (takes_of rfl rfl rfl rfl) fun _ _ _ _ z => z) rfl (pa_cons (pv 0) (pa_cons (pe_slice sl_tup (pv 1) (po_some pe_int) po_none) (pa_cons (pv 2) pa_nil)))))))), ?_⟩
  dsimp only [L2.tRet, L2.tRetN, tAndV, tOrV, tNotV, tCB, L2.tCons, L2.tNil, tC, tVar, L2.tOp, L2.tUn, tSeq, tAsg, gName, tIfS, tTest, tNext, tAnd, tOr, tNot, L2.tIf, tFld, sFld, sFldAug, tCall, tTup, tB, tAug, tDrop, L2.tSl, tPart, tNoPart, tBM, tBM0, tChain, gTup, gCons, gNil, tPar, tIs, List.set]
  refine ⟨_, rfl, a, xs, rfl, .inr ha, rfl, _, rfl, ?_⟩
  rcases three im with ⟨x0, x1, x2, t0, t1, t2, rfl, rfl, i0, i1, i2⟩ | ⟨c, nt⟩
  · refine if_no rfl ?_
    refine ⟨_, rfl, a, _, _, _, rfl, rfl, ha, rfl, is_str (i1.mono sm) ⟨_, rfl, ?_⟩⟩
    cases e1 : isSt t1 with
    | false =>
      have z : act (ins n) .trap S [t0, t1, t2] p = .ok (0, S) := by cases t1 <;> first | rfl | simp [isSt] at e1
      rw [z] at q
      exact if_yes rfl (if_yes rfl (res0 q sm at0 ok.ok))
    | true =>
      refine if_no rfl ?_
      obtain ⟨z, rfl, rfl⟩ := str_of i1 e1
      refine ⟨_, rfl, a, _, _, _, rfl, rfl, ha, rfl, (by decide), fun r nr => ?_⟩
      have sm1 := Ck.Same.new (o := .tup [V.str "end", V.str "fail"]) sm nr
      have at1 := at0.new (o := .tup [V.str "end", V.str "fail"]) nr
      have ha1 : SqT K (upd H r (.tup [V.str "end", V.str "fail"])) a [x0, .str z, x2] := sqt (sm1 _ _ ga)
      refine ⟨r, _, rfl, .inr (sqt upd_same), rfl, rfl, _, rfl, ?_⟩
      have qq : Res C IP F G S.places (if z = "end" ∨ z = "fail" then (if isNon t2 then .ok (1, S) else inc (barrier (ins n) S [t2] p)) else .ok (0, S)) Q E := q
      have iv : inV (V.str z) [V.str "end", V.str "fail"] = decide (z = "end" ∨ z = "fail") := by
        unfold inV
        by_cases y1 : z = "end"
        · simp [y1, eqV]
        · by_cases y2 : z = "fail"
          · simp [y2, eqV]
          · have z1 : ¬ ("end" : Str) = z := fun h => y1 h.symm
            have z2 : ¬ ("fail" : Str) = z := fun h => y2 h.symm
            simp [y1, y2, z1, z2, eqV]
      rw [iv]
      by_cases y : z = "end" ∨ z = "fail"
      · rw [if_pos y] at qq
        refine if_no (by rw [decide_eq_true y]; rfl) ?_
        refine ⟨_, rfl, a, _, _, _, rfl, rfl, ha1, rfl, rfl, _, rfl, ?_⟩
        rw [non_is i2]
        cases e2 : isNon t2 with
        | true =>
          rw [e2, if_pos rfl] at qq
          exact if_yes rfl (res0 qq sm1 at1 ok.ok)
        | false =>
          rw [e2, if_neg Bool.false_ne_true] at qq
          refine if_no rfl ?_
          refine ⟨_, rfl, _, rfl, 2, rfl, a, _, rfl, ha1, (by show ¬ (HT.sIx 3 0 (some 2) = 0 ∧ HT.sIx 3 3 none = 3); decide), fun r2 nr2 => ?_⟩
          have nG := Ck.Same.non sm1 nr2
          refine ⟨_, rfl, F, S, upd G r2 (.tup [x2]), r2, [x2], [t2], p, rfl, Ck.Same.both sm1, fr.new at1 nr2, at1.new nr2, ok.ok, lv, upd_same, (Ims.cons i2 .nil).mono (Ck.Same.new (fun _ _ z => z) nG), ?_⟩
          exact inc_to (keep_left nG) qq fun i H' y => ⟨_, _, rfl, rfl, y⟩
      · rw [if_neg y] at qq
        exact if_yes (by rw [decide_eq_false y]; rfl) (res0 qq sm1 at1 ok.ok)
  · have e : act (ins n) .trap S ts p = .ok (0, S) := by
      rcases ts with _ | ⟨t0, _ | ⟨t1, _ | ⟨t2, _ | ⟨t3, r⟩⟩⟩⟩ <;> first | rfl | exact absurd rfl (nt _ _ _) | (cases t1 <;> rfl)
    rw [e] at q
    exact if_yes (len_not c) (if_yes rfl (res0 q sm at0 ok.ok))

abbrev sIff : Stmt := topS 37
theorem scIff : FnScope ["check", "tree", "place"] ["check", "tree", "place"] (defScope sIff) := ⟨rfl, rfl, rfl, by decide +kernel, rfl, by decide +kernel, by decide +kernel⟩
theorem ok_Iff {n : Nat} {f : Addr} {fd : FuncData} (F0 : Fun K "size_of_if" "size_of_if" sIff f fd) (M : Md K mg w dR dS adr) (Z : Mc P K mg C IP fI) {j : Nat} (GA : GInto P w K mg base C IP n j) : FnD P w K mg base (L2.CX P w) (j + 1) f fd ["check", "tree", "place"] (spAct K C IP n .ife) := by
  refine okXD F0 scIff (fun vs H Q E h => ?_) (fun cdv A outer s H vs Q E hr h => ?_)
  · obtain ⟨_, _, _, _, _, _, _, rfl, _⟩ := h
    rfl
  obtain ⟨F, S, G, a, xs, ts, p, rfl, sm, fr, at0, ok, lv, ga, im, q⟩ := h
  have hu := hu_of hr.low
  have ha := sqt (K := K) (sm _ _ ga)

  refine ⟨_, pss_cons (ps_if (pt_cmpR op_ne (pe_callB call_len_seq rfl M.ml PySem.boot_len (pa_cons (pv 1) pa_nil)) pe_int (nomark _)) (pss_one (ps_ret pe_int)) pss_nil)
    (pss_one (ps_ret (pe_op op_add pe_int (pe_goD (E := E) GA hr (passes_call (takes_of rfl rfl rfl rfl) fun _ _ _ _ z => z) rfl (pa_cons (pv 0) (pa_cons (pe_ifExp (pt_cmpR op_isN (pe_ix ix_tup (pv 1) pe_int fun _ _ => rfl) pe_non (nomark _)) (pe_slice sl_tup (pv 1) (po_some pe_int) (po_some pe_int)) (pe_slice sl_tup (pv 1) (po_some pe_int) po_none)) (pa_cons (pv 2) pa_nil))))))), ?_⟩
  dsimp only [L2.tRet, L2.tRetN, tAndV, tOrV, tNotV, tCB, L2.tCons, L2.tNil, tC, tVar, L2.tOp, L2.tUn, tSeq, tAsg, gName, tIfS, tTest, tNext, tAnd, tOr, tNot, L2.tIf, tFld, sFld, sFldAug, tCall, tTup, tB, tAug, tDrop, L2.tSl, tPart, tNoPart, tBM, tBM0, tChain, gTup, gCons, gNil, tPar, tIs, List.set]
  refine ⟨_, rfl, a, xs, rfl, .inr ha, rfl, _, rfl, ?_⟩
  rcases four im with ⟨x0, x1, x2, x3, t0, t1, t2, t3, rfl, rfl, i0, i1, i2, i3⟩ | ⟨c, nt⟩
  · refine if_no rfl ?_
    refine ⟨_, rfl, _, rfl, a, _, _, _, rfl, rfl, ha, rfl, rfl, _, rfl, ?_⟩
    rw [non_is i3]
    have qq : Res C IP F G S.places (inc (ins n S (if isNon t3 = true then [t1, t2] else [t1, t2, t3]) p)) Q E := q
    cases e2 : isNon t3 with
    | true =>
      rw [e2, if_pos rfl] at qq
      refine if_yes rfl ?_
      refine ⟨_, rfl, 1, rfl, 3, rfl, a, _, rfl, ha, (by show ¬ (HT.sIx 4 0 (some 1) = 0 ∧ HT.sIx 4 4 (some 3) = 4); decide), fun r nr => ?_⟩
      have nG := Ck.Same.non sm nr
      refine ⟨_, rfl, F, S, upd G r (.tup [x1, x2]), r, [x1, x2], [t1, t2], p, rfl, Ck.Same.both sm, fr.new at0 nr, at0.new nr, ok.ok, lv, upd_same, (Ims.cons i1 (.cons i2 .nil)).mono (Ck.Same.new (fun _ _ z => z) nG), ?_⟩
      exact inc_to (keep_left nG) qq fun i H' y => ⟨_, _, rfl, rfl, y⟩
    | false =>
      rw [e2, if_neg Bool.false_ne_true] at qq
      refine if_no rfl ?_
      refine ⟨_, rfl, 1, rfl, a, _, rfl, ha, (by show ¬ (HT.sIx 4 0 (some 1) = 0 ∧ HT.sIx 4 4 none = 4); decide), fun r nr => ?_⟩
      have nG := Ck.Same.non sm nr
      refine ⟨_, rfl, F, S, upd G r (.tup [x1, x2, x3]), r, [x1, x2, x3], [t1, t2, t3], p, rfl, Ck.Same.both sm, fr.new at0 nr, at0.new nr, ok.ok, lv, upd_same, (Ims.cons i1 (.cons i2 (.cons i3 .nil))).mono (Ck.Same.new (fun _ _ z => z) nG), ?_⟩
      exact inc_to (keep_left nG) qq fun i H' y => ⟨_, _, rfl, rfl, y⟩
  · have e : act (ins n) .ife S ts p = .ok (0, S) := by
      rcases ts with _ | ⟨t0, _ | ⟨t1, _ | ⟨t2, _ | ⟨t3, _ | ⟨t4, r⟩⟩⟩⟩⟩ <;> first | rfl | exact absurd rfl (nt _ _ _ _)
    rw [e] at q
    exact if_yes (len_not c) (res0 q sm at0 ok.ok)

abbrev sWhi : Stmt := topS 38
theorem scWhi : FnScope ["check", "tree", "place", "size"] ["check", "tree", "place"] (defScope sWhi) := ⟨rfl, rfl, rfl, by decide +kernel, rfl, by decide +kernel, by decide +kernel⟩
theorem ok_Whi {n : Nat} {f : Addr} {fd : FuncData} (F0 : Fun K "size_of_while" "size_of_while" sWhi f fd) (M : Md K mg w dR dS adr) (Z : Mc P K mg C IP fI) {j : Nat} (GA : GInto P w K mg base C IP n j) : FnD P w K mg base (L2.CX P w) (j + 1) f fd ["check", "tree", "place"] (spAct K C IP n .whl) := by
  refine okXD F0 scWhi (fun vs H Q E h => ?_) (fun cdv A outer s H vs Q E hr h => ?_)
  · obtain ⟨_, _, _, _, _, _, _, rfl, _⟩ := h
    rfl
  obtain ⟨F, S, G, a, xs, ts, p, rfl, sm, fr, at0, ok, lv, ga, im, q⟩ := h
  have hu := hu_of hr.low
  have ha := sqt (K := K) (sm _ _ ga)

  refine ⟨_, pss_cons (ps_if (pt_cmpR op_ne (pe_callB call_len_seq rfl M.ml PySem.boot_len (pa_cons (pv 1) pa_nil)) pe_int (nomark _)) (pss_one (ps_ret pe_int)) pss_nil)
    (pss_cons (ps_fldaug (pv 0) pe_int in_add) (pss_cons (ps_set (i := 3) scWhi.nd rfl (.inl rfl) (pe_goD (E := E) GA hr (passes_call (takes_of rfl rfl rfl rfl) fun _ _ _ _ z => z) rfl (pa_cons (pv 0) (pa_cons (pe_slice sl_tup (pv 1) (po_some pe_int) po_none) (pa_cons (pv 2) pa_nil))))) (pss_cons (ps_fldaug (pv 0) pe_int in_sub) (pss_one (ps_ret (pe_op op_add pe_int (pv 3))))))), ?_⟩
  dsimp only [L2.tRet, L2.tRetN, tAndV, tOrV, tNotV, tCB, L2.tCons, L2.tNil, tC, tVar, L2.tOp, L2.tUn, tSeq, tAsg, gName, tIfS, tTest, tNext, tAnd, tOr, tNot, L2.tIf, tFld, sFld, sFldAug, tCall, tTup, tB, tAug, tDrop, L2.tSl, tPart, tNoPart, tBM, tBM0, tChain, gTup, gCons, gNil, tPar, tIs, List.set]
  refine ⟨_, rfl, a, xs, rfl, .inr ha, rfl, _, rfl, ?_⟩
  rcases three im with ⟨x0, x1, x2, t0, t1, t2, rfl, rfl, i0, i1, i2⟩ | ⟨c, nt⟩
  · refine if_no rfl ?_
    have at1 := at0.set (S' := { S with loops := S.loops + 1 }) put_loops rfl rfl rfl rfl
    have sm1 := Ck.Same.up (o := .ins C F.dx (putF "loops" (.int (S.loops + 1)) (flds F S))) sm fr.c
    have ha1 := sqt (K := K) (sm1 _ _ ga)
    refine ⟨_, rfl, F.c, C, F.dx, _, _, rfl, at0.c, Z.cl, Z.n7, get_loops, _, _, rfl, rfl, _, _, at0.c, few F S, ?_⟩
    refine ⟨_, rfl, _, rfl, 1, rfl, a, _, rfl, ha1, (by show ¬ (HT.sIx 3 0 (some 1) = 0 ∧ HT.sIx 3 3 none = 3); decide), fun r nr => ?_⟩
    have nG := Ck.Same.non sm1 nr
    refine ⟨_, rfl, F, { S with loops := S.loops + 1 }, upd G r (.tup [x1, x2]), r, [x1, x2], [t1, t2], p, rfl, Ck.Same.both sm1, fr.new at1 nr, at1.new nr, ⟨ok.lo, ok.hi, ok.ok.cm, ok.ok.va⟩, lv, upd_same, (.cons i1 (.cons i2 .nil) : Ims K G [x1, x2] [t1, t2]).mono (Ck.Same.new (fun _ _ z => z) nG), ?_⟩
    have qq : Res C IP F G S.places (inc (behind (fun S' => { S' with loops := S'.loops - 1 }) (ins n { S with loops := S.loops + 1 } [t1, t2] p))) Q E := q
    refine res_to (G := G) (pl := S.places) (Q := Q) (keep_left nG) (fun e r => ?_) (fun i S' r H2 sm2 at2 ok2 pl => ?_)
    · rw [r] at qq
      exact qq
    · rw [r] at qq
      have at3 := at2.set (S' := { S' with loops := S'.loops - 1 }) put_loops rfl rfl rfl rfl
      refine ⟨_, rfl, F.c, C, F.dx, _, _, rfl, at2.c, Z.cl, Z.n7, get_loops, _, _, rfl, rfl, _, _, at2.c, few F S', ?_⟩
      refine ⟨_, rfl, _, _, rfl, rfl, ?_⟩
      exact qq _ (Ck.Same.up (keep_left nG _ sm2) fr.c) at3 ⟨ok2.lo, ok2.hi, ok2.cm, ok2.va⟩ pl
  · have e : act (ins n) .whl S ts p = .ok (0, S) := by
      rcases ts with _ | ⟨t0, _ | ⟨t1, _ | ⟨t2, _ | ⟨t3, r⟩⟩⟩⟩ <;> first | rfl | exact absurd rfl (nt _ _ _)
    rw [e] at q
    exact if_yes (len_not c) (res0 q sm at0 ok.ok)

abbrev sTim : Stmt := topS 39
theorem scTim : FnScope ["check", "tree", "place", "size"] ["check", "tree", "place"] (defScope sTim) := ⟨rfl, rfl, rfl, by decide +kernel, rfl, by decide +kernel, by decide +kernel⟩
theorem ok_Tim {n : Nat} {f : Addr} {fd : FuncData} (F0 : Fun K "size_of_times" "size_of_times" sTim f fd) (M : Md K mg w dR dS adr) (Z : Mc P K mg C IP fI) {j : Nat} (hj : 1 ≤ j) (GW : GW P w K mg base) (GA : GInto P w K mg base C IP n j) : FnD P w K mg base (L2.CX P w) (j + 1) f fd ["check", "tree", "place"] (spAct K C IP n .times) := by
  refine okXD F0 scTim (fun vs H Q E h => ?_) (fun cdv A outer s H vs Q E hr h => ?_)
  · obtain ⟨_, _, _, _, _, _, _, rfl, _⟩ := h
    rfl
  obtain ⟨F, S, G, a, xs, ts, p, rfl, sm, fr, at0, ok, lv, ga, im, q⟩ := h
  have hu := hu_of hr.low
  have ha := sqt (K := K) (sm _ _ ga)

  obtain ⟨tg, mr⟩ := M.mr
  refine ⟨_, pss_cons (ps_if (PW.pt (pw_or (pt_cmpR op_ne (pe_callB call_len_seq rfl M.ml PySem.boot_len (pa_cons (pv 1) pa_nil)) pe_int (nomark _)) (pw_or1 (pt_not (pt_val (pe_go GW (hr.low.mono (by decide)) pass0 rfl (pa_cons (pe_ix ix_tup (pv 1) pe_int fun _ _ => rfl) (pa_cons pe_int (pa_cons (pe_glob (v := .int 1000) rfl mr ⟨_, rfl⟩) pa_nil))))))))) (pss_one (ps_ret pe_int)) pss_nil)
    (pss_cons (ps_fldaug (pv 0) pe_int in_add) (pss_cons (ps_set (i := 3) scTim.nd rfl (.inl rfl) (pe_goD (E := E) GA hr (passes_call (takes_of rfl rfl rfl rfl) fun _ _ _ _ z => z) rfl (pa_cons (pv 0) (pa_cons (pe_slice sl_tup (pv 1) (po_some pe_int) po_none) (pa_cons (pv 2) pa_nil))))) (pss_cons (ps_fldaug (pv 0) pe_int in_sub) (pss_one (ps_ret (pe_op op_add pe_int (pe_op op_mul (pe_ix ix_tup (pv 1) pe_int fun _ _ => rfl) (pv 3)))))))), ?_⟩
  dsimp only [L2.tRet, L2.tRetN, tAndV, tOrV, tNotV, tCB, L2.tCons, L2.tNil, tC, tVar, L2.tOp, L2.tUn, tSeq, tAsg, gName, tIfS, tTest, tNext, tAnd, tOr, tNot, L2.tIf, tFld, sFld, sFldAug, tCall, tTup, tB, tAug, tDrop, L2.tSl, tPart, tNoPart, tBM, tBM0, tChain, gTup, gCons, gNil, tPar, tIs, List.set]
  refine ⟨_, rfl, a, xs, rfl, .inr ha, rfl, _, rfl, ?_⟩
  rcases three im with ⟨x0, x1, x2, t0, t1, t2, rfl, rfl, i0, i1, i2⟩ | ⟨c, nt⟩
  · refine if_no rfl ?_
    refine ⟨_, rfl, a, _, _, _, rfl, rfl, ha, rfl, x1, t1, 0, 1000, rfl, i1.mono sm, _, rfl, ?_⟩
    cases e : within 0 1000 t1 with
    | false =>
      have z : act (ins n) .times S [t0, t1, t2] p = .ok (0, S) := by
        cases t1 <;> first | rfl | (show (if within 0 1000 _ = true then _ else _) = _; rw [e]; rfl)
      rw [z] at q
      exact if_yes rfl (res0 q sm at0 ok.ok)
    | true =>
    cases i1 with
    | int k =>
    refine if_no rfl ?_
    have at1 := at0.set (S' := { S with loops := S.loops + 1 }) put_loops rfl rfl rfl rfl
    have sm1 := Ck.Same.up (o := .ins C F.dx (putF "loops" (.int (S.loops + 1)) (flds F S))) sm fr.c
    have ha1 := sqt (K := K) (sm1 _ _ ga)
    refine ⟨_, rfl, F.c, C, F.dx, _, _, rfl, at0.c, Z.cl, Z.n7, get_loops, _, _, rfl, rfl, _, _, at0.c, few F S, ?_⟩
    refine ⟨_, rfl, _, rfl, 2, rfl, a, _, rfl, ha1, (by show ¬ (HT.sIx 3 0 (some 2) = 0 ∧ HT.sIx 3 3 none = 3); decide), fun r nr => ?_⟩
    have nG := Ck.Same.non sm1 nr
    refine ⟨_, rfl, F, { S with loops := S.loops + 1 }, upd G r (.tup [x2]), r, [x2], [t2], p, rfl, Ck.Same.both sm1, fr.new at1 nr, at1.new nr, ⟨ok.lo, ok.hi, ok.ok.cm, ok.ok.va⟩, lv, upd_same, (.cons i2 .nil : Ims K G [x2] [t2]).mono (Ck.Same.new (fun _ _ z => z) nG), ?_⟩
    have e2 : act (ins n) .times S [t0, .int k, t2] p = timed k (behind (fun S' => { S' with loops := S'.loops - 1 }) (ins n { S with loops := S.loops + 1 } [t2] p)) := by
      show (if within 0 1000 (.int k) = true then _ else _) = _
      rw [e]
      rfl
    rw [e2] at q
    have kb : 0 ≤ k ∧ k ≤ 1000 := by
      unfold within at e
      rw [Bool.and_eq_true] at e
      exact ⟨of_decide_eq_true e.1, of_decide_eq_true e.2⟩
    refine res_to (G := G) (pl := S.places) (Q := Q) (keep_left nG) (fun e r => ?_) (fun i S' r H2 sm2 at2 ok2 pl => ?_)
    · rw [r] at q
      exact q
    · rw [r] at q
      have at3 := at2.set (S' := { S' with loops := S'.loops - 1 }) put_loops rfl rfl rfl rfl
      have sm3 := Ck.Same.up (o := .ins C F.dx (putF "loops" (.int (S'.loops - 1)) (flds F S'))) (keep_left nG _ sm2) fr.c
      refine ⟨_, rfl, F.c, C, F.dx, _, _, rfl, at2.c, Z.cl, Z.n7, get_loops, _, _, rfl, rfl, _, _, at2.c, few F S', ?_⟩
      refine ⟨_, rfl, a, _, _, _, rfl, rfl, sqt (K := K) (sm3 _ _ ga), rfl, _, rfl, _, _, rfl, rfl, (.inl ⟨by omega, by omega⟩), _, _, rfl, rfl, ?_⟩
      exact q _ sm3 at3 ⟨ok2.lo, ok2.hi, ok2.cm, ok2.va⟩ pl
    | _ => simp [within] at e
  · have e : act (ins n) .times S ts p = .ok (0, S) := by
      rcases ts with _ | ⟨t0, _ | ⟨t1, _ | ⟨t2, _ | ⟨t3, r⟩⟩⟩⟩ <;> first | rfl | exact absurd rfl (nt _ _ _) | (cases t1 <;> rfl)
    rw [e] at q
    exact if_yes (len_not c) (if_yes rfl (res0 q sm at0 ok.ok))

end
end Ck

/-! Trees side by side. -/
namespace Ck
open PySem PySem.Spec PyProof.Rows L2 PySem.ErrKw
section
variable {P : Program} {w : World} {K : PySem.W.Frag} {mg : Str → Option Value} {base : Heap} {dR dS : Addr} {adr : Kind → Addr} {C IP fI : Addr}
abbrev sAll : Stmt := topS 21
theorem scAll : FnScope ["check", "trees", "place", "size", "tree", "inside", "action"] ["check", "trees", "place"] (defScope sAll) := ⟨rfl, rfl, rfl, by decide +kernel, rfl, by decide +kernel, by decide +kernel⟩
theorem many_cons (f : CS → Int → T → R) (S : CS) (d : T) (ds : List T) (p i : Int) : many f S (d :: ds) p i = if S.trees = 3000 then .error [] else match f { S with trees := S.trees + 1 } p d with
      | .error e => .error e
      | .ok (j, S') => if j = 0 then .error (S'.places ++ [p]) else many f S' ds (p + 1) (i + j) := by
  rw [many]
  all_goals
    by_cases c : S.trees = 3000
    · rw [if_pos c, if_pos c]
    · rw [if_neg c, if_neg c]
      cases f { S with trees := S.trees + 1 } p d with
      | error e => rfl
      | ok v => rfl
theorem ims_at {G : Hp} : ∀ {xs : List V} {ts : List T} {i : Nat} {x : V}, Ims K G xs ts → xs[i]? = some x → ∃ t, ts.drop i = t :: ts.drop (i + 1) ∧ Im K G x t
  | _, _, _, _, .nil, e => by simp at e
  | _, _, 0, _, .cons h r, e => by
    simp at e
    subst e
    exact ⟨_, rfl, h⟩
  | _, _, i + 1, _, .cons h r, e => by
    obtain ⟨t, a, b⟩ := ims_at (i := i) r (by simpa using e)
    exact ⟨t, by simpa using a, b⟩
theorem tup_of {H : Hp} {v : V} {t : T} (h : Im K H v t) (e : isTu t = true) : ∃ b ys ds, v = .ref b ∧ t = .tup ds ∧ H b = some (.tup ys) ∧ Ims K H ys ds := by
  cases h with
  | tup a r => exact ⟨_, _, _, rfl, rfl, a, r⟩
  | _ => simp [isTu] at e
/-- what is known between two trees -/
def Pv (C IP : Addr) (F : Foot) (G : Hp) (pl : List Int) (n : Nat) (a : Addr) (ts : List T) (p : Int) (Q : VK) (E : XK) : Nat → L2.St → Hp → Prop := fun i σ H => ∃ S acc v4 v5 v6, σ = [some (V.ref F.c), some (V.ref a), some (V.int (p + i)), some (V.int acc), v4, v5, v6] ∧ Same G H ∧ At C H F S ∧ Ok S ∧ S.places = pl ∧
  Res C IP F G pl (many (one (ins n)) S (ts.drop i) (p + i) acc) Q E
/-- the rest of a turn, when the inner size is known -/
def tTail (K : PySem.W.Frag) (IP : Addr) (E : XK) : TS := tSeq (tIfS (tTest (L2.tOp rEq (tVar 5) (tC (.int 0)))) (fun _ σ H => tTup (StX.tStar K (tFld K (tVar 0) "places") (L2.tCons (tVar 2) L2.tNil)) σ H fun v H1 => ∀ d, H1 d = none → E (.ref IP) (some d) (upd H1 d (.xd [("path", v)]))) tNext)
  (tSeq (tAug 3 (tVar 5) (ipI fun i j => i + j)) (tAug 2 (tC (.int 1)) (ipI fun i j => i + j)))
theorem tail_ok {F : Foot} {G H : Hp} {S : CS} {pl : List Int} {n i : Nat} {a : Addr} {ts : List T} {p acc k : Int} {Q : VK} {E : XK} {D : Ends} {v4 v6 : Option V} (Z : Mc P K mg C IP fI) (few59 : pl.length ≤ 59) (nx : D.nx = Pv C IP F G pl n a ts p Q E (i + 1)) (sm : Same G H) (at0 : At C H F S) (ok : Ok S) (e : S.places = pl)
    (q : Res C IP F G pl (if k = 0 then .error (S.places ++ [p + i]) else many (one (ins n)) S (ts.drop (i + 1)) (p + i + 1) (acc + k)) Q E) : tTail K IP E D [some (V.ref F.c), some (V.ref a), some (V.int (p + i)), some (V.int acc), v4, some (V.int k), v6] H := by
  unfold tTail
  dsimp only [L2.tRet, L2.tRetN, tAndV, tOrV, tNotV, tCB, L2.tCons, L2.tNil, tC, tVar, L2.tOp, L2.tUn, tSeq, tAsg, gName, tIfS, tTest, tNext, tAnd, tOr, tNot, L2.tIf, tFld, sFld, sFldAug, tCall, tTup, tB, tAug, tDrop, L2.tSl, tPart, tNoPart, tBM, tBM0, tChain, gTup, gCons, gNil, tPar, tIs, List.set, StX.tStar]
  refine ⟨_, rfl, rfl, _, rfl, ?_⟩
  by_cases c : k = 0
  · rw [if_pos c] at q
    refine if_yes (decide_eq_true (by rw [c])) ?_
    have sq : SqL K H F.dp (S.places.map V.int) := .inl (.inl at0.dp)
    refine ⟨_, rfl, F.c, C, F.dx, _, _, rfl, at0.c, Z.cl, Z.n6, get_places, F.dp, _, rfl, .inr sq, _, rfl, (by simp [sizeLine_eq, e]; omega), fun r nr d nd => ?_⟩
    refine q _ d r (Ck.Same.new (Ck.Same.new sm nr) nd) upd_same ?_
    rw [upd_ne (ne_of_none upd_same nd), upd_same, List.map_append]
    rfl
  · rw [if_neg c] at q
    refine if_no (decide_eq_false fun z => c (V.int.inj z)) ?_
    refine ⟨_, rfl, _, rfl, _, _, rfl, rfl, _, rfl, _, _, rfl, rfl, ?_⟩
    rw [nx]
    refine ⟨S, acc + k, v4, some (V.int k), v6, ?_, sm, at0, ok, e, ?_⟩
    · show [some (V.ref F.c), some (V.ref a), some (V.int (p + i + 1)), some (V.int (acc + k)), v4, some (V.int k), v6] = _
      have z : p + (i : Int) + 1 = p + ((i + 1 : Nat) : Int) := by omega
      rw [z]
    · have z : p + ((i + 1 : Nat) : Int) = p + (i : Int) + 1 := by omega
      rw [z]
      exact q
theorem ok_all {n j : Nat} {f : Addr} {fd : FuncData} (F0 : Fun K "size_of_all" "size_of_all" sAll f fd) (M : Md K mg w dR dS adr) (Z : Mc P K mg C IP fI) (hj : 1 ≤ j) (A0 : ∀ k, CallD P w K mg base (L2.CX P w) j (adr k) (spAct K C IP n k)) : FnD P w K mg base (L2.CX P w) (j + 1) f fd ["check", "trees", "place"] (spAll K C IP n) := by
  obtain ⟨tt, mt⟩ := M.mt
  obtain ⟨es, en, hD⟩ := M.kS
  refine okXD F0 scAll (fun vs H Q E h => ?_) (fun cdv A outer s H vs Q E hr h => ?_)
  · obtain ⟨_, _, _, _, _, _, _, rfl, _⟩ := h
    rfl
  obtain ⟨F, S, G, a, xs, ts, p, rfl, sm, fr, at0, ok, lv, ga, im, q⟩ := h
  have hu := hu_of hr.low
  have hr1 := hr.low.mono (j := 1) (by decide)
  refine ⟨_, pss_cons (ps_set (i := 3) scAll.nd rfl (.inl rfl) pe_int)
    (pss_cons (ps_for (passes_of rfl) rfl (pi_tup (pv 1)) (pg_name (i := 4) scAll.nd rfl (.inl rfl))
      (pss_cons (ps_if (pt_cmpR op_eq (pe_fld (pv 0) rfl) (pe_glob (v := .int 3000) rfl mt ⟨_, rfl⟩) (nomark _)) (pss_one (ps_raiseE rfl Z.er given_path hr1 (takes_of rfl rfl rfl rfl) (pe_tup pa_nil))) pss_nil)
      (pss_cons (ps_fldaug (pv 0) pe_int in_add)
      (pss_cons (ps_set (i := 5) scAll.nd rfl (.inl rfl) pe_int)
      (pss_cons (ps_if (PW.pt (pw_and (pt_val (pe_is (n := "tuple") M.mi M.mtup (by decide +kernel) rfl rfl (pv 4))) (pw_and (pt_truth (pv 4) (by intro _; rfl)) (pw_and (pt_val (pe_is (n := "str") M.mi M.mstr (by decide +kernel) rfl rfl (pe_ix ix_tup (pv 4) pe_int fun _ _ => rfl)))
          (pw_and1 (pt_cmpR (op_in_kd hD) (pe_ix ix_tup (pv 4) pe_int fun _ _ => rfl) (pe_glob (v := .ref dS) rfl M.gS rfl) (by rfl)))))))
        (pss_cons (ps_set (i := 6) scAll.nd rfl (.inl rfl) (pe_ix ix_kdict (pe_glob (v := .ref dS) rfl M.gS rfl) (pe_ix ix_tup (pv 4) pe_int fun _ _ => rfl) fun _ _ => rfl))
        (pss_one (ps_set (i := 5) scAll.nd rfl (.inl rfl) (pe_callTD (i := 6) (E := E) A0 hr rfl (.inl rfl) (passes_call (takes_of rfl rfl rfl rfl) fun _ _ _ _ z => z) (pa_cons (pv 0) (pa_cons (pv 4) (pa_cons (pv 2) pa_nil))))))) pss_nil)
      (pss_cons (ps_if (pt_cmpR op_eq (pv 5) pe_int (nomark _)) (pss_one (ps_raiseE rfl Z.er given_path hr1 (takes_of rfl rfl rfl rfl) (pe_tup (StX.pa_star (pe_fld (pv 0) rfl) (pa_cons (pv 2) pa_nil))))) pss_nil)
      (pss_cons (ps_aug (i := 3) scAll.nd rfl (.inl rfl) (pv 5) ip_add) (pss_one (ps_aug (i := 2) scAll.nd rfl (.inl rfl) pe_int ip_add)))))))))
    (pss_one (ps_ret (pv 3)))), ?_⟩
  dsimp only [L2.tRet, L2.tRetN, tAndV, tOrV, tNotV, tCB, L2.tCons, L2.tNil, tC, tVar, L2.tOp, L2.tUn, tSeq, tAsg, gName, tIfS, tTest, tNext, tAnd, tOr, tNot, L2.tIf, tFld, sFld, sFldAug, tCall, tTup, tB, tAug, tDrop, L2.tSl, tPart, tNoPart, tBM, tBM0, tChain, gTup, gCons, gNil, tPar, tIs, List.set, iTup, tCallT, StX.tStar]
  rw [all_eq] at q
  refine ⟨_, rfl, a, rfl, ⟨_, sqt (K := K) (sm _ _ ga)⟩, for_tup (K := K) (a := a) (xs := xs) (Pv C IP F G S.places n a ts p Q E) ?h0 ?hl ?hs ?hd⟩
  case h0 =>
    refine ⟨S, 0, none, none, none, by simp [L2.start], sm, at0, ok, rfl, ?_⟩
    show Res C IP F G S.places (many (one (ins n)) S (ts.drop 0) (p + (0 : Nat)) 0) Q E
    simpa using q
  case hl =>
    rintro i σ H' _ ⟨_, _, _, _, _, _, sm1, _⟩
    exact sqt (K := K) (sm1 _ _ ga)
  case hd =>
    rintro σ H' ⟨S1, acc, v4, v5, v6, rfl, sm1, at1, ok1, pl, q1⟩
    refine ⟨_, rfl, ?_⟩
    have e : ts.drop xs.length = [] := by rw [im.len, List.drop_length]
    rw [e] at q1
    exact q1 H' sm1 at1 ok1 pl
  case hs =>
    rintro i x σ H1 hx ⟨S1, acc, v4, v5, v6, rfl, sm1, at1, ok1, pl, q1⟩
    obtain ⟨t, et, it⟩ := ims_at im hx
    rw [et, many_cons] at q1
    refine ⟨_, rfl, F.c, C, F.dx, _, _, rfl, at1.c, Z.cl, Z.n1, get_trees, rfl, _, rfl, ?_⟩
    by_cases tr : S1.trees = 3000
    · rw [if_pos tr] at q1
      refine if_yes (decide_eq_true (by rw [tr])) ⟨by decide, fun r nr d nd => ?_⟩
      refine q1 _ d r (Ck.Same.new (Ck.Same.new sm1 nr) nd) upd_same ?_
      rw [upd_ne (ne_of_none upd_same nd), upd_same]
      rfl
    rw [if_neg tr] at q1
    refine if_no (decide_eq_false fun z => tr (V.int.inj z)) ?_
    have at2 := at1.set (S' := { S1 with trees := S1.trees + 1 }) put_trees rfl rfl rfl rfl
    have sm2 := Ck.Same.up (o := .ins C F.dx (putF "trees" (.int (S1.trees + 1)) (flds F S1))) sm1 fr.c
    have ok2 : Ok1 { S1 with trees := S1.trees + 1 } := ⟨by have := ok1.lo; show 0 ≤ S1.trees + 1; omega, by have := ok1.hi; show S1.trees + 1 ≤ 3000; omega, by have := ok1.cm; show (S1.cmds.length : Int) + 1 ≤ S1.trees + 1; omega, by have := ok1.va; show (S1.vars.length : Int) + 1 ≤ S1.trees + 1; omega⟩
    refine ⟨_, rfl, F.c, C, F.dx, _, _, rfl, at1.c, Z.cl, Z.n1, get_trees, _, _, rfl, rfl, _, _, at1.c, few F S1, ?_⟩
    have len59 : S.places.length ≤ 59 := by omega
    -- no inner size: nothing that the table knows
    have none0 : one (ins n) { S1 with trees := S1.trees + 1 } (p + i) t = .ok (0, { S1 with trees := S1.trees + 1 }) → tTail K IP E { nx := Pv C IP F G S.places n a ts p Q E (i + 1), rt := Q, bk := fun σ H' => tRet (tVar 3) { nx := fun _ H' => Q .non H', rt := Q } σ H', ct := Pv C IP F G S.places n a ts p Q E (i + 1) }
        [some (V.ref F.c), some (V.ref a), some (V.int (p + i)), some (V.int acc), some x, some (V.int 0), v6] (upd H1 F.c (.ins C F.dx (putF "trees" (.int (S1.trees + 1)) (flds F S1)))) := fun e0 => by
      rw [e0] at q1
      exact tail_ok Z len59 rfl sm2 at2 ok2.ok pl q1
    have i2 := it.mono sm2
    dsimp only [L2.tRet, L2.tRetN, tAndV, tOrV, tNotV, tCB, L2.tCons, L2.tNil, tC, tVar, L2.tOp, L2.tUn, tSeq, tAsg, gName, tIfS, tTest, tNext, tAnd, tOr, tNot, L2.tIf, tFld, sFld, sFldAug, tCall, tTup, tB, tAug, tDrop, L2.tSl, tPart, tNoPart, tBM, tBM0, tChain, gTup, gCons, gNil, tPar, tIs, List.set, tCallT, StX.tStar]
    refine ⟨_, rfl, is_tup i2 ⟨_, rfl, ?_⟩⟩
    cases c1 : isTu t with
    | false => exact if_no rfl (if_no rfl (none0 (by cases t <;> first | rfl | simp [isTu] at c1)))
    | true =>
    obtain ⟨b, ys, ds, rfl, rfl, hb, ip⟩ := tup_of it c1
    have hb2 := sqt (K := K) (sm2 _ _ hb)
    refine if_yes rfl ⟨_, rfl, _, .inr (.inl ⟨ys, hb2, rfl⟩), ?_⟩
    cases ip with
    | nil => exact if_no rfl (if_no rfl (none0 rfl))
    | @cons y0 ys d0 ds0 iy ir =>
    refine if_yes rfl ⟨_, rfl, b, _, _, _, rfl, rfl, hb2, atI_nat (j := 0) rfl, is_str (iy.mono sm2) ⟨_, rfl, ?_⟩⟩
    cases c2 : isSt d0 with
    | false => exact if_no rfl (if_no rfl (none0 (by cases d0 <;> first | rfl | simp [isSt] at c2)))
    | true =>
    obtain ⟨z, rfl, rfl⟩ := str_of iy c2
    refine if_yes rfl ⟨_, rfl, b, _, _, _, rfl, rfl, hb2, atI_nat (j := 0) rfl, z, _, rfl, rfl, M.inS z, _, rfl, ?_⟩
    cases kz : kindOf z with
    | none => exact if_no rfl (none0 (by show (match kindOf z with | some k => _ | none => _) = _; rw [kz]))
    | some k =>
    have e1 : one (ins n) { S1 with trees := S1.trees + 1 } (p + i) (.tup (.str z :: ds0)) = act (ins n) k { S1 with trees := S1.trees + 1 } (.str z :: ds0) (p + i) := by
      show (match kindOf z with | some k => _ | none => _) = _
      rw [kz]
    rw [e1] at q1
    refine if_yes rfl ?_
    have kd : KDct K w dS z (.ref (adr k)) := ⟨es, en, .ref (adr k), hD.at_, hD.lit, by rw [M.inS z, kz]; rfl, rfl⟩
    refine ⟨_, rfl, b, _, _, _, rfl, rfl, hb2, atI_nat (j := 0) rfl, dS, z, _, rfl, rfl, kd, k, rfl, _, rfl, _, rfl, _, rfl, F, { S1 with trees := S1.trees + 1 }, G, b, _, _, p + i, rfl, sm2, fr, at2, ok2, (by show S1.places.length + n = 59; rw [pl]; exact lv), hb, .cons iy ir, ?_⟩
    refine res_to (G := G) (pl := S.places) (Q := Q) (fun _ z => z) (fun e r => ?_) (fun m S' r H2 sm3 at3 ok3 pl3 => ?_)
    · rw [r] at q1
      exact q1
    · rw [r] at q1
      exact tail_ok (D := { nx := Pv C IP F G S.places n a ts p Q E (i + 1), rt := Q, bk := fun σ H' => tRet (tVar 3) { nx := fun _ H' => Q .non H', rt := Q } σ H', ct := Pv C IP F G S.places n a ts p Q E (i + 1) }) Z len59 rfl sm3 at3 ok3 (pl3.trans pl) q1

end
end Ck

/-! A program checked. -/
namespace Ck
open PySem PySem.Spec PyProof.Rows L2 PySem.ErrKw
section
variable {P : Program} {w : World} {K : PySem.W.Frag} {mg : Str → Option Value} {base : Heap} {dR dS : Addr} {adr : Kind → Addr} {C IP fI : Addr}
abbrev sInit : Stmt := inClass (topS 17) 0
abbrev sOutline : Stmt := topS 19
abbrev sEntry : Stmt := topS 20
abbrev sChecked : Stmt := topS 18
theorem scInit : FnScope ["self"] ["self"] (defScope sInit) := ⟨rfl, rfl, rfl, by decide +kernel, rfl, by decide +kernel, by decide +kernel⟩
theorem scOutline : FnScope ["program"] ["program"] (defScope sOutline) := ⟨rfl, rfl, rfl, by decide +kernel, rfl, by decide +kernel, by decide +kernel⟩
theorem scEntry : FnScope ["entry", "functions"] ["entry", "functions"] (defScope sEntry) := ⟨rfl, rfl, rfl, by decide +kernel, rfl, by decide +kernel, by decide +kernel⟩
theorem scChecked : FnScope ["program", "functions", "main", "check", "number", "entry", "name", "body"] ["program"] (defScope sChecked) := ⟨rfl, rfl, rfl, by decide +kernel, rfl, by decide +kernel, by decide +kernel⟩
def start0 : CS := ⟨0, [], [], 0, [], [], 0, false⟩
def spInit (C : Addr) : Sp := fun vs H Q _ => ∃ p dx, vs = [.ref p] ∧ H p = some (.ins C dx []) ∧ ∀ F H', Foot.c F = p → (∀ b o, H b = some o → b ≠ p → H' b = some o) → (∀ b o, H b = some o → b ≠ p → F.dc ≠ b ∧ F.dv ≠ b ∧ F.df ≠ b ∧ F.dp ≠ b) → At C H' F start0 → Q .non H'
theorem ok_init {f : Addr} {fd : FuncData} (F0 : Fun K "__init__" "Check.__init__" sInit f fd) (Z : Mc P K mg C IP fI) : FnOk P w K mg base CX0 1 f fd ["self"] (spInit C) := by
  refine F0.ok scInit (fun vs H Q E h => ?_) (fun cdv A outer s H vs Q E hr h => ?_)
  · obtain ⟨p, dx, rfl, _⟩ := h
    rfl
  obtain ⟨p, dx, rfl, hp, q⟩ := h
  refine ⟨_, pss_cons (ps_fld (pv 0) pe_int rfl) (pss_cons (ps_fld (pv 0) pe_dnewK rfl) (pss_cons (ps_fld (pv 0) pe_dnewK rfl) (pss_cons (ps_fld (pv 0) pe_int rfl) (pss_cons (ps_fld (pv 0) pe_dnewK rfl) (pss_cons (ps_fld (pv 0) (pe_lst pa_nil) rfl)
    (pss_cons (ps_fld (pv 0) pe_int rfl) (pss_one (ps_fld (pv 0) pe_bl rfl)))))))), ?_⟩
  dsimp only [L2.tRet, L2.tRetN, tAndV, tOrV, tNotV, tCB, L2.tCons, L2.tNil, tC, tVar, L2.tOp, L2.tUn, tSeq, tAsg, gName, tIfS, tTest, tNext, tAnd, tOr, tNot, L2.tIf, tFld, sFld, sFldAug, tCall, tTup, tB, tAug, tDrop, L2.tSl, tPart, tNoPart, tBM, tBM0, tChain, gTup, gCons, gNil, tPar, tIs, List.set, tDNewK, tLst]
  refine ⟨_, rfl, p, C, dx, [], rfl, hp, Z.cl, Z.n1, (by decide), fun d1 n1 => ?_⟩
  have e1 : ∀ {b : Addr}, (upd H p (.ins C dx (putF "trees" (.int 0) []))) b = none → b ≠ p := fun {b} n z => by rw [z, upd_same] at n; cases n
  have p1 := e1 n1
  refine ⟨_, rfl, p, C, dx, _, rfl, (by rw [upd_ne (Ne.symm p1), upd_same]), Z.cl, Z.n2, Nat.lt_of_sub_eq_succ rfl, fun d2 n2 => ?_⟩
  have p2 : d2 ≠ p := fun z => by rw [z, upd_same] at n2; cases n2
  have d21 : d2 ≠ d1 := fun z => by rw [z, upd_ne p1, upd_same] at n2; cases n2
  refine ⟨_, rfl, p, C, dx, _, rfl, (by rw [upd_ne (Ne.symm p2), upd_same]), Z.cl, Z.n3, Nat.lt_of_sub_eq_succ rfl, ?_⟩
  refine ⟨_, rfl, p, C, dx, _, rfl, upd_same, Z.cl, Z.n4, Nat.lt_of_sub_eq_succ rfl, fun d3 n3 => ?_⟩
  have p3 : d3 ≠ p := fun z => by rw [z, upd_same] at n3; cases n3
  have d32 : d3 ≠ d2 := fun z => by rw [z, upd_ne p2, upd_ne p2, upd_same] at n3; cases n3
  have d31 : d3 ≠ d1 := fun z => by rw [z, upd_ne p1, upd_ne p1, upd_ne (Ne.symm d21), upd_ne p1, upd_same] at n3; cases n3
  refine ⟨_, rfl, p, C, dx, _, rfl, (by rw [upd_ne (Ne.symm p3), upd_same]), Z.cl, Z.n5, Nat.lt_of_sub_eq_succ rfl, (by decide), fun d4 n4 => ?_⟩
  have p4 : d4 ≠ p := fun z => by rw [z, upd_same] at n4; cases n4
  have d43 : d4 ≠ d3 := fun z => by rw [z, upd_ne p3, upd_same] at n4; cases n4
  have d42 : d4 ≠ d2 := fun z => by rw [z, upd_ne p2, upd_ne (Ne.symm d32), upd_ne p2, upd_ne p2, upd_same] at n4; cases n4
  have d41 : d4 ≠ d1 := fun z => by rw [z, upd_ne p1, upd_ne (Ne.symm d31), upd_ne p1, upd_ne p1, upd_ne (Ne.symm d21), upd_ne p1, upd_same] at n4; cases n4
  refine ⟨_, rfl, p, C, dx, _, rfl, (by rw [upd_ne (Ne.symm p4), upd_same]), Z.cl, Z.n6, Nat.lt_of_sub_eq_succ rfl, ?_⟩
  refine ⟨_, rfl, p, C, dx, _, rfl, upd_same, Z.cl, Z.n7, Nat.lt_of_sub_eq_succ rfl, ?_⟩
  refine ⟨_, rfl, p, C, dx, _, rfl, upd_same, Z.cl, Z.n8, Nat.lt_of_sub_eq_succ rfl, ?_⟩
  have old : ∀ b o, H b = some o → b ≠ p → d1 ≠ b ∧ d2 ≠ b ∧ d3 ≠ b ∧ d4 ≠ b := fun b o hb nb => by
    have h1 : (upd H p (.ins C dx (putF "trees" (.int 0) []))) b = some o := by rw [upd_ne nb]; exact hb
    have b1 : d1 ≠ b := Ne.symm (ne_of_none h1 n1)
    have b2 : d2 ≠ b := fun z => by
      subst z
      rw [upd_ne nb, upd_ne (Ne.symm b1), h1] at n2
      cases n2
    have b3 : d3 ≠ b := fun z => by
      subst z
      rw [upd_ne nb, upd_ne nb, upd_ne (Ne.symm b2), upd_ne nb, upd_ne (Ne.symm b1), h1] at n3
      cases n3
    have b4 : d4 ≠ b := fun z => by
      subst z
      rw [upd_ne nb, upd_ne (Ne.symm b3), upd_ne nb, upd_ne nb, upd_ne (Ne.symm b2), upd_ne nb, upd_ne (Ne.symm b1), h1] at n4
      cases n4
    exact ⟨b1, b2, b3, b4⟩
  refine q ⟨p, dx, d1, d2, d3, d4⟩ _ rfl (fun b o hb nb => ?_) old ⟨?_, ?_, ?_, ?_, ?_, Ne.symm d21, Ne.symm d31, Ne.symm d32⟩
  · obtain ⟨b1, b2, b3, b4⟩ := old b o hb nb
    rw [upd_ne nb, upd_ne nb, upd_ne nb, upd_ne (Ne.symm b4), upd_ne nb, upd_ne (Ne.symm b3), upd_ne nb, upd_ne nb, upd_ne (Ne.symm b2), upd_ne nb, upd_ne (Ne.symm b1), upd_ne nb]
    exact hb
  · refine Eq.trans upd_same (congrArg (fun l => some (HO.ins C dx l)) ?_)
    with_unfolding_all rfl
  · show upd _ _ _ d1 = _
    rw [upd_ne p1, upd_ne p1, upd_ne p1, upd_ne (Ne.symm d41), upd_ne p1, upd_ne (Ne.symm d31), upd_ne p1, upd_ne p1, upd_ne (Ne.symm d21), upd_ne p1, upd_same]
    rfl
  · show upd _ _ _ d2 = _
    rw [upd_ne p2, upd_ne p2, upd_ne p2, upd_ne (Ne.symm d42), upd_ne p2, upd_ne (Ne.symm d32), upd_ne p2, upd_ne p2, upd_same]
    rfl
  · show upd _ _ _ d3 = _
    rw [upd_ne p3, upd_ne p3, upd_ne p3, upd_ne (Ne.symm d43), upd_ne p3, upd_same]
    rfl
  · show upd _ _ _ d4 = _
    rw [upd_ne p4, upd_ne p4, upd_ne p4, upd_same]
    rfl
def isOutline : T → Bool
  | .tup [.tup fs, _] => decide (fs.length ≤ 20)
  | _ => false
def spOutline (K : PySem.W.Frag) : Sp := fun vs H Q _ => ∃ v t, vs = [v] ∧ Im K H v t ∧ Q (.bl (isOutline t)) H
theorem ok_outline {f : Addr} {fd : FuncData} (F0 : Fun K "is_outline" "is_outline" sOutline f fd) (M : Md K mg w dR dS adr) : FnOk P w K mg base CX0 1 f fd ["program"] (spOutline K) := by
  obtain ⟨tf, mf⟩ := M.mf
  refine F0.ok scOutline (fun vs H Q E h => ?_) (fun cdv A outer s H vs Q E hr h => ?_)
  · obtain ⟨_, _, rfl, _⟩ := h
    rfl
  obtain ⟨v, t, rfl, im, q⟩ := h
  refine ⟨_, pss_cons (ps_if (PW.pt (pw_or (pt_not (pt_val (pe_is (n := "tuple") M.mi M.mtup (by decide +kernel) rfl rfl (pv 0)))) (pw_or1 (pt_cmpR op_ne (pe_callB call_len_seq rfl M.ml PySem.boot_len (pa_cons (pv 0) pa_nil)) pe_int (nomark _))))) (pss_one (ps_ret pe_bl)) pss_nil)
    (pss_one (ps_ret (pe_and (pe_is (n := "tuple") M.mi M.mtup (by decide +kernel) rfl rfl (pe_ix ix_tup (pv 0) pe_int fun _ _ => rfl)) (pe_one (pe_cmpR op_le (pe_callB call_len_seq rfl M.ml PySem.boot_len (pa_cons (pe_ix ix_tup (pv 0) pe_int fun _ _ => rfl) pa_nil)) (pe_glob (v := .int 20) rfl mf ⟨_, rfl⟩) (nomark _)))))), ?_⟩
  dsimp only [L2.tRet, L2.tRetN, tAndV, tOrV, tNotV, tCB, L2.tCons, L2.tNil, tC, tVar, L2.tOp, L2.tUn, tSeq, tAsg, gName, tIfS, tTest, tNext, tAnd, tOr, tNot, L2.tIf, tFld, sFld, sFldAug, tCall, tTup, tB, tAug, tDrop, L2.tSl, tPart, tNoPart, tBM, tBM0, tChain, gTup, gCons, gNil, tPar, tIs, List.set]
  refine ⟨_, rfl, is_tup im ⟨_, rfl, ?_⟩⟩
  cases c1 : isTu t with
  | false =>
    have z : isOutline t = false := by cases t <;> first | rfl | simp [isTu] at c1
    rw [z] at q
    exact if_yes rfl q
  | true =>
  obtain ⟨a, xs, ts, rfl, rfl, ha, im⟩ := tup_of im c1
  refine if_no rfl ⟨_, rfl, a, xs, rfl, .inr (sqt ha), rfl, _, rfl, ?_⟩
  rcases two im with ⟨x0, x1, t0, t1, rfl, rfl, i0, i1⟩ | ⟨c, nt⟩
  · refine if_no rfl ⟨_, rfl, a, _, _, _, rfl, rfl, sqt ha, atI_nat (j := 0) rfl, is_tup i0 ⟨_, rfl, ?_⟩⟩
    cases c2 : isTu t0 with
    | false =>
      have z : isOutline (.tup [t0, t1]) = false := by cases t0 <;> first | rfl | simp [isTu] at c2
      rw [z] at q
      exact if_no rfl q
    | true =>
    obtain ⟨b, ys, fs, rfl, rfl, hb, ip⟩ := tup_of i0 c2
    refine if_yes rfl ⟨_, rfl, a, _, _, _, rfl, rfl, sqt ha, atI_nat (j := 0) rfl, b, ys, rfl, .inr (sqt hb), _, _, rfl, rfl, ?_⟩
    have z : isOutline (.tup [.tup fs, t1]) = decide ((ys.length : Int) ≤ 20) := by
      show decide (fs.length ≤ 20) = _
      rw [ip.len]
      exact decide_eq_decide.mpr (by omega)
    rw [z] at q
    exact q
  · have z : isOutline (.tup ts) = false := by
      rcases ts with _ | ⟨t0, _ | ⟨t1, _ | ⟨t2, r⟩⟩⟩ <;> first | rfl | exact absurd rfl (nt _ _) | (cases t0 <;> rfl)
    rw [z] at q
    exact if_yes (len_not c) q
def isEntry (fs : List (Str × Int)) : T → Bool
  | .tup [.str z, _] => nameOk z && (fs.lookup z).isNone
  | _ => false
def spEntry (K : PySem.W.Frag) : Sp := fun vs H Q _ => ∃ v t d fs, vs = [v, .ref d] ∧ Im K H v t ∧ H d = some (.dK (ftab fs)) ∧ Q (.bl (isEntry fs t)) H
theorem ok_entry {f : Addr} {fd : FuncData} (F0 : Fun K "is_entry" "is_entry" sEntry f fd) (M : Md K mg w dR dS adr) (GN : GN P w K mg base) : FnOk P w K mg base CX0 2 f fd ["entry", "functions"] (spEntry K) := by
  refine F0.ok scEntry (fun vs H Q E h => ?_) (fun cdv A outer s H vs Q E hr h => ?_)
  · obtain ⟨_, _, _, _, rfl, _⟩ := h
    rfl
  obtain ⟨v, t, d, fs, rfl, im, hd, q⟩ := h
  have hu := hu_of hr
  refine ⟨_, pss_cons (ps_if (PW.pt (pw_or (pt_not (pt_val (pe_is (n := "tuple") M.mi M.mtup (by decide +kernel) rfl rfl (pv 0)))) (pw_or1 (pt_cmpR op_ne (pe_callB call_len_seq rfl M.ml PySem.boot_len (pa_cons (pv 0) pa_nil)) pe_int (nomark _))))) (pss_one (ps_ret pe_bl)) pss_nil)
    (pss_one (ps_ret (pe_and (pe_go GN hr pass0 rfl (pa_cons (pe_ix ix_tup (pv 0) pe_int fun _ _ => rfl) pa_nil)) (pe_one (pe_cmp (pc_dnotin hu (pe_ix ix_tup (pv 0) pe_int fun _ _ => rfl) (pv 1)) (by rfl)))))), ?_⟩
  dsimp only [L2.tRet, L2.tRetN, tAndV, tOrV, tNotV, tCB, L2.tCons, L2.tNil, tC, tVar, L2.tOp, L2.tUn, tSeq, tAsg, gName, tIfS, tTest, tNext, tAnd, tOr, tNot, L2.tIf, tFld, sFld, sFldAug, tCall, tTup, tB, tAug, tDrop, L2.tSl, tPart, tNoPart, tBM, tBM0, tChain, gTup, gCons, gNil, tPar, tIs, List.set, tDNotIn]
  refine ⟨_, rfl, is_tup im ⟨_, rfl, ?_⟩⟩
  cases c1 : isTu t with
  | false =>
    have z : isEntry fs t = false := by cases t <;> first | rfl | simp [isTu] at c1
    rw [z] at q
    exact if_yes rfl q
  | true =>
  obtain ⟨a, xs, ts, rfl, rfl, ha, im⟩ := tup_of im c1
  refine if_no rfl ⟨_, rfl, a, xs, rfl, .inr (sqt ha), rfl, _, rfl, ?_⟩
  rcases two im with ⟨x0, x1, t0, t1, rfl, rfl, i0, i1⟩ | ⟨c, nt⟩
  · refine if_no rfl ⟨_, rfl, a, _, _, _, rfl, rfl, sqt ha, atI_nat (j := 0) rfl, x0, t0, rfl, i0, _, rfl, ?_⟩
    cases c2 : isSt t0 with
    | false =>
      have z : isEntry fs (.tup [t0, t1]) = false := by cases t0 <;> first | rfl | simp [isSt] at c2
      have y : isName t0 = false := by cases t0 <;> first | rfl | simp [isSt] at c2
      rw [z] at q
      rw [y]
      exact if_no rfl q
    | true =>
    obtain ⟨z, rfl, rfl⟩ := str_of i0 c2
    have qq : Q (.bl (nameOk z && (fs.lookup z).isNone)) H := q
    show if nameOk z = true then _ else _
    cases m : nameOk z with
    | false =>
      rw [m, Bool.false_and] at qq
      exact if_no rfl qq
    | true =>
      rw [m, Bool.true_and] at qq
      have g : DGet H d (.str z) (valV (ftab fs) (.inr z)) := DGet.k (k := Sum.inr z) hd
      refine if_yes rfl ⟨_, rfl, a, _, _, _, rfl, rfl, sqt ha, atI_nat (j := 0) rfl, _, rfl, d, _, rfl, g, ?_⟩
      rw [valV_ftab]
      have y : (!((fs.lookup z).map V.int).isSome) = (fs.lookup z).isNone := by cases fs.lookup z <;> rfl
      rw [y]
      exact qq
  · have z : isEntry fs (.tup ts) = false := by
      rcases ts with _ | ⟨t0, _ | ⟨t1, _ | ⟨t2, r⟩⟩⟩ <;> first | rfl | exact absurd rfl (nt _ _) | (cases t0 <;> rfl)
    rw [z] at q
    exact if_yes (len_not c) q
end
end Ck

/-! What the check leaves as it was. -/
namespace Ck
open PySem L2
theorem inc_ok {r : R} {i : Int} {S : CS} (h : inc r = .ok (i, S)) : ∃ j, r = .ok (j, S) := by
  cases r with
  | error e => cases h
  | ok v =>
    obtain ⟨j, S'⟩ := v
    cases h
    exact ⟨_, rfl⟩
theorem timed_ok {r : R} {n i : Int} {S : CS} (h : timed n r = .ok (i, S)) : ∃ j, r = .ok (j, S) := by
  cases r with
  | error e => cases h
  | ok v =>
    obtain ⟨j, S'⟩ := v
    cases h
    exact ⟨_, rfl⟩
theorem behind_ok {r : R} {f : CS → CS} {i : Int} {S : CS} (h : behind f r = .ok (i, S)) : ∃ S', r = .ok (i, S') ∧ S = f S' := by
  cases r with
  | error e => cases h
  | ok v =>
    obtain ⟨j, S'⟩ := v
    cases h
    exact ⟨_, rfl, rfl⟩
/-- the functions stay -/
def Stays (f : CS → List T → Int → R) : Prop := ∀ S ps p i S', f S ps p = .ok (i, S') → S'.fns = S.fns
section
variable {inside : CS → List T → Int → R}
theorem bar_fns (hi : Stays inside) : Stays (barrier inside) := fun S ps p i S' h => by
  obtain ⟨S1, h1, rfl⟩ := behind_ok h
  have z := hi _ _ _ _ _ h1
  exact z
theorem loop_fns (hi : Stays inside) : Stays (looped inside) := fun S ps p i S' h => by
  obtain ⟨S1, h1, rfl⟩ := behind_ok h
  have z := hi _ _ _ _ _ h1
  exact z
theorem ok_fns {S S' : CS} {i j : Int} (h : (.ok (i, S) : R) = .ok (j, S')) : S'.fns = S.fns := by
  cases h
  rfl
theorem act_fns (hi : Stays inside) (k : Kind) (S : CS) (ds : List T) (p i : Int) (S' : CS) (h : act inside k S ds p = .ok (i, S')) : S'.fns = S.fns := by
  have hb := bar_fns hi
  have hl := loop_fns hi
  cases k <;> simp only [act, named, varied] at h <;> (repeat' split at h) <;>
    first
    | (cases h; rfl)
    | (obtain ⟨j, h⟩ := inc_ok h; first | exact hi _ _ _ _ _ h | exact hb _ _ _ _ _ h | exact hl _ _ _ _ _ h)
    | (obtain ⟨j, h⟩ := timed_ok h; exact hl _ _ _ _ _ h)
theorem one_fns (hi : Stays inside) (S : CS) (p : Int) (t : T) (i : Int) (S' : CS) (h : one inside S p t = .ok (i, S')) : S'.fns = S.fns := by
  unfold one at h
  split at h
  · split at h
    · exact act_fns hi _ _ _ _ _ _ h
    · cases h; rfl
  · cases h; rfl
end
theorem many_fns {f : CS → Int → T → R} (hf : ∀ S p t i S', f S p t = .ok (i, S') → S'.fns = S.fns) : ∀ (ts : List T) (S : CS) (p j i : Int) (S' : CS), many f S ts p j = .ok (i, S') → S'.fns = S.fns
  | [], S, p, j, i, S', h => by
    rw [many] at h
    cases h
    rfl
  | t :: ts, S, p, j, i, S', h => by
    rw [many] at h
    split at h
    · cases h
    · split at h
      · cases h
      · rename_i j1 S1 e1
        split at h
        · cases h
        · rw [many_fns hf ts _ _ _ _ _ h, hf _ _ _ _ _ e1]
theorem into_fns {g : CS → List T → Int → Int → R} (hg : ∀ S ts p j i S', g S ts p j = .ok (i, S') → S'.fns = S.fns) : Stays (into g) := fun S ps p i S' h => by
  unfold into at h
  split at h
  · cases h
  · obtain ⟨S1, h1, rfl⟩ := behind_ok h
    have z := hg _ _ _ _ _ _ h1
    exact z
theorem all_fns : ∀ (n : Nat) (S : CS) (ts : List T) (p j i : Int) (S' : CS), all n S ts p j = .ok (i, S') → S'.fns = S.fns
  | 0, S, ts, p, j, i, S', h => many_fns (one_fns (into_fns fun _ _ _ _ _ _ z => by cases z)) ts S p j i S' h
  | n + 1, S, ts, p, j, i, S', h => many_fns (one_fns (into_fns (all_fns n))) ts S p j i S' h
/-! ### the entries -/
def finish (m : T) : Except (List Int) CS → Except (List Int) CS
  | .error e => .error e
  | .ok S => match all 59 { S with rets := false } [m] (-1) 0 with
    | .error e => .error e
    | .ok (i, S') => if 40 < S'.vars.length ∨ 3000 < i then .error [] else .ok { S' with unf := i }
theorem check_tup (fs : List T) (m : T) : check (.tup [.tup fs, m]) = if fs.length ≤ 20 then finish m (entries start fs 0) else .error [] := by
  show (if fs.length ≤ 20 then _ else _) = _
  split
  · cases entries start fs 0 <;> rfl
  · rfl
theorem entries_nil (S : CS) (k : Int) : entries S [] k = .ok S := by rw [entries]
theorem entries_yes {S : CS} {z : Str} {b : T} {es : List T} {k : Int} (h : nameOk z = true) (l : S.fns.lookup z = none) : entries S (.tup [.str z, b] :: es) k = match all 59 S [b] k 0 with
    | .error e => .error e
    | .ok (i, S') => entries { S' with fns := S'.fns ++ [(z, if 3001 < i then 3001 else i)] } es (k + 1) := by
  rw [entries]
  rw [if_pos ⟨h, l⟩]
  all_goals
    cases all 59 S [b] k 0 with
    | error e => rfl
    | ok v => rfl
end Ck

/-! All defs of the check together; a program checked. -/
namespace Ck
open PySem PySem.Spec PyProof.Rows L2 PySem.ErrKw
/-- a def of the module -/
structure Def (K : PySem.W.Frag) (mg : Str → Option Value) (x : Str) (st : Stmt) (ps : List Str) : Prop where
  ex : ∃ f fd, Fun K x x st f fd ∧ mg x = some (.ref f) ∧ PySem.W.keepIn K (.ref f) = true ∧ Binds K fd ps []
def fnName : Kind → Str
  | .run => "size_of_run"
  | .status => "size_of_status"
  | .var => "size_with_variable"
  | .put => "size_of_put"
  | .option => "size_of_option"
  | .trap => "size_of_trap"
  | .seq => "size_of_seq"
  | .pipe => "size_of_pipe"
  | .andor => "size_of_and_or"
  | .not => "size_of_not"
  | .sub => "size_of_sub"
  | .ife => "size_of_if"
  | .whl => "size_of_while"
  | .times => "size_of_times"
  | .jump => "size_of_jump"
  | .call => "size_of_call"
  | .ret => "size_of_return"
  | .exit => "size_of_exit"
section
variable {P : Program} {w : World} {K : PySem.W.Frag} {mg : Str → Option Value} {base : Heap} {dR dS : Addr} {adr : Kind → Addr} {C IP fI : Addr}
theorem Def.go {CX : CXT} {x : Str} {st : Stmt} {ps : List Str} {sp : Sp} {n : Nat} (D : Def K mg x st ps) (h : ∀ f fd, Fun K x x st f fd → FnOk P w K mg base CX n f fd ps sp) : Go P w K mg base CX n x ps sp := by
  obtain ⟨f, fd, F, g, k, b⟩ := D.ex
  exact ⟨f, fd, h f fd F, g, k, b⟩
theorem Def.callT {CX : CXT} {x : Str} {st : Stmt} {ps : List Str} {sp : Sp} {n : Nat} {u : Addr} (D : Def K mg x st ps) (e : mg x = some (.ref u)) (h : ∀ f fd, Fun K x x st f fd → FnOk P w K mg base CX n f fd ps sp) : CallT P w K mg base CX n u sp := by
  obtain ⟨f, fd, F, g, k, b⟩ := D.ex
  have z := g.symm.trans e
  cases z
  exact ⟨fd, ps, h _ fd F, k, b⟩
theorem Def.goD {CX : CXT} {x : Str} {st : Stmt} {ps : List Str} {sp : Sp} {n : Nat} (D : Def K mg x st ps) (h : ∀ f fd, Fun K x x st f fd → FnD P w K mg base CX n f fd ps sp) : GoD P w K mg base CX n x ps sp := by
  obtain ⟨f, fd, F, g, k, b⟩ := D.ex
  exact ⟨f, fd, h f fd F, g, k, b⟩
theorem Def.callD {CX : CXT} {x : Str} {st : Stmt} {ps : List Str} {sp : Sp} {n : Nat} {u : Addr} (D : Def K mg x st ps) (e : mg x = some (.ref u)) (h : ∀ f fd, Fun K x x st f fd → FnD P w K mg base CX n f fd ps sp) : CallD P w K mg base CX n u sp := by
  obtain ⟨f, fd, F, g, k, b⟩ := D.ex
  have z := g.symm.trans e
  cases z
  exact ⟨fd, ps, h _ fd F, k, b⟩
abbrev PP : List Str := ["check", "tree", "place"]
structure Defs (K : PySem.W.Frag) (mg : Str → Option Value) (C fN : Addr) (adr : Kind → Addr) : Prop where
  isInt : Def K mg "is_integer" sIsInt ["value"]
  isWithin : Def K mg "is_integer_within" sIsWithin ["value", "least", "most"]
  isName : Def K mg "is_name" sIsName ["value"]
  isNew : Def K mg "is_new_name" sIsNew ["names", "value"]
  hasParts : Def K mg "has_parts" sHasParts ["tree"]
  outline : Def K mg "is_outline" sOutline ["program"]
  entry : Def K mg "is_entry" sEntry ["entry", "functions"]
  checked : Def K mg "checked" sChecked ["program"]
  all : Def K mg "size_of_all" sAll ["check", "trees", "place"]
  into : Def K mg "size_inside" sInto ["check", "parts", "place"]
  bar : Def K mg "size_behind_barrier" sBar ["check", "parts", "place"]
  run : Def K mg "size_of_run" sRun PP
  status : Def K mg "size_of_status" sSta PP
  var : Def K mg "size_with_variable" sVar PP
  put : Def K mg "size_of_put" sPut PP
  option : Def K mg "size_of_option" sOpt PP
  trap : Def K mg "size_of_trap" sTra PP
  seq : Def K mg "size_of_seq" sSeq PP
  pipe : Def K mg "size_of_pipe" sPip PP
  andor : Def K mg "size_of_and_or" sAnd PP
  not : Def K mg "size_of_not" sNot PP
  sub : Def K mg "size_of_sub" sSub PP
  ife : Def K mg "size_of_if" sIff PP
  whl : Def K mg "size_of_while" sWhi PP
  times : Def K mg "size_of_times" sTim PP
  jump : Def K mg "size_of_jump" sJmp PP
  call : Def K mg "size_of_call" sCal PP
  ret : Def K mg "size_of_return" sRet PP
  exit : Def K mg "size_of_exit" sExi PP
  table : ∀ k, mg (fnName k) = some (.ref (adr k))
  init : ∃ fd, Fun K "__init__" "Check.__init__" sInit fN fd ∧ Binds K fd ["self"] []
  mkk : Mk K C fN
  gC : mg "Check" = some (.ref C)
theorem gW (D : Defs K mg C fN adr) (M : Md K mg w dR dS adr) : GW P w K mg base := D.isWithin.go fun _ _ F => ok_isWithin F M
theorem gI (D : Defs K mg C fN adr) (M : Md K mg w dR dS adr) : GI P w K mg base := D.isInt.go fun _ _ F => ok_isInt F M
theorem gN (D : Defs K mg C fN adr) (M : Md K mg w dR dS adr) : GN P w K mg base := D.isName.go fun _ _ F => ok_isName F M
theorem gNew (D : Defs K mg C fN adr) (M : Md K mg w dR dS adr) : GNew P w K mg base := D.isNew.go fun _ _ F => ok_isNew F M (gN D M)
theorem gHp (D : Defs K mg C fN adr) (M : Md K mg w dR dS adr) : GHp P w K mg base := D.hasParts.go fun _ _ F => ok_hp F M
theorem gBar {n j : Nat} (D : Defs K mg C fN adr) (M : Md K mg w dR dS adr) (Z : Mc P K mg C IP fI) (G : GInto P w K mg base C IP n j) : GBar P w K mg base C IP n (j + 1) := D.bar.goD fun _ _ F => ok_bar F M Z G
theorem acts {n j : Nat} (D : Defs K mg C fN adr) (M : Md K mg w dR dS adr) (Z : Mc P K mg C IP fI) (hj : 2 ≤ j) (G : GInto P w K mg base C IP n j) (k : Kind) : CallD P w K mg base (L2.CX P w) (j + 2) (adr k) (spAct K C IP n k) := by
  have W : GW P w K mg base := gW D M
  have N : GNew P w K mg base := gNew D M
  have B : GBar P w K mg base C IP n (j + 1) := gBar D M Z G
  have Hp : GHp P w K mg base := gHp D M
  have X : GX P w K mg base C IP n 3 "size_of_exit" .exit := D.exit.go fun _ _ F => ok_Exi F M Z W
  have j1 : 1 ≤ j := by omega
  cases k with
  | run => exact D.run.callD (D.table .run) fun _ _ F => .of (ok_Run F M Z N) (by decide)
  | status => exact D.status.callD (D.table .status) fun _ _ F => .of (ok_Sta F M Z W) (by decide)
  | var => exact D.var.callD (D.table .var) fun _ _ F => .of (ok_Var F M Z N) (by decide)
  | put => exact D.put.callD (D.table .put) fun _ _ F => .of (ok_Put F M Z N W) (by decide)
  | option => exact D.option.callD (D.table .option) fun _ _ F => .of (ok_Opt F M Z) (by decide)
  | trap => exact D.trap.callD (D.table .trap) fun _ _ F => ok_Tra F M Z B
  | seq => exact D.seq.callD (D.table .seq) fun _ _ F => (ok_Seq F M Z j1 Hp G).mono (by omega)
  | pipe => exact D.pipe.callD (D.table .pipe) fun _ _ F => ok_Pip F M Z (by omega) Hp B
  | andor => exact D.andor.callD (D.table .andor) fun _ _ F => (ok_And F M Z j1 G).mono (by omega)
  | not => exact D.not.callD (D.table .not) fun _ _ F => (ok_Not F M Z j1 G).mono (by omega)
  | sub => exact D.sub.callD (D.table .sub) fun _ _ F => ok_Sub F M Z (by omega) B
  | ife => exact D.ife.callD (D.table .ife) fun _ _ F => (ok_Iff F M Z G).mono (by omega)
  | whl => exact D.whl.callD (D.table .whl) fun _ _ F => (ok_Whi F M Z G).mono (by omega)
  | times => exact D.times.callD (D.table .times) fun _ _ F => (ok_Tim F M Z j1 W G).mono (by omega)
  | jump => exact D.jump.callD (D.table .jump) fun _ _ F => .of (ok_Jmp F M Z (gI D M)) (by decide)
  | call => exact D.call.callD (D.table .call) fun _ _ F => .of (ok_Cal F M Z) (by decide)
  | ret => exact D.ret.callD (D.table .ret) fun _ _ F => .of (ok_Ret F M Z X) (by decide)
  | exit => exact D.exit.callD (D.table .exit) fun _ _ F => .of (ok_Exi F M Z W) (by decide)
theorem gAll_of {n j : Nat} (D : Defs K mg C fN adr) (M : Md K mg w dR dS adr) (Z : Mc P K mg C IP fI) (hj : 2 ≤ j) (G : GInto P w K mg base C IP n j) : GAll P w K mg base C IP n (j + 3) := D.all.goD fun _ _ F => ok_all F M Z (by omega) (acts D M Z hj G)
theorem gInto (D : Defs K mg C fN adr) (M : Md K mg w dR dS adr) (Z : Mc P K mg C IP fI) : ∀ n : Nat, GInto P w K mg base C IP n (4 * n + 2)
  | 0 => D.into.goD fun _ _ F => ok_into (j := 1) F M Z (Nat.le_refl _) fun h => absurd rfl h
  | n + 1 => D.into.goD fun _ _ F => ok_into (n := n + 1) (j := 4 * n + 2 + 3) F M Z (by omega) fun _ => gAll_of D M Z (by omega) (gInto D M Z n)
theorem gAll (D : Defs K mg C fN adr) (M : Md K mg w dR dS adr) (Z : Mc P K mg C IP fI) (n : Nat) : GAll P w K mg base C IP n (4 * n + 5) := gAll_of D M Z (by omega) (gInto D M Z n)
/-! ### checked -/
def ResC (C IP : Addr) (G : Hp) (r : Except (List Int) CS) (Q : VK) (E : XK) : Prop := match r with
  | .ok S => ∀ H' F, Same G H' → At C H' F S → Q (.ref (Foot.c F)) H'
  | .error path => ∀ H' d p, Same G H' → H' d = some (.xd [("path", .ref p)]) → H' p = some (.tup (path.map V.int)) → E (.ref IP) (some d) H'
def spChecked (K : PySem.W.Frag) (C IP : Addr) : Sp := fun vs H Q E => ∃ v t, vs = [v] ∧ Im K H v t ∧ ResC C IP H (check t) Q E
/-- between two entries -/
def Pe (K : PySem.W.Frag) (C IP : Addr) (F : Foot) (G : Hp) (v a m : V) (mt : T) (es : List T) (Q : VK) (E : XK) : Nat → L2.St → Hp → Prop := fun i σ H => ∃ S v5 v6 v7, σ = [some v, some a, some m, some (V.ref F.c), some (V.int i), v5, v6, v7] ∧ Same G H ∧ At C H F S ∧ Ok S ∧ S.places = [] ∧ S.fns.length ≤ i ∧
  ResC C IP G (finish mt (entries S (es.drop i) i)) Q E
theorem raise_ok {G H : Hp} {path : List Int} {Q : VK} {E : XK} (q : ResC C IP G (.error path) Q E) (sm : Same G H) (r : Addr) (nr : H r = none) (d : Addr) (nd : (upd H r (.tup (path.map V.int))) d = none) : E (.ref IP) (some d) (upd (upd H r (.tup (path.map V.int))) d (.xd [("path", .ref r)])) := by
  refine q _ d r (Ck.Same.new (Ck.Same.new sm nr) nd) upd_same ?_
  rw [upd_ne (ne_of_none upd_same nd), upd_same]
theorem putK_ftab {z : Str} {fs : List (Str × Int)} {i : Int} (h : fs.lookup z = none) : putK (ftab fs) (.inr z) (.int i) = ftab (fs ++ [(z, i)]) := by
  unfold putK
  have e : ((ftab fs).any fun kv => decide (kv.1 = (Sum.inr z : Key))) = false := by
    rw [valV_any, valV_ftab, h]
    rfl
  rw [e, if_neg Bool.false_ne_true]
  simp [ftab]
theorem entries_no {S : CS} {e : T} {es : List T} {k : Int} (h : isEntry S.fns e = false) : entries S (e :: es) k = .error [k] := by
  have out : (∀ a b, e = .tup [a, b] → False) → entries S (e :: es) k = .error [k] := fun n => by
    rw [entries]
    intro a b z
    exact n a b z
  cases e with
  | tup ts =>
    rcases ts with _ | ⟨a, _ | ⟨b, _ | ⟨c, r⟩⟩⟩
    · exact out fun _ _ z => by cases z
    · exact out fun _ _ z => by cases z
    · cases a with
      | str z =>
        rw [entries]
        have h2 : (nameOk z && (S.fns.lookup z).isNone) = false := h
        rw [if_neg]
        rintro ⟨h3, h4⟩
        rw [h3, h4] at h2
        cases h2
      | _ =>
        rw [entries]
        intro z y
        cases y
    · exact out fun _ _ z => by cases z
  | _ => exact out fun _ _ z => by cases z
theorem entry_yes {fs : List (Str × Int)} {H : Hp} {v : V} {e : T} (im : Im K H v e) (h : isEntry fs e = true) : ∃ a z b y, v = .ref a ∧ e = .tup [.str z, b] ∧ H a = some (.tup [.str z, y]) ∧ Im K H y b ∧ nameOk z = true ∧ fs.lookup z = none := by
  cases im with
  | @tup a xs ts ha ip =>
    rcases two ip with ⟨x0, x1, t0, t1, rfl, rfl, i0, i1⟩ | ⟨c, nt⟩
    · cases i0 with
      | str hz =>
        have h2 : (nameOk _ && (fs.lookup _).isNone) = true := h
        rw [Bool.and_eq_true] at h2
        exact ⟨_, _, _, _, rfl, rfl, ha, i1, h2.1, Option.isNone_iff_eq_none.mp h2.2⟩
      | _ => simp [isEntry] at h
    · exfalso
      rcases ts with _ | ⟨t0, _ | ⟨t1, _ | ⟨t2, r⟩⟩⟩ <;> first | (simp [isEntry] at h; done) | exact absurd rfl (nt _ _) | (cases t0 <;> simp [isEntry] at h)
  | _ => simp [isEntry] at h
abbrev NC : List Str := ["program", "functions", "main", "check", "number", "entry", "name", "body"]
theorem ok_checked {fN f : Addr} {fd : FuncData} (F0 : Fun K "checked" "checked" sChecked f fd) (D : Defs K mg C fN adr) (M : Md K mg w dR dS adr) (Z : Mc P K mg C IP fI) : FnD P w K mg base (L2.CX P w) 242 f fd ["program"] (spChecked K C IP) := by
  have GA : GAll P w K mg base C IP 59 241 := gAll D M Z 59
  have GO : Go P w K mg base CX0 1 "is_outline" ["program"] (spOutline K) := D.outline.go fun _ _ F => ok_outline F M
  have GE : Go P w K mg base CX0 2 "is_entry" ["entry", "functions"] (spEntry K) := D.entry.go fun _ _ F => ok_entry F M (gN D M)
  obtain ⟨fdI, FI, bI⟩ := D.init
  have GM : FnOk P w K mg base CX0 1 fN fdI ["self"] (spInit C) := ok_init FI Z
  obtain ⟨tv, mv⟩ := M.mv
  obtain ⟨tu, mu⟩ := M.mu
  refine okXD F0 scChecked (fun vs H Q E h => ?_) (fun cdv A outer s H vs Q E hr h => ?_)
  · obtain ⟨_, _, rfl, _⟩ := h
    rfl
  obtain ⟨v, t, rfl, im, q⟩ := h
  have hu := hu_of hr.low
  have hr1 := hr.low.mono (j := 1) (by decide)
  have hr2 := hr.low.mono (j := 2) (by decide)
  refine ⟨_, pss_cons (ps_if (pt_not (pt_val (pe_go GO hr1 pass0 rfl (pa_cons (pv 0) pa_nil)))) (pss_one (ps_raiseE rfl Z.er given_path hr1 (takes_of rfl rfl rfl rfl) (pe_tup pa_nil))) pss_nil)
    (pss_cons (ps_asg (pv 0) (pg_tup (by rfl) (pgs_cons (pg_name (i := 1) scChecked.nd rfl (.inl rfl)) (pgs_cons (pg_name (i := 2) scChecked.nd rfl (.inl rfl)) pgs_nil))))
    (pss_cons (ps_set (i := 3) scChecked.nd rfl (.inl rfl) (pe_make0 (E := E) D.mkk GM hr2 rfl D.gC bI .nil pass0))
    (pss_cons (ps_fld (pv 3) pe_bl rfl)
    (pss_cons (ps_set (i := 4) scChecked.nd rfl (.inl rfl) pe_int)
    (pss_cons (ps_for (passes_of rfl) rfl (pi_tup (pv 1)) (pg_name (i := 5) scChecked.nd rfl (.inl rfl))
      (pss_cons (ps_if (pt_not (pt_val (pe_go GE hr2 pass0 rfl (pa_cons (pv 5) (pa_cons (pe_fld (pv 3) rfl) pa_nil))))) (pss_one (ps_raiseE rfl Z.er given_path hr1 (takes_of rfl rfl rfl rfl) (pe_tup (pa_cons (pv 4) pa_nil)))) pss_nil)
      (pss_cons (ps_asg (pv 5) (pg_tup (by rfl) (pgs_cons (pg_name (i := 6) scChecked.nd rfl (.inl rfl)) (pgs_cons (pg_name (i := 7) scChecked.nd rfl (.inl rfl)) pgs_nil))))
      (pss_cons (ps_dput hu (pe_fld (pv 3) rfl) (pv 6) (pe_callB (call_min2 rfl) rfl M.mm (by decide +kernel) (pa_cons (pe_goD (E := E) GA hr (passes_call (takes_of rfl rfl rfl rfl) fun _ _ _ _ z => z) rfl (pa_cons (pv 3) (pa_cons (pe_tup (pa_cons (pv 7) pa_nil)) (pa_cons (pv 4) pa_nil))))
          (pa_cons (pe_op op_add (pe_glob (v := .int 3000) rfl mu ⟨_, rfl⟩) pe_int) pa_nil))) rfl)
      (pss_one (ps_aug (i := 4) scChecked.nd rfl (.inl rfl) pe_int ip_add))))))
    (pss_cons (ps_fld (pv 3) pe_bl rfl)
    (pss_cons (ps_fld (pv 3) (pe_goD (E := E) GA hr (passes_call (takes_of rfl rfl rfl rfl) fun _ _ _ _ z => z) rfl (pa_cons (pv 3) (pa_cons (pe_tup (pa_cons (pv 2) pa_nil)) (pa_cons (pe_un un_neg pe_int) pa_nil)))) rfl)
    (pss_cons (ps_if (PW.pt (pw_or (pt_cmpR op_gt (pe_callB call_lenD rfl M.ml PySem.boot_len (pa_cons (pe_fld (pv 3) rfl) pa_nil)) (pe_glob (v := .int 40) rfl mv ⟨_, rfl⟩) (nomark _)) (pw_or1 (pt_cmpR op_gt (pe_fld (pv 3) rfl) (pe_glob (v := .int 3000) rfl mu ⟨_, rfl⟩) (nomark _))))) (pss_one (ps_raiseE rfl Z.er given_path hr1 (takes_of rfl rfl rfl rfl) (pe_tup pa_nil))) pss_nil)
    (pss_one (ps_ret (pv 3))))))))))), ?_⟩
  dsimp only [L2.tRet, L2.tRetN, tAndV, tOrV, tNotV, tCB, L2.tCons, L2.tNil, tC, tVar, L2.tOp, L2.tUn, tSeq, tAsg, gName, tIfS, tTest, tNext, tAnd, tOr, tNot, L2.tIf, tFld, sFld, sFldAug, tCall, tTup, tB, tAug, tDrop, L2.tSl, tPart, tNoPart, tBM, tBM0, tChain, gTup, gCons, gNil, tPar, tIs, List.set, iTup, sDPut, tMake]
  refine ⟨_, rfl, v, t, rfl, im, _, rfl, ?_⟩
  cases co : isOutline t with
  | false =>
    have e : check t = .error [] := by
      rcases t with _ | b | i | z | ts | o
      · rfl
      · rfl
      · rfl
      · rfl
      · rcases ts with _ | ⟨t0, _ | ⟨t1, _ | ⟨t2, r⟩⟩⟩
        · rfl
        · cases t0 <;> rfl
        · cases t0 with
          | tup fs =>
            rw [check_tup, if_neg (of_decide_eq_false co)]
          | _ => rfl
        · cases t0 <;> rfl
      · rfl
    rw [e] at q
    exact if_yes rfl ⟨by decide, fun r nr d nd => raise_ok q (fun _ _ z => z) r nr d nd⟩
  | true =>
  refine if_no rfl ?_
  obtain ⟨a, b, x1, ys, fs, m, rfl, rfl, ha, hb, ifs, imm, few20⟩ : ∃ a b x1 ys fs m, v = .ref a ∧ t = .tup [.tup fs, m] ∧ H a = some (.tup [.ref b, x1]) ∧ H b = some (.tup ys) ∧ Ims K H ys fs ∧ Im K H x1 m ∧ fs.length ≤ 20 := by
    cases im with
    | @tup a xs ts ha ip =>
      rcases two ip with ⟨x0, x1, t0, t1, rfl, rfl, i0, i1⟩ | ⟨c, nt⟩
      · cases i0 with
        | tup hb ib => exact ⟨_, _, _, _, _, _, rfl, rfl, ha, hb, ib, i1, of_decide_eq_true co⟩
        | _ => simp [isOutline] at co
      · exfalso
        rcases ts with _ | ⟨t0, _ | ⟨t1, _ | ⟨t2, r⟩⟩⟩ <;> first | (simp [isOutline] at co; done) | exact absurd rfl (nt _ _) | (cases t0 <;> simp [isOutline] at co)
    | _ => simp [isOutline] at co
  rw [check_tup, if_pos few20] at q
  refine ⟨_, rfl, a, _, rfl, sqt ha, rfl, _, _, rfl, _, _, rfl, rfl, fun x dx nx ndx nxd => ?_⟩
  refine ⟨x, dx, rfl, upd_same, fun F H1 eF keep new at1 => ⟨rfl, ?_⟩⟩
  subst eF
  have sm1 : Same H H1 := fun b o z => keep b o (by rw [upd_ne (ne_of_none z nx), upd_ne (ne_of_none z ndx)]; exact z) (ne_of_none z nx)
  have fr : Free F H := by
    have n : ∀ {p : Addr}, (∀ b o, (upd (upd H dx (.own F.c)) F.c (.ins C dx [])) b = some o → b ≠ F.c → p ≠ b) → H p = none := fun {p} h => by
      cases e : H p with
      | none => rfl
      | some o => exact absurd rfl (h p o (by rw [upd_ne (ne_of_none e nx), upd_ne (ne_of_none e ndx)]; exact e) (ne_of_none e nx))
    exact ⟨nx, n fun b o z y => (new b o z y).1, n fun b o z y => (new b o z y).2.1, n fun b o z y => (new b o z y).2.2.1, n fun b o z y => (new b o z y).2.2.2⟩
  have at2 := at1.set (S' := start) put_rets rfl rfl rfl rfl
  refine ⟨_, rfl, F.c, C, F.dx, _, rfl, at1.c, Z.cl, Z.n8, few F _, ?_⟩
  have sm2 := Ck.Same.up (o := .ins C F.dx (putF "returns" (.bl true) (flds F start0))) sm1 fr.c
  refine ⟨_, rfl, b, rfl, ⟨_, sqt (K := K) (sm2 _ _ hb)⟩, for_tup (K := K) (a := b) (xs := ys) (Pe K C IP F H (.ref a) (.ref b) x1 m fs Q E) ?h0 ?hl ?hs ?hd⟩
  case h0 =>
    refine ⟨start, none, none, none, rfl, sm2, at2, ⟨by decide, by decide, by decide, by decide⟩, rfl, by decide, ?_⟩
    exact q
  case hl =>
    rintro i σ H' _ ⟨_, _, _, _, _, sm3, _⟩
    exact sqt (K := K) (sm3 _ _ hb)
  case hd =>
    rintro σ H3 ⟨S, v5, v6, v7, rfl, sm3, at3, ok3, pl, fn, q3⟩
    have e : fs.drop ys.length = [] := by rw [ifs.len, List.drop_length]
    rw [e, entries_nil] at q3
    have at4 := at3.set (S' := { S with rets := false }) put_rets rfl rfl rfl rfl
    have sm4 := Ck.Same.up (o := .ins C F.dx (putF "returns" (.bl false) (flds F S))) sm3 fr.c
    refine ⟨_, rfl, F.c, C, F.dx, _, rfl, at3.c, Z.cl, Z.n8, few F _, ?_⟩
    refine ⟨_, rfl, _, rfl, (by show 1 ≤ sizeLine; decide), fun r nr => ⟨1, rfl, ?_⟩⟩
    have nG := Ck.Same.non sm4 nr
    refine ⟨F, { S with rets := false }, upd H r (.tup [x1]), r, [x1], [m], -1, rfl, Ck.Same.both sm4, fr.new at4 nr, at4.new nr, ⟨ok3.lo, ok3.hi, ok3.cm, ok3.va⟩, (by show S.places.length + 59 = 59; rw [pl]; rfl), upd_same, (Ims.cons imm .nil).mono (Ck.Same.new (fun _ _ z => z) nG), ?_⟩
    have qf : ResC C IP H (match all 59 { S with rets := false } [m] (-1) 0 with
      | .error e => .error e
      | .ok (i, S') => if 40 < S'.vars.length ∨ 3000 < i then .error [] else .ok { S' with unf := i }) Q E := q3
    show Res C IP F _ S.places (all 59 { S with rets := false } [m] (-1) 0) _ E
    cases r5 : all 59 { S with rets := false } [m] (-1) 0 with
    | error path =>
      rw [r5] at qf
      exact fun H' d p y z u => qf H' d p (Ck.Same.left y nG) z u
    | ok v =>
      obtain ⟨i, S5⟩ := v
      rw [r5] at qf
      intro H5 sm5 at5 ok5 pl5
      have at6 := at5.set (S' := { S5 with unf := i }) put_unf rfl rfl rfl rfl
      have sm6 := Ck.Same.up (o := .ins C F.dx (putF "unfolded" (.int i) (flds F S5))) (Ck.Same.left sm5 nG) fr.c
      refine ⟨_, rfl, F.c, C, F.dx, _, rfl, at5.c, Z.cl, Z.n4, few F _, ?_⟩
      have q6 : ResC C IP H (if 40 < S5.vars.length ∨ 3000 < i then .error [] else .ok { S5 with unf := i }) Q E := qf
      refine ⟨_, rfl, F.c, C, F.dx, _, _, rfl, at6.c, Z.cl, Z.n3, get_vars, F.dv, _, rfl, at6.dv, _, _, rfl, rfl, _, rfl, ?_⟩
      have ln : (tab S5.vars).length = S5.vars.length := by simp [tab]
      by_cases c1 : 40 < S5.vars.length
      · rw [if_pos (.inl c1)] at q6
        exact if_yes (decide_eq_true (by show ((tab S5.vars).length : Int) > 40; rw [ln]; omega)) (if_yes rfl ⟨by decide, fun r nr d nd => raise_ok q6 sm6 r nr d nd⟩)
      · refine if_no (decide_eq_false (by show ¬ ((tab S5.vars).length : Int) > 40; rw [ln]; omega)) ?_
        refine ⟨_, rfl, F.c, C, F.dx, _, _, rfl, at6.c, Z.cl, Z.n4, get_unf, _, _, rfl, rfl, _, rfl, ?_⟩
        by_cases c2 : 3000 < i
        · rw [if_pos (.inr c2)] at q6
          exact if_yes (decide_eq_true (by show i > 3000; omega)) ⟨by decide, fun r nr d nd => raise_ok q6 sm6 r nr d nd⟩
        · rw [if_neg (by omega)] at q6
          exact if_no (decide_eq_false (by show ¬ i > 3000; omega)) ⟨_, rfl, q6 _ F sm6 at6⟩
  case hs =>
    rintro i x σ H3 hx ⟨S, v5, v6, v7, rfl, sm3, at3, ok3, pl, fn, q3⟩
    obtain ⟨e, et, ie⟩ := ims_at ifs hx
    have i20 : i < 20 := by
      have z := (List.getElem?_eq_some_iff.mp hx).1
      rw [ifs.len] at z
      omega
    rw [et] at q3
    refine ⟨_, rfl, _, rfl, F.c, C, F.dx, _, _, rfl, at3.c, Z.cl, Z.n5, get_fns, x, e, F.df, S.fns, rfl, ie.mono sm3, at3.df, _, rfl, ?_⟩
    cases c1 : isEntry S.fns e with
    | false =>
      rw [entries_no c1] at q3
      exact if_yes rfl ⟨_, rfl, (by show 1 ≤ sizeLine; decide), fun r nr d nd => raise_ok (path := [(i : Int)]) q3 sm3 r nr d nd⟩
    | true =>
    obtain ⟨a2, z, bd, y, rfl, rfl, ha2, ib, nok, lk⟩ := entry_yes ie c1
    rw [entries_yes nok lk] at q3
    refine if_no rfl ⟨_, rfl, a2, _, rfl, sqt (sm3 _ _ ha2), rfl, _, _, rfl, _, _, rfl, rfl, ?_⟩
    refine ⟨_, rfl, _, rfl, (by show 1 ≤ sizeLine; decide), fun r nr => ⟨_, rfl, ?_⟩⟩
    have nG := Ck.Same.non sm3 nr
    refine ⟨F, S, upd H r (.tup [y]), r, [y], [bd], (i : Int), rfl, Ck.Same.both sm3, fr.new at3 nr, at3.new nr, ok3, (by rw [pl]; rfl), upd_same, (Ims.cons ib .nil).mono (Ck.Same.new (fun _ _ z => z) nG), ?_⟩
    cases r5 : all 59 S [bd] (i : Int) 0 with
    | error path =>
      rw [r5] at q3
      exact fun H' d p y z u => q3 H' d p (Ck.Same.left y nG) z u
    | ok v =>
      obtain ⟨k, S5⟩ := v
      rw [r5] at q3
      intro H5 sm5 at5 ok5 pl5
      have fn5 : S5.fns = S.fns := all_fns _ _ _ _ _ _ _ r5
      have sm6 := Ck.Same.left sm5 nG
      refine ⟨_, _, rfl, rfl, k, _, rfl, ?_⟩
      have at6 := at5.fns (S5.fns ++ [(z, if (3000 + 1 : Int) < k then 3000 + 1 else k)])
      rw [← putK_ftab (by rw [fn5]; exact lk)] at at6
      refine ⟨_, rfl, F.c, C, F.dx, _, _, rfl, at5.c, Z.cl, Z.n5, get_fns, _, rfl, F.df, _, rfl, DPut.k (k := Sum.inr z) at5.df (by unfold ftab; rw [List.length_map, fn5, sizeLine_eq]; omega), ?_⟩
      refine ⟨_, rfl, _, _, rfl, rfl, ?_⟩
      refine ⟨{ S5 with fns := S5.fns ++ [(z, if (3000 + 1 : Int) < k then 3000 + 1 else k)] }, some (V.ref a2), some (V.str z), some y, ?_, Ck.Same.up sm6 fr.df, at6, ⟨ok5.lo, ok5.hi, ok5.cm, ok5.va⟩, pl5.trans pl, ?_, q3⟩
      · show [some (V.ref a), some (V.ref b), some x1, some (V.ref F.c), some (V.int (i + 1)), some (V.ref a2), some (V.str z), some y] = _
        rfl
      · show (S5.fns ++ [_]).length ≤ i + 1
        rw [List.length_append, fn5]
        simp
        exact fn
end
end Ck

/-! A try whose first clause, 'except x as n', takes every exception of its body; more clauses may follow. -/
namespace L2
open PySem PySem.Spec PyProof.Rows
/-- what the first clause wishes: the class is its own -/
def wFst (K : PySem.W.Frag) (c : Value) (i : Nat) (ts : Addr → Value → Option Addr → TS) (D : Ends) : WX := fun k d τ G =>
  PySem.W.exmOne K k c = some true ∧ ∀ a, G a = none → ts a k d { nx := fun τ' G' => D.nx (τ'.set i none) G', rt := D.rt, bk := fun τ' G' => D.bk (τ'.set i none) G', ct := fun τ' G' => D.ct (τ'.set i none) G' } (τ.set i (some (.ref a))) G
section
variable {X : Cx} {x n : Str} {c : Value} {i : Nat} {body suite : List Stmt} {b0 : Stmt} {np pos pos' : Pos} {more : List ExceptHandler} {tb : WX → TS} {ts : Addr → Value → Option Addr → TS}
theorem ps_try_fst (hs : X.stack = X.env :: X.outer) (hf : X.env.frame = some X.env.locals) (nd : X.N.Nodup) (hi : X.N[i]? = some n) (kl : X.env.kindOf n = some .local) (hc : Names X x c)
    (bd : ∀ (W : WX) (pn : List (Addr × Obj)) (xe : Value → Shared → Prop), Takes (X.tr pn xe) W → PassesOwn (model X.prog X.w) X.A X.env xe → PSs (X.tr pn xe) body (tb W))
    (su : ∀ (a : Addr) (oe : Obj) (k : Value) (d : Option Addr) (pn : List (Addr × Obj)), Zc k d oe → (∃ vs, oe.data = .fields vs) → PSs (X.suite a ((a, oe) :: pn)) (b0 :: suite) (ts a k d)) :
    PS X (.Try body (.ExceptHandler (some (.Name x np)) (some n) (b0 :: suite) pos' :: more) [] [] pos) (fun D τ G => tb (wFst X.K c i ts D) D τ G) := by
  refine ⟨fun pins s τ G D J0 h => ?_⟩
  have ok := J0.ok
  have fra : X.A.frames = some (X.env :: X.outer) := by rw [ok.frames, hs]
  have lc : Loc X.env.scope n := .inl kl
  refine wpAny_Try_except ?_
  refine wpAny_mono ((bd (wFst X.K c i ts D) (X.pn ++ pins) (fun e u1 => wpAny (model X.prog X.w) X.A (noteFrame e X.env) (fun _ u2 => wpAny (model X.prog X.w) X.A (setFlight e none) (fun _ u3 =>
    wpAny (model X.prog X.w) X.A (handleBy e X.env (.ExceptHandler (some (.Name x np)) (some n) (b0 :: suite) pos' :: more)) (SP X pins D) X.xe u3) X.xe u2) X.xe u1) (fun u s' got => ?_) PassesOwn.looking).run [] s τ G D (J0.toTry _) h) (fun fl s1 sp => ?_) (fun _ _ z => z)
  · obtain ⟨a, B, sI, ps2, τ', G', k, d, rfl, Jx, nb, up, sky, na, os, ag, yes, go⟩ := got
    have J : Inv X pins τ' G' sI := Jx.ofTry ok
    have sk : Sky B (X.env :: X.outer) a (Zc k d) X.env.locals s'.heap := by rw [← hs]; exact sky
    show wpAny (model X.prog X.w) X.A (noteFrame (.ref a) X.env) _ _ _
    refine Sky.land Zc.steady fra hf sk fun g3 f3 u3 => ?_
    have J3 : Inv X pins τ' G' { s' with heap := g3 } := J.landed nb f3.1 (up.trans u3) os ag
    obtain ⟨o3, v3, at3, z3, d3⟩ := f3.there
    have apart : a ∉ frs (X.env :: X.outer) := fun m => by
      obtain ⟨_, o2, e2, nf⟩ := f3.2.2.1.mem m
      rw [at3] at e2
      cases e2
      exact nf _ d3
    have aL : a ≠ X.env.locals := fun z => apart (List.mem_filterMap.mpr ⟨X.env, List.mem_cons_self, by rw [hf, z]⟩)
    have aF : a ∉ X.fs := fun m => by
      obtain ⟨e, he, q⟩ := List.mem_filterMap.mp m
      exact apart (List.mem_filterMap.mpr ⟨e, List.mem_cons_of_mem _ he, q⟩)
    have S3 := J3.suite at3 d3 na aL aF
    refine wpAny_handleBy_cons (codeAny_handlers_test ?_) (by intro q; cases q)
    have LT : PySem.W.Looks (model X.prog X.w) g3 (typeOf (.ref a)) k := fun A Q E s kp q => wpAny_typeOf_ref (kp _ _ at3) (by rw [z3.1]; exact q)
    have LM := PySem.W.exm_one (M := model X.prog X.w) J3.kIn LT yes
    have tst : ∀ {Q : Value → Shared → Prop} {E : Value → Shared → Prop}, Q c { s' with heap := g3 } → wpAny (model X.prog X.w) (X.A.mark (some (.ref a))) (eval (.Name x np) X.env) Q E { s' with heap := g3 } := fun {Q E} q => by
      obtain ⟨gx, dx, m1 | ⟨m1, m2, m3⟩⟩ := hc
      · exact ld_glob (X := X.suite a ((a, o3) :: (X.pn ++ pins))) S3 gx m1 q dx
      · exact ld_blt (X := X.suite a ((a, o3) :: (X.pn ++ pins))) S3 gx m1 m2 q m3 dx
    refine tst (LM.here ?_)
    refine codeAny_handlers_suite_as ?_
    refine HandSPX.lands_againZ f3 fun g4 f4 u4 => ?_
    have J4 : Inv X pins τ' G' { s' with heap := g4 } := J.landed nb f4.1 ((up.trans u3).trans u4) os ag
    obtain ⟨o4, v4, at4, z4, d4⟩ := f4.there
    have S4 := J4.suite at4 d4 na aL aF
    refine store_ok (X := X.suite a ((a, o4) :: (X.pn ++ pins))) (v := .ref a) S4 nd hi lc rfl (fun s5 S5 => ?_) (.inr kl)
    have off : ∀ {τ6 : St} {G6 : Hp} {s6 : Shared} {Q : Shared → Prop}, Inv (X.suite a ((a, o4) :: (X.pn ++ pins))) [] τ6 G6 s6 → (∀ s7, Inv X pins (τ6.set i none) G6 s7 → Q s7) →
        wpAny (model X.prog X.w) X.A (do bindName X.env n .none; unbindBehindTheSuite X.env n pos') (fun _ s7 => Q s7) X.xe s6 := fun S6 hq => gone_ok (S6.unsuite ok) nd hi kl hq
    refine wpAny_mono ((su a o4 k d (X.pn ++ pins) z4 ⟨_, d4⟩).run [] s5 _ G' _ S5 (go a na)) (fun fl s6 sp => ?_) (fun _ _ z => False.elim z)
    cases fl with
    | next =>
      obtain ⟨τ6, G6, S6, q6⟩ := sp
      exact off S6 fun s7 J7 => ⟨_, _, J7, q6⟩
    | brk =>
      obtain ⟨τ6, G6, S6, q6⟩ := sp
      exact off S6 fun s7 J7 => ⟨_, _, J7, q6⟩
    | cont =>
      obtain ⟨τ6, G6, S6, q6⟩ := sp
      exact off S6 fun s7 J7 => ⟨_, _, J7, q6⟩
    | ret u =>
      obtain ⟨v6, τ6, G6, S6, r6, q6⟩ := sp
      exact off S6 fun s7 J7 => ⟨_, _, _, J7, r6, q6⟩
  · cases fl with
    | next =>
      obtain ⟨τ', G', J1, q⟩ := sp
      exact wpAny_execs_nil ⟨τ', G', J1.ofTry ok, q⟩
    | brk =>
      obtain ⟨τ', G', J1, q⟩ := sp
      exact ⟨τ', G', J1.ofTry ok, q⟩
    | cont =>
      obtain ⟨τ', G', J1, q⟩ := sp
      exact ⟨τ', G', J1.ofTry ok, q⟩
    | ret u =>
      obtain ⟨v, τ', G', J1, r, q⟩ := sp
      exact ⟨v, τ', G', J1.ofTry ok, r, q⟩
end
end L2

/-! The draws. -/
namespace Ck
open PySem PySem.Spec PyProof.Rows L2
section
variable {P : Program} {w : World} {K : PySem.W.Frag} {mg : Str → Option Value} {base : Heap}
abbrev sMixed : Stmt := topS 49
abbrev sSource : Stmt := topS 50
abbrev sTake : Stmt := topS 51
abbrev NM : List Str := ["_law_cell", "_law_draw", "_law_figure"]
abbrev NO : List Str := ["_law_cell"]
abbrev NT : List Str := ["_law_source_here", "_law_bound", "_law_drawn"]
theorem scMx : FnScope NM ["_law_cell", "_law_draw"] (defScope sMixed) := ⟨rfl, rfl, rfl, by decide +kernel, rfl, by decide +kernel, by decide +kernel⟩
theorem scSo : FnScope NO ["_law_cell"] (defScope sSource) := ⟨rfl, rfl, rfl, by decide +kernel, rfl, by decide +kernel, by decide +kernel⟩
theorem scTk : FnScope NT ["_law_source_here", "_law_bound"] (defScope sTake) := ⟨rfl, rfl, rfl, by decide +kernel, rfl, by decide +kernel, by decide +kernel⟩
def rIn : List V → Hp → VK → Prop := fun xs H Q => (∃ i, xs = [.int i] ∧ Q (.int i) H) ∨ ∃ k, xs = [.bl k] ∧ Q (.int (if k then 1 else 0)) H
abbrev tInt (te : TE) : TE := tCB rIn (tCons te tNil)
abbrev rMo : R2 := rI (fun _ j => 0 < j) fun i j => .int (i % j)
abbrev rMu : R2 := rI CMul fun i j => .int (i * j)
abbrev rAd : R2 := rI0 fun i j => .int (i + j)
abbrev rSu : R2 := rI0 fun i j => .int (i - j)
abbrev rDi : R2 := rI CDivW fun i j => .int (i / j)
abbrev rPo : R2 := rI CPow fun i j => .int (i ^ j.toNat)
abbrev cI (i : Int) : TE := tC (.int i)
theorem pe_intc {X : Cx} {e : Expr} {te : TE} {p pos : Pos} (mi : X.mg "int" = none) (hg : Gl X "int") (he : PE X e te) (h1 : starEach [e] X.env = (false, eval e X.env) :: starEach [] X.env := by rfl) : PE X (.Call (.Name "int" p) [e] [] pos) (tInt te) :=
  pe_callTy call_int1 hg mi boot_int (pa_cons he pa_nil h1) (by decide) (by decide) h1
def spMixed : Sp := fun vs H Q _ => ∃ c d : Int, vs = [.int c, .int d] ∧ ∀ r : Int, Q (.int r) H
def tMixed : TS :=
  tSeq (tAsg (tOp rMo (tInt (tOp rMu (tOp rAd (tOp rMo (tInt (tVar 0)) (cI 2147483646)) (cI 1)) (tOp rAd (tOp rMu (tVar 1) (cI 7919)) (cI 104729)))) (cI 2147483647)) (gName 2))
  (tSeq (tAsg (tOp rMo (tInt (tOp rMu (tOp rAd (tVar 2) (tOp rMu (tOp rMo (tInt (tOp rDi (tVar 0) (cI 2147483646))) (cI 1000003)) (tOp rAd (tVar 1) (cI 31)))) (cI 48271))) (cI 2147483629)) (gName 2))
  (tSeq (tAsg (tOp rMo (tInt (tOp rMu (tVar 2) (tOp rAd (tOp rAd (tOp rDi (tVar 2) (cI 1013)) (cI 69621)) (tVar 1)))) (cI 2147483587)) (gName 2))
  (tRet (tOp rMo (tInt (tOp rMu (tVar 2) (tOp rAd (tOp rDi (tVar 2) (cI 2003)) (cI 40692)))) (cI 2147483563)))))
theorem mul_left {i j : Int} (h0 : 0 ≤ i) (h : i < 4294967296) : CMul i j := by
  left
  constructor <;> omega
theorem body_mixed (mi : mg "int" = none) (f : Addr) (cdv : Value) (A : Around) (outer : List Env) (st : Shared) (H : Hp) (E : XK) :
    PSs (cxOf CX0 P w K mg base NM "_law_mixed" (defScope sMixed) f cdv A outer st H E).nox (defBody sMixed) tMixed := by
  unfold tMixed
  refine pss_cons (ps_set (i := 2) scMx.nd rfl (.inl rfl) ?a) (pss_cons (ps_set (i := 2) scMx.nd rfl (.inl rfl) ?b) (pss_cons (ps_set (i := 2) scMx.nd rfl (.inl rfl) ?c) (pss_one (ps_ret ?d))))
  case a => exact pe_op op_mod (pe_intc mi rfl (pe_op op_mul (pe_op op_add (pe_op op_mod (pe_intc mi rfl (pv 0)) pe_int) pe_int) (pe_op op_add (pe_op op_mul (pv 1) pe_int) pe_int))) pe_int
  case b => exact pe_op op_mod (pe_intc mi rfl (pe_op op_mul (pe_op op_add (pv 2) (pe_op op_mul (pe_op op_mod (pe_intc mi rfl (pe_op op_fdivW (pv 0) pe_int)) pe_int) (pe_op op_add (pv 1) pe_int))) pe_int)) pe_int
  case c => exact pe_op op_mod (pe_intc mi rfl (pe_op op_mul (pv 2) (pe_op op_add (pe_op op_add (pe_op op_fdivW (pv 2) pe_int) pe_int) (pv 1)))) pe_int
  case d => exact pe_op op_mod (pe_intc mi rfl (pe_op op_mul (pv 2) (pe_op op_add (pe_op op_fdivW (pv 2) pe_int) pe_int))) pe_int
theorem wd {i j : Int} (h : 0 < j) (hb : j < 4294967296) : CDivW i j := wide_div (b := 32) h (by omega) (by decide) (by decide)
theorem pure_mixed (vs : List V) (H : Hp) (Q : VK) (E : XK) (h : spMixed vs H Q E) : tMixed { nx := fun _ H' => Q .non H', rt := Q } (L2.start NM vs) H := by
  obtain ⟨c, d, rfl, k⟩ := h
  unfold tMixed
  dsimp only [tSeq, tAsg, gName, tRet, L2.tOp, tInt, tCB, L2.tCons, L2.tNil, tVar, tC, cI]
  have m1 : ∀ (x m : Int), 0 < m → 0 ≤ x % m ∧ x % m < m := fun x m hm => ⟨Int.emod_nonneg _ (by omega), Int.emod_lt_of_pos _ hm⟩
  refine ⟨_, rfl, Or.inl ⟨_, rfl, _, _, rfl, rfl, (by show (0 : Int) < _; decide), _, _, rfl, rfl, _, rfl, _, _, rfl, rfl, (Or.inr ⟨by decide, by decide⟩), _, _, rfl, rfl, _, _, rfl, rfl, ?_, Or.inl ⟨_, rfl, _, _, rfl, rfl, (by show (0 : Int) < _; decide), ?_⟩⟩⟩
  · have z := m1 c 2147483646 (by decide)
    exact mul_left (by omega) (by omega)
  generalize hf : ((c % 2147483646 + 1) * (d * 7919 + 104729)) % 2147483647 = g1
  refine ⟨_, rfl, _, rfl, _, _, rfl, rfl, wd (by decide) (by decide), Or.inl ⟨_, rfl, _, _, rfl, rfl, (by show (0 : Int) < _; decide), _, rfl, _, _, rfl, rfl, _, _, rfl, rfl, ?_, _, _, rfl, rfl, _, _, rfl, rfl, (Or.inr ⟨by decide, by decide⟩), Or.inl ⟨_, rfl, _, _, rfl, rfl, (by show (0 : Int) < _; decide), ?_⟩⟩⟩
  · have z := m1 (c / 2147483646) 1000003 (by decide)
    exact mul_left (by omega) (by omega)
  generalize hg : ((g1 + c / 2147483646 % 1000003 * (d + 31)) * 48271) % 2147483629 = g2
  have b2 := m1 ((g1 + c / 2147483646 % 1000003 * (d + 31)) * 48271) 2147483629 (by decide)
  rw [hg] at b2
  refine ⟨_, rfl, _, rfl, _, _, rfl, rfl, wd (by decide) (by decide), _, _, rfl, rfl, _, rfl, _, _, rfl, rfl, _, _, rfl, rfl, mul_left (by omega) (by omega), Or.inl ⟨_, rfl, _, _, rfl, rfl, (by show (0 : Int) < _; decide), ?_⟩⟩
  generalize hh : (g2 * (g2 / 1013 + 69621 + d)) % 2147483587 = g3
  have b3 := m1 (g2 * (g2 / 1013 + 69621 + d)) 2147483587 (by decide)
  rw [hh] at b3
  exact ⟨_, rfl, _, rfl, _, _, rfl, rfl, wd (by decide) (by decide), _, _, rfl, rfl, _, _, rfl, rfl, mul_left (by omega) (by omega), Or.inl ⟨_, rfl, _, _, rfl, rfl, (by show (0 : Int) < _; decide), k _⟩⟩
theorem ok_mixed {f : Addr} {fd : FuncData} (F : Fun K "_law_mixed" "_law_mixed" sMixed f fd) (mi : mg "int" = none) : FnOk P w K mg base CX0 1 f fd ["_law_cell", "_law_draw"] spMixed := by
  refine F.ok scMx (fun vs H Q E h => ?_) (fun cdv A outer s H vs Q E hr h => ⟨tMixed, body_mixed mi f cdv A outer s H E, pure_mixed vs H Q E h⟩)
  obtain ⟨_, _, rfl, _⟩ := h
  rfl
def spSource : Sp := fun vs H Q _ => ∃ c : Int, vs = [.int c] ∧ ∀ p, H p = none → Q (.ref p) (upd H p (.lst [.int c, .int c, .int 0]))
def tSource : TS := tRet (tLst (tCons (tVar 0) (tCons (tVar 0) (tCons (cI 0) tNil))))
theorem ok_source {f : Addr} {fd : FuncData} (F : Fun K "_law_source" "_law_source" sSource f fd) : FnOk P w K mg base CX0 1 f fd ["_law_cell"] spSource := by
  refine F.ok scSo (fun vs H Q E h => ?_) (fun cdv A outer s H vs Q E hr h => ⟨tSource, pss_one (ps_ret (pe_lst (pa_cons (pv 0) (pa_cons (pv 0) (pa_cons pe_int pa_nil))))), ?_⟩)
  · obtain ⟨_, rfl, _⟩ := h
    rfl
  · obtain ⟨c, rfl, k⟩ := h
    exact ⟨_, rfl, _, rfl, (show 3 ≤ sizeLine by rw [sizeLine_eq]; decide), k⟩
def spTake : Sp := fun vs H Q _ => ∃ (l : Addr) (a c n b : Int), vs = [.ref l, .int b] ∧ 0 < b ∧ b < 4294967296 ∧ H l = some (.lst [.int a, .int c, .int n]) ∧ ∀ r a' n' : Int, 0 ≤ r → r < b → Q (.int r) (upd H l (.lst [.int a', .int c, .int n']))
abbrev tAt (K : PySem.W.Frag) (i : Int) : TE := tOp (rIxL K) (tVar 0) (cI i)
def tTake (K : PySem.W.Frag) : TS :=
  tSeq (tIfS (tTest (tOp (rI0 fun i j => .bl (decide (j ≤ i))) (tAt K 0) (tOp rPo (cI 10) (cI 18))))
    (tSeq (tAsg (tOp rMo (tInt (tAt K 0)) (tVar 1)) (gName 2)) (tSeq (tAsg (tOp rDi (tAt K 0) (tVar 1)) (gSub (tVar 0) (cI 0) rSetL)) (tRet (tVar 2)))) tNext)
  (tSeq (tAsg (tOp rAd (tAt K 2) (cI 1)) (gSub (tVar 0) (cI 2) rSetL))
  (tRet (tOp rMo (tInt (tCall spMixed [] (fun _ _ _ => False) (tCons (tAt K 1) (tCons (tAt K 2) tNil)))) (tVar 1))))
theorem body_take {fM : Addr} {fdM : FuncData} (FM : FnOk P w K mg base CX0 1 fM fdM ["_law_cell", "_law_draw"] spMixed) (gM : mg "_law_mixed" = some (.ref fM)) (kM : PySem.W.keepIn K (.ref fM) = true) (bM : Binds K fdM ["_law_cell", "_law_draw"] []) (mi : mg "int" = none)
    (f : Addr) (cdv : Value) (A : Around) (outer : List Env) (st : Shared) (H : Hp) (E : XK) (hr : Room 1 (A.deeper (envOfC "_law_take" (defScope sTake) st.heap.objs.size f cdv))) :
    PSs (cxOf CX0 P w K mg base NT "_law_take" (defScope sTake) f cdv A outer st H E).nox (defBody sTake) (tTake K) := by
  unfold tTake
  refine pss_cons (ps_if (pt_cmpR op_ge (pe_ix ix_list (pv 0) pe_int fun _ _ => rfl) (pe_op op_pow pe_int pe_int) rfl) ?t pss_nil) (pss_cons (ps_asg (pe_op op_add (pe_ix ix_list (pv 0) pe_int fun _ _ => rfl) pe_int) (pg_sub (pv 0) pe_int set_list)) (pss_one (ps_ret ?r)))
  case t => exact pss_cons (ps_set (i := 2) scTk.nd rfl (.inl rfl) (pe_op op_mod (pe_intc mi rfl (pe_ix ix_list (pv 0) pe_int fun _ _ => rfl)) (pv 1))) (pss_cons (ps_asg (pe_op op_fdivW (pe_ix ix_list (pv 0) pe_int fun _ _ => rfl) (pv 1)) (pg_sub (pv 0) pe_int set_list)) (pss_one (ps_ret (pv 2))))
  case r => exact pe_op op_mod (pe_intc mi rfl (pe_call FM hr rfl gM kM bM .nil pass0 (pa_cons (pe_ix ix_list (pv 0) pe_int fun _ _ => rfl) (pa_cons (pe_ix ix_list (pv 0) pe_int fun _ _ => rfl) pa_nil)))) (pv 1)
theorem pure_take (vs : List V) (H : Hp) (Q : VK) (E : XK) (h : spTake vs H Q E) : tTake K { nx := fun _ H' => Q .non H', rt := Q } (L2.start NT vs) H := by
  obtain ⟨l, a, c, n, b, rfl, b0, b1, hl, k⟩ := h
  unfold tTake
  have sq : SqL K H l [.int a, .int c, .int n] := Or.inl (Or.inl hl)
  have m1 : ∀ x : Int, 0 ≤ x % b ∧ x % b < b := fun x => ⟨Int.emod_nonneg _ (by omega), Int.emod_lt_of_pos _ b0⟩
  refine ⟨_, rfl, l, _, _, _, rfl, rfl, sq, rfl, _, _, rfl, rfl, ⟨by decide, by decide, by decide⟩, _, _, rfl, rfl, _, rfl, ?_⟩
  by_cases big : (10 : Int) ^ (18 : Int).toNat ≤ a
  · refine if_yes (decide_eq_true big) ?_
    refine ⟨_, rfl, l, _, _, _, rfl, rfl, sq, rfl, Or.inl ⟨_, rfl, _, rfl, _, _, rfl, rfl, (by show (0 : Int) < _; exact b0), ?_⟩⟩
    refine ⟨_, rfl, l, _, _, _, rfl, rfl, sq, rfl, _, rfl, _, _, rfl, rfl, wd b0 b1, ?_⟩
    refine ⟨_, rfl, l, _, _, _, rfl, rfl, hl, rfl, ?_⟩
    exact ⟨_, rfl, k _ _ _ (m1 a).1 (m1 a).2⟩
  · refine if_no (decide_eq_false big) ?_
    refine ⟨_, rfl, l, _, _, _, rfl, rfl, sq, rfl, _, _, rfl, rfl, ?_⟩
    refine ⟨_, rfl, l, _, _, _, rfl, rfl, hl, rfl, ?_⟩
    have sq2 : SqL K (upd H l (.lst ([V.int a, .int c, .int n].set 2 (.int (n + 1))))) l [.int a, .int c, .int (n + 1)] := Or.inl (Or.inl upd_same)
    refine ⟨_, rfl, l, _, _, _, rfl, rfl, sq2, rfl, _, rfl, l, _, _, _, rfl, rfl, sq2, rfl, c, n + 1, rfl, fun r => ?_⟩
    exact Or.inl ⟨_, rfl, _, rfl, _, _, rfl, rfl, (by show (0 : Int) < _; exact b0), k _ _ _ (m1 r).1 (m1 r).2⟩
theorem ok_take {f fM : Addr} {fd fdM : FuncData} (F : Fun K "_law_take" "_law_take" sTake f fd) (FM : FnOk P w K mg base CX0 1 fM fdM ["_law_cell", "_law_draw"] spMixed) (gM : mg "_law_mixed" = some (.ref fM)) (kM : PySem.W.keepIn K (.ref fM) = true) (bM : Binds K fdM ["_law_cell", "_law_draw"] []) (mi : mg "int" = none) :
    FnOk P w K mg base CX0 2 f fd ["_law_source_here", "_law_bound"] spTake := by
  refine F.ok scTk (fun vs H Q E h => ?_) (fun cdv A outer s H vs Q E hr h => ⟨tTake K, body_take FM gM kM bM mi f cdv A outer s H E hr, pure_take vs H Q E h⟩)
  obtain ⟨_, _, _, _, _, rfl, _⟩ := h
  rfl

end
end Ck

namespace Ck
open PySem PySem.Spec PyProof.Rows L2 PySem.ErrKw
mutual
def toD : T → PyData
  | .non => .none
  | .bl b => .bool b
  | .int i => .int i
  | .str z => .str z
  | .tup ts => .tuple (toDs ts)
  | .odd _ => .none
def toDs : List T → List PyData
  | [] => []
  | t :: ts => toD t :: toDs ts
end
mutual
def flatT : T → Bool
  | .non => true
  | .bl _ => true
  | .int _ => true
  | .str _ => true
  | .tup ts => flatTs ts
  | .odd _ => false
def flatTs : List T → Bool
  | [] => true
  | t :: ts => flatT t && flatTs ts
end
section
variable {P : Program} {w : World} {K : PySem.W.Frag} {mg : Str → Option Value} {base : Heap} {dR dS : Addr} {adr : Kind → Addr} {C IP fI fN : Addr}
mutual
theorem Im.dp {H : Hp} : ∀ {v : V} {t : T}, Im K H v t → flatT t = true → Dp K H v (toD t)
  | _, _, .non, _ => .non
  | _, _, .bl b, _ => .bl b
  | _, _, .int i, _ => .int i
  | _, _, .str _, _ => .str _
  | _, _, .tup e r, h => .tup (sqt e) (Ims.dp r (by simpa [flatT] using h))
  | _, _, .odd _ _ _ _ _ _, h => by simp [flatT] at h
theorem Ims.dp {H : Hp} : ∀ {vs : List V} {ts : List T}, Ims K H vs ts → flatTs ts = true → DpAll K H vs (toDs ts)
  | _, _, .nil, _ => .nil
  | _ :: _, t :: ts, .cons a r, h => by
    have h2 : flatT t = true ∧ flatTs ts = true := by simpa [flatTs] using h
    exact .cons (Im.dp a h2.1) (Ims.dp r h2.2)
end
theorem ims_ints {H : Hp} : ∀ path : List Int, Ims K H (path.map V.int) (path.map T.int)
  | [] => .nil
  | i :: r => .cons (.int i) (ims_ints r)
/-- two that are the same are not unlike -/
theorem str_few {z : Str} (h : z.length ≤ 100) : z.length ≤ sizeLine := by rw [sizeLine_eq]; omega
end
end Ck
/-! Loops whose turns stay folded. -/
namespace L2
open PySem
def tLoop (g : TG) (tb : TS) (D : Ends) (σ : St) : It → Hp → Prop := fun J H1 =>
  ∃ W : Nat → Nat → St → Hp → Prop, (∃ m, W 0 m σ H1) ∧ ∀ i m σ H, W i m σ H → (J.stop i H ∧ D.nx σ H) ∨ (J.go i H ∧ ∃ N : St → Hp → Prop, (∀ σ' H', N σ' H' → ∃ m', m' < m ∧ W (i + 1) m' σ' H') ∧ ∀ x H', J.yld i H x H' → g x σ H' fun σ2 H2 => tb { nx := N, rt := D.rt, bk := D.nx, ct := N } σ2 H2)
theorem loop_in {wi : TI} {g : TG} {tb : TS} {D : Ends} {σ : St} {H : Hp} (h : wi σ H (tLoop g tb D σ)) : tFor wi g tb D σ H := h
theorem loop_tup {K : PySem.W.Frag} {a : Addr} {xs : List V} {g : TG} {tb : TS} {D : Ends} {σ : St} {H : Hp} (Pv : Nat → St → Hp → Prop) (h0 : Pv 0 σ H) (hl : ∀ i σ H, i ≤ xs.length → Pv i σ H → SqT K H a xs)
    (hs : ∀ i x σ H, xs[i]? = some x → Pv i σ H → g x σ H fun σ2 H2 => tb { nx := Pv (i + 1), rt := D.rt, bk := D.nx, ct := Pv (i + 1) } σ2 H2) (hd : ∀ σ H, Pv xs.length σ H → D.nx σ H) : tLoop g tb D σ (Itt K a) H := for_tup Pv h0 hl hs hd
theorem loop_list {K : PySem.W.Frag} {a : Addr} {xs : List V} {g : TG} {tb : TS} {D : Ends} {σ : St} {H : Hp} (Pv : Nat → St → Hp → Prop) (h0 : Pv 0 σ H) (hl : ∀ i σ H, i ≤ xs.length → Pv i σ H → SqL K H a xs)
    (hs : ∀ i x σ H, xs[i]? = some x → Pv i σ H → g x σ H fun σ2 H2 => tb { nx := Pv (i + 1), rt := D.rt, bk := D.nx, ct := Pv (i + 1) } σ2 H2) (hd : ∀ σ H, Pv xs.length σ H → D.nx σ H) : tLoop g tb D σ (Itl K a) H := for_list Pv h0 hl hs hd
theorem loop_range {lo : Int} {n : Nat} {g : TG} {tb : TS} {D : Ends} {σ : St} {H : Hp} (Pv : Nat → St → Hp → Prop) (h0 : Pv 0 σ H)
    (hs : ∀ i σ H, i < n → Pv i σ H → g (.int (lo + i)) σ H fun σ2 H2 => tb { nx := Pv (i + 1), rt := D.rt, bk := D.nx, ct := Pv (i + 1) } σ2 H2) (hd : ∀ σ H, Pv n σ H → D.nx σ H) : tLoop g tb D σ (Itr lo n) H := for_range Pv h0 hs hd
def tLcL (g : TG) (tt : TT) (te : TE) (vs : List Nat) (σ : St) (Q : VK) : It → Hp → Prop := fun J H1 => ∀ D, H1 D = none → ∃ W : Nat → Nat → Hp → Prop, (∃ m, W 0 m (upd H1 D (.lst []))) ∧ ∀ i m H, W i m H → (J.stop i H ∧ Q (.ref D) H) ∨ (J.go i H ∧ ∃ Nx : Hp → Prop, (∀ H', Nx H' → ∃ m', m' < m ∧ W (i + 1) m' H') ∧
  ∀ x H', J.yld i H x H' → g x (wipe σ vs) H' fun σ2 H2 => wipe σ2 vs = wipe σ vs ∧ tt σ2 H2 fun b H3 => if b = true then te σ2 H3 fun y H4 => ∃ acc, H4 D = some (.lst acc) ∧ acc.length < sizeLine ∧ Nx (upd H4 D (.lst (acc ++ [y]))) else Nx H3)
theorem lc_in {wi : TI} {g : TG} {tt : TT} {te : TE} {vs : List Nat} {σ : St} {H : Hp} {Q : VK} (h : wi σ H (tLcL g tt te vs σ Q)) : tLc wi g tt te vs σ H Q := h
theorem lcl_range {lo : Int} {n : Nat} {g : TG} {tt : TT} {te : TE} {vs : List Nat} {σ : St} {H1 : Hp} {Q : VK} (Pv : Addr → Nat → Hp → Prop) (h0 : ∀ D, H1 D = none → Pv D 0 (upd H1 D (.lst [])))
    (hs : ∀ D, H1 D = none → ∀ i H, i < n → Pv D i H → g (.int (lo + i)) (wipe σ vs) H fun σ2 H2 => wipe σ2 vs = wipe σ vs ∧ tt σ2 H2 fun b H3 => if b = true then te σ2 H3 fun y H4 => ∃ acc, H4 D = some (.lst acc) ∧ acc.length < sizeLine ∧ Pv D (i + 1) (upd H4 D (.lst (acc ++ [y]))) else Pv D (i + 1) H3)
    (hd : ∀ D, H1 D = none → ∀ H, Pv D n H → Q (.ref D) H) : tLcL g tt te vs σ Q (Itr lo n) H1 := fun D nD => lc_range (D := D) (Pv D) (h0 D nD) (hs D nD) (hd D nD)
end L2
/-! Data that has no strange things in it. -/
namespace Ck
open PySem PySem.Spec PyProof.Rows L2
section
variable {P : Program} {w : World} {K : PySem.W.Frag} {mg : Str → Option Value} {base : Heap} {H H1 H2 : Hp}
/-- tuples stay -/
def Stay (H H' : Hp) : Prop := ∀ b xs, H b = some (.tup xs) → H' b = some (.tup xs)
theorem flatTs_cons {t : T} {ts : List T} (f : flatTs (t :: ts) = true) : flatT t = true ∧ flatTs ts = true := by simpa [flatTs] using f
theorem same_stay (h : Same H H1) : Stay H H1 := fun b xs z => h b _ z
theorem stay_lst {l : Addr} {xs : List V} {o : HO} (h : H l = some (.lst xs)) : Stay H (upd H l o) := fun b ys z => by
  rw [upd_ne (ne_of z h (by intro z; cases z))]
  exact z
theorem Stay.trans (h : Stay H H1) (h2 : Stay H1 H2) : Stay H H2 := fun b xs z => h2 b xs (h b xs z)
mutual
theorem im_stay (s : Stay H H1) : ∀ {v : V} {t : T}, flatT t = true → Im K H v t → Im K H1 v t
  | _, _, _, .non => .non
  | _, _, _, .bl b => .bl b
  | _, _, _, .int i => .int i
  | _, _, _, .str z => .str z
  | _, _, f, .tup e r => .tup (s _ _ e) (ims_stay s (by simpa [flatT] using f) r)
  | _, _, f, .odd _ _ _ _ _ _ => by simp [flatT] at f
theorem ims_stay (s : Stay H H1) : ∀ {vs : List V} {ts : List T}, flatTs ts = true → Ims K H vs ts → Ims K H1 vs ts
  | _, _, _, .nil => .nil
  | _ :: _, _ :: _, f, .cons a r => by
    have f2 := flatTs_cons f
    exact .cons (im_stay s f2.1 a) (ims_stay s f2.2 r)
end
structure Dat (K : PySem.W.Frag) (H : Hp) (v : V) (t : T) : Prop where
  im : Im K H v t
  fl : flatT t = true
structure Dats (K : PySem.W.Frag) (H : Hp) (vs : List V) (ts : List T) : Prop where
  im : Ims K H vs ts
  fl : flatTs ts = true
theorem Dat.up {v : V} {t : T} (d : Dat K H v t) (s : Stay H H1) : Dat K H1 v t := ⟨im_stay s d.fl d.im, d.fl⟩
theorem Dats.up {v : List V} {t : List T} (d : Dats K H v t) (s : Stay H H1) : Dats K H1 v t := ⟨ims_stay s d.fl d.im, d.fl⟩
theorem Dat.int (i : Int) : Dat K H (.int i) (.int i) := ⟨.int i, rfl⟩
theorem Dat.non : Dat K H .non .non := ⟨.non, rfl⟩
theorem Dat.str {z : Str} (h : z.length ≤ 100) : Dat K H (.str z) (.str z) := ⟨.str (str_few h), rfl⟩
theorem Dats.nil : Dats K H [] [] := ⟨.nil, rfl⟩
theorem Dats.cons {v : V} {t : T} {vs : List V} {ts : List T} (d : Dat K H v t) (r : Dats K H vs ts) : Dats K H (v :: vs) (t :: ts) := ⟨.cons d.im r.im, by rw [flatTs, d.fl, r.fl]; rfl⟩
theorem Dats.tup {vs : List V} {ts : List T} (r : Dats K H vs ts) {a : Addr} (h : H a = some (.tup vs)) : Dat K H (.ref a) (.tup ts) := ⟨.tup h r.im, by rw [flatT]; exact r.fl⟩
theorem Dats.app {vs us : List V} {ts ss : List T} : Dats K H vs ts → Dats K H us ss → Dats K H (vs ++ us) (ts ++ ss) := fun a b => by
  obtain ⟨im, fl⟩ := a
  induction vs generalizing ts with
  | nil => cases im; exact b
  | cons v vs ih =>
    cases im with
    | cons x r =>
      have f2 := flatTs_cons fl
      exact Dats.cons ⟨x, f2.1⟩ (ih r f2.2)
theorem Dats.rep {v : V} {t : T} (d : Dat K H v t) : ∀ n : Nat, Dats K H (List.replicate n v) (List.replicate n t)
  | 0 => .nil
  | n + 1 => by rw [List.replicate_succ, List.replicate_succ]; exact .cons d (Dats.rep d n)
theorem Dats.len {vs : List V} {ts : List T} (d : Dats K H vs ts) : vs.length = ts.length := by
  obtain ⟨im, fl⟩ := d
  clear fl
  induction vs generalizing ts with
  | nil => cases im; rfl
  | cons v vs ih =>
    cases im with
    | cons x r => rw [List.length_cons, List.length_cons, ih r]
theorem grow {p : Addr} {xs : List V} {ts : List T} (n : H p = none) (ds : Dats K H xs ts) : ∃ H1, upd H p (.tup xs) = H1 ∧ Same H H1 ∧ Dat K H1 (.ref p) (.tup ts) ∧ H1 p = some (.tup xs) := by
  have s : Same H (upd H p (.tup xs)) := Ck.Same.new (fun _ _ z => z) n
  exact ⟨_, rfl, s, (ds.up (same_stay s)).tup upd_same, upd_same⟩
theorem flat_rep {α : Type} (n : Nat) (x : α) : (List.replicate n [x]).flatten = List.replicate n x := by
  induction n with
  | zero => rfl
  | succ n ih => rw [List.replicate_succ, List.flatten_cons, ih, List.replicate_succ]; rfl
/-- where a source of draws stands -/
def Sr (l : Addr) (H : Hp) : Prop := ∃ a c n : Int, H l = some (.lst [.int a, .int c, .int n])
theorem Sr.up {l : Addr} (h : Sr l H) (s : Same H H1) : Sr l H1 := by
  obtain ⟨a, c, n, e⟩ := h
  exact ⟨a, c, n, s _ _ e⟩
/-- a draw, as the others use it -/
theorem take_use {l : Addr} {b : Int} {Q : VK} {E : XK} (h : Sr l H) (b0 : 0 < b) (b1 : b < 4294967296) (q : ∀ (r : Int) H1, 0 ≤ r → r < b → Stay H H1 → (∀ p, p ≠ l → H1 p = H p) → Sr l H1 → Q (.int r) H1) : spTake [.ref l, .int b] H Q E := by
  obtain ⟨a, c, n, e⟩ := h
  exact ⟨l, a, c, n, b, rfl, b0, b1, e, fun r a' n' r0 r1 => q r _ r0 r1 (stay_lst e) (fun p z => upd_ne z) ⟨_, _, _, upd_same⟩⟩
theorem dat_ne {v u : V} {s : T} {Q : VK} (sh : SeqAt.shaped (toD s) = true) (h1 : Dat K H v s) (h2 : Dat K H u s) (q : Q (.bl false) H) : rNeD K v u H Q := by
  refine ⟨_, _, h1.im.dp h1.fl, h2.im.dp h2.fl, sh, sh, ?_⟩
  rw [SeqAt.eqv_refl _ (SeqAt.canLay_of_shaped sh)]
  exact q
theorem dat_eq {v u : V} {s : T} {Q : VK} (sh : SeqAt.shaped (toD s) = true) (h1 : Dat K H v s) (h2 : Dat K H u s) (q : Q (.bl true) H) : rEqD K v u H Q := by
  refine ⟨_, _, h1.im.dp h1.fl, h2.im.dp h2.fl, sh, sh, ?_⟩
  rw [SeqAt.eqv_refl _ (SeqAt.canLay_of_shaped sh)]
  exact q
theorem sl {n : Nat} (h : n ≤ 1000000) : n ≤ sizeLine := by rw [sizeLine_eq]; omega
abbrev GTk (P : Program) (w : World) (K : PySem.W.Frag) (mg : Str → Option Value) (base : Heap) : Prop := Go P w K mg base CX0 88 "_law_take" ["_law_source_here", "_law_bound"] spTake
end
end Ck

/-! Expressions in which something is drawn: which values they may have. -/
namespace Ck
open PySem PySem.Spec PyProof.Rows L2
abbrev TSet := T → Prop
abbrev TsSet := List T → Prop
section
variable {X : Cx} {P : Program} {w : World} {K : PySem.W.Frag} {mg : Str → Option Value} {base : Heap} {H H1 H2 : Hp} {l : Addr}
theorem pe_imp {e : Expr} {t t' : TE} (p : PE X e t) (h : ∀ σ H Q, t' σ H Q → t σ H Q) : PE X e t' := ⟨fun pins s σ H Q I z => p.run pins s σ H Q I (h σ H Q z)⟩
theorem pa_imp {e : List Expr} {t t' : TA} (p : PA X e t) (h : ∀ σ H Q, t' σ H Q → t σ H Q) : PA X e t' := ⟨fun ps pins s σ H Q I z => p.run ps pins s σ H Q I (h σ H Q z)⟩
theorem pt_imp {e : Expr} {t t' : TT} (p : PT X e t) (h : ∀ σ H Q, t' σ H Q → t σ H Q) : PT X e t' := ⟨fun pins s σ H Q I z => p.run pins s σ H Q I (h σ H Q z)⟩
theorem same_id : Same H H := fun _ _ z => z
theorem same_new {p : Addr} {o : HO} (n : H p = none) : Same H (upd H p o) := Ck.Same.new same_id n
/-- a list of data at an address -/
def LD (K : PySem.W.Frag) (H : Hp) (a : Addr) (ts : List T) : Prop := ∃ xs, H a = some (.lst xs) ∧ Dats K H xs ts
/-- all but the source stays -/
structure Dr (l : Addr) (H H' : Hp) : Prop where
  keep : ∀ p o, p ≠ l → H p = some o → H' p = some o
  st : Stay H H'
  sr : Sr l H'
theorem Dr.refl (s : Sr l H) : Dr l H H := ⟨fun _ _ _ z => z, fun _ _ z => z, s⟩
theorem Dr.trans (a : Dr l H H1) (b : Dr l H1 H2) : Dr l H H2 := ⟨fun p o n z => b.keep p o n (a.keep p o n z), a.st.trans b.st, b.sr⟩
theorem Dr.same (s : Sr l H) (h : Same H H1) : Dr l H H1 := ⟨fun p o _ z => h p o z, same_stay h, s.up h⟩
theorem Dr.new {p : Addr} {o : HO} (a : Dr l H H1) (n : H1 p = none) : Dr l H (upd H1 p o) := a.trans (.same a.sr (same_new n))
theorem Sr.ne {p : Addr} (s : Sr l H) (n : H p = none) : p ≠ l := by
  obtain ⟨a, c, k, e⟩ := s
  rintro rfl
  rw [n] at e
  cases e
theorem LD.up {a : Addr} {ts : List T} (h : LD K H a ts) (s : Same H H1) : LD K H1 a ts := by
  obtain ⟨xs, e, d⟩ := h
  exact ⟨xs, s _ _ e, d.up (same_stay s)⟩
theorem LD.dr {a : Addr} {ts : List T} (h : LD K H a ts) (s : Dr l H H1) (n : a ≠ l) : LD K H1 a ts := by
  obtain ⟨xs, e, d⟩ := h
  exact ⟨xs, s.keep _ _ n e, d.up s.st⟩
theorem dat_int {v : V} {i : Int} (d : Dat K H v (.int i)) : v = .int i := by
  obtain ⟨im, _⟩ := d
  cases im
  rfl
theorem dat_str {v : V} {z : Str} (d : Dat K H v (.str z)) : v = .str z := by
  obtain ⟨im, _⟩ := d
  cases im
  rfl
theorem dat_bl {v : V} {b : Bool} (d : Dat K H v (.bl b)) : v = .bl b := by
  obtain ⟨im, _⟩ := d
  cases im
  rfl
theorem dat_non {v : V} (d : Dat K H v .non) : v = .non := by
  obtain ⟨im, _⟩ := d
  cases im
  rfl
theorem dat_tup {v : V} {ts : List T} (d : Dat K H v (.tup ts)) : ∃ a xs, v = .ref a ∧ H a = some (.tup xs) ∧ Dats K H xs ts := by
  obtain ⟨im, f⟩ := d
  cases im with
  | tup e r => exact ⟨_, _, rfl, e, r, by rw [flatT] at f; exact f⟩
theorem dats_nil {vs : List V} (d : Dats K H vs []) : vs = [] := List.eq_nil_of_length_eq_zero d.len
theorem dats_cons {vs : List V} {t : T} {ts : List T} (d : Dats K H vs (t :: ts)) : ∃ v us, vs = v :: us ∧ Dat K H v t ∧ Dats K H us ts := by
  obtain ⟨im, f⟩ := d
  have f2 := flatTs_cons f
  cases im with
  | cons a r => exact ⟨_, _, rfl, ⟨a, f2.1⟩, ⟨r, f2.2⟩⟩
theorem Dats.reps {vs : List V} {ts : List T} (d : Dats K H vs ts) : ∀ n : Nat, Dats K H (List.replicate n vs).flatten (List.replicate n ts).flatten
  | 0 => .nil
  | n + 1 => by rw [List.replicate_succ, List.replicate_succ, List.flatten_cons, List.flatten_cons]; exact d.app (Dats.reps d n)
theorem Dats.at {vs : List V} {ts : List T} (d : Dats K H vs ts) {n : Nat} {t : T} (h : ts[n]? = some t) : ∃ v, vs[n]? = some v ∧ Dat K H v t := by
  induction n generalizing vs ts with
  | zero =>
    cases ts with
    | nil => cases h
    | cons t ts =>
      obtain ⟨v, us, rfl, a, r⟩ := dats_cons d
      cases h
      exact ⟨v, rfl, a⟩
  | succ n ih =>
    cases ts with
    | nil => cases h
    | cons t ts =>
      obtain ⟨v, us, rfl, a, r⟩ := dats_cons d
      exact ih r h
abbrev tR (K : PySem.W.Frag) (l : Addr) (C : L2.St → Hp → TSet → Prop) : TE := fun σ H Q => ∃ D, C σ H D ∧ Sr l H ∧ ∀ t v H', D t → Dr l H H' → Dat K H' v t → Q v H'
abbrev tRs (K : PySem.W.Frag) (l : Addr) (C : L2.St → Hp → TsSet → Prop) : TA := fun σ H Q => ∃ D, C σ H D ∧ Sr l H ∧ ∀ ts vs H', D ts → Dr l H H' → Dats K H' vs ts → Q vs H'
abbrev tRl (K : PySem.W.Frag) (l : Addr) (C : L2.St → Hp → TsSet → Prop) : TE := fun σ H Q => ∃ D, C σ H D ∧ Sr l H ∧ ∀ ts a H', D ts → Dr l H H' → a ≠ l → LD K H' a ts → Q (.ref a) H'
structure PR (X : Cx) (l : Addr) (e : Expr) (C : L2.St → Hp → TSet → Prop) : Prop where
  pe : PE X e (tR X.K l C)
  up : ∀ σ H H' D, Dr l H H' → C σ H D → C σ H' D
structure PRs (X : Cx) (l : Addr) (es : List Expr) (C : L2.St → Hp → TsSet → Prop) : Prop where
  pa : PA X es (tRs X.K l C)
  up : ∀ σ H H' D, Dr l H H' → C σ H D → C σ H' D
structure PRl (X : Cx) (l : Addr) (e : Expr) (C : L2.St → Hp → TsSet → Prop) : Prop where
  pe : PE X e (tRl X.K l C)
  up : ∀ σ H H' D, Dr l H H' → C σ H D → C σ H' D
theorem pe_r {e : Expr} {C : L2.St → Hp → TSet → Prop} (h : PR X l e C) : PE X e (tR X.K l C) := h.pe
theorem pe_rl {e : Expr} {C : L2.St → Hp → TsSet → Prop} (h : PRl X l e C) : PE X e (tRl X.K l C) := h.pe
/-! ### the rules -/
theorem pr_int {i : Int} {j : Nat} {pos : Pos} : PR X l (.Constant (.int i) j pos) fun _ _ D => D = fun t => t = .int i :=
  ⟨pe_imp pe_int fun σ H Q ⟨D, e, s, q⟩ => by subst e; exact q _ _ _ rfl (.refl s) (.int i), fun _ _ _ _ _ h => h⟩
theorem pr_non {j : Nat} {pos : Pos} : PR X l (.Constant .none j pos) fun _ _ D => D = fun t => t = .non :=
  ⟨pe_imp pe_non fun σ H Q ⟨D, e, s, q⟩ => by subst e; exact q _ _ _ rfl (.refl s) .non, fun _ _ _ _ _ h => h⟩
theorem pr_str {z : Str} {j : Nat} {pos : Pos} (few : z.length ≤ 100 := by decide +kernel) : PR X l (.Constant (.str z) j pos) fun _ _ D => D = fun t => t = .str z :=
  ⟨pe_imp pe_str fun σ H Q ⟨D, e, s, q⟩ => by subst e; exact q _ _ _ rfl (.refl s) (.str few), fun _ _ _ _ _ h => h⟩
theorem Dat.bl (b : Bool) : Dat K H (.bl b) (.bl b) := ⟨.bl b, rfl⟩
theorem pr_bool {b : Bool} {j : Nat} {pos : Pos} : PR X l (.Constant (.bool b) j pos) fun _ _ D => D = fun t => t = .bl b :=
  ⟨pe_imp pe_bl fun σ H Q ⟨D, e, s, q⟩ => by subst e; exact q _ _ _ rfl (.refl s) (.bl b), fun _ _ _ _ _ h => h⟩
theorem pr_var (i : Nat) {x : Str} {pos : Pos} (p : PE X (.Name x pos) (tVar i)) : PR X l (.Name x pos) fun σ H D => ∃ v t, σ[i]? = some (some v) ∧ Dat X.K H v t ∧ D = fun u => u = t :=
  ⟨pe_imp p fun σ H Q ⟨D, ⟨v, t, e, d, z⟩, s, q⟩ => by subst z; exact ⟨v, e, q _ _ _ rfl (.refl s) d⟩, fun _ _ _ _ s ⟨v, t, e, d, z⟩ => ⟨v, t, e, d.up s.st, z⟩⟩
theorem prs_nil : PRs X l [] fun _ _ D => D = fun ts => ts = [] := ⟨pa_imp pa_nil fun σ H Q ⟨D, e, s, q⟩ => by subst e; exact q _ _ _ rfl (.refl s) .nil, fun _ _ _ _ _ h => h⟩
theorem prs_cons {e : Expr} {es : List Expr} {C : L2.St → Hp → TSet → Prop} {Cs : L2.St → Hp → TsSet → Prop} (a : PR X l e C) (r : PRs X l es Cs) (h : starEach (e :: es) X.env = (false, eval e X.env) :: starEach es X.env := by rfl) :
    PRs X l (e :: es) fun σ H D => ∃ D1 D2, C σ H D1 ∧ Cs σ H D2 ∧ D = fun ts => ∃ t us, ts = t :: us ∧ D1 t ∧ D2 us :=
  ⟨pa_imp (pa_cons a.pe r.pa h) fun σ H Q ⟨D, ⟨D1, D2, c1, c2, e⟩, s, q⟩ => by
    subst e
    refine ⟨D1, c1, s, fun t v H1 d1 r1 a1 => ⟨D2, r.up _ _ _ _ r1 c2, r1.sr, fun us vs H2 d2 r2 a2 => ?_⟩⟩
    exact q _ _ _ ⟨t, us, rfl, d1, d2⟩ (r1.trans r2) (.cons (a1.up r2.st) a2), fun σ _ _ _ s ⟨D1, D2, c1, c2, e⟩ => ⟨D1, D2, a.up _ _ _ _ s c1, r.up _ _ _ _ s c2, e⟩⟩
theorem pr_tup {es : List Expr} {j : Nat} {pos : Pos} {Cs : L2.St → Hp → TsSet → Prop} (a : PRs X l es Cs) (few : es.length ≤ 1000 := by decide) : PR X l (.Tuple es j pos) fun σ H D => ∃ D1, Cs σ H D1 ∧ (∀ ts, D1 ts → ts.length ≤ 1000) ∧ D = fun t => ∃ ts, t = .tup ts ∧ D1 ts :=
  ⟨pe_imp (pe_tup a.pa) fun σ H Q ⟨D, ⟨D1, c, b, e⟩, s, q⟩ => by
    subst e
    refine ⟨D1, c, s, fun ts vs H1 d1 r1 a1 => ⟨sl (by rw [a1.len]; have := b ts d1; omega), fun p n => ?_⟩⟩
    exact q _ _ _ ⟨ts, rfl, d1⟩ (r1.new n) ((a1.up (same_stay (same_new n))).tup upd_same), fun σ _ _ _ s ⟨D1, c, b, e⟩ => ⟨D1, a.up _ _ _ _ s c, b, e⟩⟩
theorem prl_disp {es : List Expr} {pos : Pos} {Cs : L2.St → Hp → TsSet → Prop} (a : PRs X l es Cs) : PRl X l (.List es pos) fun σ H D => Cs σ H D ∧ (∀ ts, D ts → ts.length ≤ 1000) :=
  ⟨pe_imp (pe_lst a.pa) fun σ H Q ⟨D, ⟨c, b⟩, s, q⟩ => by
    refine ⟨D, c, s, fun ts vs H1 d1 r1 a1 => ⟨sl (by rw [a1.len]; have := b ts d1; omega), fun p n => ?_⟩⟩
    exact q _ _ _ d1 (r1.new n) (r1.sr.ne n) ⟨vs, upd_same, a1.up (same_stay (same_new n))⟩, fun σ _ _ _ s ⟨c, b⟩ => ⟨a.up _ _ _ _ s c, b⟩⟩
theorem prl_var (i : Nat) {x : Str} {pos : Pos} (p : PE X (.Name x pos) (tVar i)) : PRl X l (.Name x pos) fun σ H D => ∃ a ts, σ[i]? = some (some (.ref a)) ∧ a ≠ l ∧ LD X.K H a ts ∧ D = fun us => us = ts :=
  ⟨pe_imp p fun σ H Q ⟨D, ⟨a, ts, e, n, d, z⟩, s, q⟩ => by subst z; exact ⟨_, e, q _ _ _ rfl (.refl s) n d⟩, fun _ _ _ _ s ⟨a, ts, e, n, d, z⟩ => ⟨a, ts, e, n, d.dr s n, z⟩⟩
/-- one of a list by a number -/
theorem pr_atL {e ix : Expr} {pos : Pos} {Cl : L2.St → Hp → TsSet → Prop} {Ci : L2.St → Hp → TSet → Prop} (ha : PRl X l e Cl) (hi : PR X l ix Ci) (hs : PlainIx ix) :
    PR X l (.Subscript e ix pos) fun σ H D => ∃ D1 D2, Cl σ H D1 ∧ Ci σ H D2 ∧ (∀ ts t, D1 ts → D2 t → ∃ (k : Nat) (u : T), t = .int (k : Nat) ∧ ts[k]? = some u) ∧ D = fun u => ∃ ts, ∃ k : Nat, D1 ts ∧ D2 (.int (k : Nat)) ∧ ts[k]? = some u :=
  ⟨pe_imp (pe_ix ix_list ha.pe hi.pe hs) fun σ H Q ⟨D, ⟨D1, D2, c1, c2, b, e⟩, s, q⟩ => by
    subst e
    refine ⟨D1, c1, s, fun ts a H1 d1 r1 na ⟨xs, ex, dx⟩ => ⟨D2, hi.up _ _ _ _ r1 c2, r1.sr, fun t v H2 d2 r2 a2 => ?_⟩⟩
    obtain ⟨k, u, rfl, eu⟩ := b ts t d1 d2
    obtain ⟨y, ey, dy⟩ := (dx.up r2.st).at eu
    exact ⟨a, xs, _, y, rfl, dat_int a2, .inl (.inl (r2.keep _ _ na ex)), atI_nat ey, q _ _ _ ⟨ts, k, d1, d2, eu⟩ (r1.trans r2) dy⟩, fun σ _ _ _ s ⟨D1, D2, c1, c2, b, e⟩ => ⟨D1, D2, ha.up _ _ _ _ s c1, hi.up _ _ _ _ s c2, b, e⟩⟩
/-- one of a tuple by a number that is written -/
theorem pr_atT {e : Expr} {i j : Nat} {p pos : Pos} {C : L2.St → Hp → TSet → Prop} (ha : PR X l e C) :
    PR X l (.Subscript e (.Constant (.int (i : Nat)) j p) pos) fun σ H D => ∃ D1, C σ H D1 ∧ (∀ t, D1 t → ∃ ts u, t = .tup ts ∧ ts[i]? = some u) ∧ D = fun u => ∃ ts, D1 (.tup ts) ∧ ts[i]? = some u :=
  ⟨pe_imp (pe_ix ix_tup ha.pe pe_int fun _ _ => rfl) fun σ H Q ⟨D, ⟨D1, c1, b, e⟩, s, q⟩ => by
    subst e
    refine ⟨D1, c1, s, fun t v H1 d1 r1 a1 => ?_⟩
    obtain ⟨ts, u, rfl, eu⟩ := b t d1
    obtain ⟨a, xs, rfl, ea, dx⟩ := dat_tup a1
    obtain ⟨y, ey, dy⟩ := dx.at eu
    exact ⟨a, xs, _, y, rfl, rfl, sqt ea, atI_nat ey, q _ _ _ ⟨ts, d1, eu⟩ r1 dy⟩, fun σ _ _ _ s ⟨D1, c1, b, e⟩ => ⟨D1, ha.up _ _ _ _ s c1, b, e⟩⟩
theorem pr_bin {a b : Expr} {pos : Pos} {op : Operator} {f : Int → Int → Int} {C1 C2 : L2.St → Hp → TSet → Prop} (o : OpR X (binaryOp op) (rI0 fun i j => .int (f i j))) (ha : PR X l a C1) (hb : PR X l b C2) :
    PR X l (.BinOp a op b pos) fun σ H D => ∃ D1 D2, C1 σ H D1 ∧ C2 σ H D2 ∧ (∀ t u, D1 t → D2 u → ∃ i j, t = .int i ∧ u = .int j) ∧ D = fun t => ∃ i j, D1 (.int i) ∧ D2 (.int j) ∧ t = .int (f i j) :=
  ⟨pe_imp (pe_op o ha.pe hb.pe) fun σ H Q ⟨D, ⟨D1, D2, c1, c2, b, e⟩, s, q⟩ => by
    subst e
    refine ⟨D1, c1, s, fun t v H1 d1 r1 a1 => ⟨D2, hb.up _ _ _ _ r1 c2, r1.sr, fun u v2 H2 d2 r2 a2 => ?_⟩⟩
    obtain ⟨i, j, rfl, rfl⟩ := b t u d1 d2
    exact ⟨i, j, dat_int a1, dat_int a2, q _ _ _ ⟨i, j, d1, d2, rfl⟩ (r1.trans r2) (.int _)⟩, fun σ _ _ _ s ⟨D1, D2, c1, c2, b, e⟩ => ⟨D1, D2, ha.up _ _ _ _ s c1, hb.up _ _ _ _ s c2, b, e⟩⟩
theorem prl_rep {a : Expr} {n j : Nat} {p pos : Pos} {C : L2.St → Hp → TsSet → Prop} (ha : PRl X l a C) (few : n ≤ 10000 := by decide) :
    PRl X l (.BinOp a .Mult (.Constant (.int (n : Nat)) j p) pos) fun σ H D => ∃ D1, C σ H D1 ∧ (∀ ts, D1 ts → ts.length ≤ 100) ∧ D = fun us => ∃ ts, D1 ts ∧ us = (List.replicate n ts).flatten :=
  ⟨pe_imp (pe_op op_rep ha.pe pe_int) fun σ H Q ⟨D, ⟨D1, c, b, e⟩, s, q⟩ => by
    subst e
    refine ⟨D1, c, s, fun ts a H1 d1 r1 na ⟨xs, ex, dx⟩ => ?_⟩
    have room : xs.length * n ≤ 100 * 10000 := Nat.mul_le_mul (by rw [dx.len]; exact b ts d1) few
    refine ⟨a, (n : Nat), xs, rfl, rfl, ex, by omega, by omega, sl (by show xs.length * n ≤ _; omega), fun p2 np => ?_⟩
    exact q _ _ _ ⟨ts, d1, rfl⟩ (r1.new np) (r1.sr.ne np) ⟨_, upd_same, (dx.up (same_stay (same_new np))).reps n⟩, fun σ _ _ _ s ⟨D1, c, b, e⟩ => ⟨D1, ha.up _ _ _ _ s c, b, e⟩⟩
theorem prl_cat {a b : Expr} {pos : Pos} {C1 C2 : L2.St → Hp → TsSet → Prop} (ha : PRl X l a C1) (hb : PRl X l b C2) :
    PRl X l (.BinOp a .Add b pos) fun σ H D => ∃ D1 D2, C1 σ H D1 ∧ C2 σ H D2 ∧ (∀ ts us, D1 ts → D2 us → ts.length + us.length ≤ 10000) ∧ D = fun vs => ∃ ts us, D1 ts ∧ D2 us ∧ vs = ts ++ us :=
  ⟨pe_imp (pe_op op_cat ha.pe hb.pe) fun σ H Q ⟨D, ⟨D1, D2, c1, c2, b, e⟩, s, q⟩ => by
    subst e
    refine ⟨D1, c1, s, fun ts a H1 d1 r1 na ⟨xs, ex, dx⟩ => ⟨D2, hb.up _ _ _ _ r1 c2, r1.sr, fun us a2 H2 d2 r2 na2 ⟨ys, ey, dy⟩ => ?_⟩⟩
    have few := b ts us d1 d2
    refine ⟨a, a2, xs, ys, rfl, rfl, r2.keep _ _ na ex, ey, sl (by rw [dx.len, dy.len]; omega), fun p2 np => ?_⟩
    exact q _ _ _ ⟨ts, us, d1, d2, rfl⟩ ((r1.trans r2).new np) (r2.sr.ne np) ⟨_, upd_same, ((dx.up r2.st).app dy).up (same_stay (same_new np))⟩, fun σ _ _ _ s ⟨D1, D2, c1, c2, b, e⟩ => ⟨D1, D2, ha.up _ _ _ _ s c1, hb.up _ _ _ _ s c2, b, e⟩⟩
theorem pr_cat {a b : Expr} {pos : Pos} {C1 C2 : L2.St → Hp → TSet → Prop} (ha : PR X l a C1) (hb : PR X l b C2) :
    PR X l (.BinOp a .Add b pos) fun σ H D => ∃ D1 D2, C1 σ H D1 ∧ C2 σ H D2 ∧ (∀ t u, D1 t → D2 u → ∃ ts us, t = .tup ts ∧ u = .tup us ∧ ts.length + us.length ≤ 10000) ∧ D = fun v => ∃ ts us, D1 (.tup ts) ∧ D2 (.tup us) ∧ v = .tup (ts ++ us) :=
  ⟨pe_imp (pe_op op_catA ha.pe hb.pe) fun σ H Q ⟨D, ⟨D1, D2, c1, c2, b, e⟩, s, q⟩ => by
    subst e
    refine ⟨D1, c1, s, fun t v H1 d1 r1 a1 => ⟨D2, hb.up _ _ _ _ r1 c2, r1.sr, fun u v2 H2 d2 r2 a2 => ?_⟩⟩
    obtain ⟨ts, us, rfl, rfl, few⟩ := b t u d1 d2
    obtain ⟨p, xs, rfl, hp, ds⟩ := dat_tup (a1.up r2.st)
    obtain ⟨r, ys, rfl, hr, es⟩ := dat_tup a2
    have l1 := ds.len
    have l2 := es.len
    have qq := fun v H' => q (.tup (ts ++ us)) v H' ⟨ts, us, d1, d2, rfl⟩
    refine ⟨p, r, xs, ys, rfl, rfl, sqt hp, sqt hr, sl (by rw [l1, l2]; omega), fun z => ?_, fun _ z => ?_, fun _ _ p2 n => ?_⟩
    · rw [z] at l1
      have e : ts = [] := List.eq_nil_of_length_eq_zero l1.symm
      rw [e] at qq
      exact qq _ _ (r1.trans r2) a2
    · rw [z] at l2
      have e : us = [] := List.eq_nil_of_length_eq_zero l2.symm
      rw [e, List.append_nil] at qq
      exact qq _ _ (r1.trans r2) (a1.up r2.st)
    · exact qq _ _ ((r1.trans r2).new n) (((ds.app es).up (same_stay (same_new n))).tup upd_same), fun σ _ _ _ s ⟨D1, D2, c1, c2, b, e⟩ => ⟨D1, D2, ha.up _ _ _ _ s c1, hb.up _ _ _ _ s c2, b, e⟩⟩
/-- tuple(a list) -/
theorem pr_tuple {e : Expr} {p pos : Pos} {C : L2.St → Hp → TsSet → Prop} (mt : X.mg "tuple" = none) (hg : Gl X "tuple") (ha : PRl X l e C) (h1 : starEach [e] X.env = (false, eval e X.env) :: starEach [] X.env := by rfl) (h2 : ((backTo pos (starEach [] X.env)).any fun x => x.1) = false := by rfl) :
    PR X l (.Call (.Name "tuple" p) [e] [] pos) fun σ H D => ∃ D1, C σ H D1 ∧ D = fun t => ∃ ts, t = .tup ts ∧ D1 ts :=
  ⟨pe_imp (pe_callTy call_tuple_of hg mt (by decide +kernel) (pa_cons ha.pe pa_nil h1) (by decide) (by decide) h1 h2) fun σ H Q ⟨D, ⟨D1, c, e⟩, s, q⟩ => by
    subst e
    refine ⟨D1, c, s, fun ts a H1 d1 r1 na ⟨xs, ex, dx⟩ => ⟨a, xs, rfl, .inl ⟨.inl (.inl ex), fun p n => ?_⟩⟩⟩
    exact q _ _ _ ⟨ts, rfl, d1⟩ (r1.new n) ((dx.up (same_stay (same_new n))).tup upd_same), fun σ _ _ _ s ⟨D1, c, e⟩ => ⟨D1, ha.up _ _ _ _ s c, e⟩⟩
/-- a draw -/
theorem pr_take {e : Expr} {C : L2.St → Hp → TSet → Prop} {x : Str} {p p2 pos : Pos} {i : Nat} (GT : GTk X.prog X.w X.K X.mg X.base) (hr : Room 88 X.A) (hg : Gl X "_law_take") (hx : PE X (.Name x p2) (tVar i)) (he : PR X l e C) (h1 : starEach [Expr.Name x p2, e] X.env = (false, eval (Expr.Name x p2) X.env) :: starEach [e] X.env := by rfl) (h2 : starEach [e] X.env = (false, eval e X.env) :: starEach [] X.env := by rfl) (hpl : (backTo pos (starEach [e] X.env)).any (·.1) = false := by rfl) :
    PR X l (.Call (.Name "_law_take" p) [.Name x p2, e] [] pos) fun σ H D => σ[i]? = some (some (.ref l)) ∧ ∃ D1, C σ H D1 ∧ (∀ t, D1 t → ∃ b, t = .int b ∧ 0 < b ∧ b < 4294967296) ∧ D = fun t => ∃ b r, D1 (.int b) ∧ 0 ≤ r ∧ r < b ∧ t = .int r :=
  ⟨pe_imp (pe_go GT hr pass0 hg (pa_cons hx (pa_cons he.pe pa_nil h2) h1) (by decide) h1 hpl) fun σ H Q ⟨D, ⟨el, D1, c, b, e⟩, s, q⟩ => by
    subst e
    refine ⟨_, el, ⟨D1, c, s, fun t v H1 d1 r1 a1 => ?_⟩⟩
    obtain ⟨b, rfl, b0, b1⟩ := b t d1
    have ev := dat_int a1
    subst ev
    try dsimp only [L2.tRet, L2.tRetN, tAndV, tOrV, tNotV, tCB, L2.tCons, L2.tNil, tC, tVar, L2.tOp, L2.tUn, tSeq, tAsg, gName, tIfS, tTest, tNext, tAnd, tOr, tNot, L2.tIf, tFld, sFld, sFldAug, tCall, tTup, tB, tAug, tDrop, L2.tSl, tPart, tNoPart, tBM, tBM0, tChain, gTup, gCons, gNil, tPar, tIs, List.set, L2.start, iTup, L2.iList, L2.iRng1, tUn, tLst, tTest, gSub, tCall, L2.tIf, tCB, rRep, List.set, List.cons_append, List.nil_append, cxOf]
    exact take_use r1.sr b0 b1 fun r H2 r0 r2 st keep sr2 => q _ _ _ ⟨b, r, d1, r0, r2, rfl⟩ (r1.trans ⟨fun p o n z => (keep p n).trans z, st, sr2⟩) (.int r), fun σ _ _ _ s ⟨el, D1, c, b, e⟩ => ⟨el, D1, he.up _ _ _ _ s c, b, e⟩⟩
end
end Ck

/-! Programs that are drawn: what the check says of them. -/
namespace Ck
open PySem
/-- a tree: a block or not, its word, what stands before its parts, these, what stands behind them -/
inductive Tr where
  | mk (blk : Bool) (w : Str) (pre : List T) (ks : List Tr) (post : List T)
mutual
def enc : Tr → T
  | .mk true w _ ks _ => .tup [.str w, .tup (encs ks)]
  | .mk false w pre ks post => .tup (.str w :: (pre ++ (encs ks ++ post)))
def encs : List Tr → List T
  | [] => []
  | k :: ks => enc k :: encs ks
end
mutual
def cnt : Tr → Nat
  | .mk _ _ _ ks _ => 1 + cnts ks
def cnts : List Tr → Nat
  | [] => 0
  | k :: ks => cnt k + cnts ks
end
mutual
def ht : Tr → Nat
  | .mk _ _ _ ks _ => 1 + hts ks
def hts : List Tr → Nat
  | [] => 0
  | k :: ks => max (ht k) (hts ks)
end
def own (fs : List (Str × Int)) (w : Str) (pre : List T) (i : Int) : Int :=
  if w = "times" then 1 + (match pre with | [.int n] => n | _ => 0) * i
  else 1 + i + (if w = "call" then (match pre with | [.str f] => (fs.lookup f).getD 0 | _ => 0) else 0)
mutual
def unf (fs : List (Str × Int)) : Tr → Int
  | .mk _ w pre ks _ => own fs w pre (unfs fs ks)
def unfs (fs : List (Str × Int)) : List Tr → Int
  | [] => 0
  | k :: ks => unf fs k + unfs fs ks
end
def ownW (fs : List (Str × Int)) (w : Str) (pre : List T) (i : Int) : Int :=
  if w = "times" then 1 + max 1 (match pre with | [.int n] => n | _ => 0) * i
  else 1 + i + (if w = "call" then (match pre with | [.str f] => (fs.lookup f).getD 0 | _ => 0) else 0)
mutual
def wei (fs : List (Str × Int)) : Tr → Int
  | .mk _ w pre ks _ => ownW fs w pre (weis fs ks)
def weis (fs : List (Str × Int)) : List Tr → Int
  | [] => 0
  | k :: ks => wei fs k + weis fs ks
end
def ownC (w : Str) (pre : List T) : List Str := if w = "run" then (match pre with | .str c :: _ => [c] | _ => []) else []
def ownV (w : Str) (pre : List T) : List Str := if w = "give" ∨ w = "zero" ∨ w = "keep" ∨ w = "put" then (match pre with | .str c :: _ => [c] | _ => []) else []
mutual
def cms : Tr → List Str
  | .mk _ w pre ks _ => ownC w pre ++ cmss ks
def cmss : List Tr → List Str
  | [] => []
  | k :: ks => cms k ++ cmss ks
end
mutual
def vrs : Tr → List Str
  | .mk _ w pre ks _ => ownV w pre ++ vrss ks
def vrss : List Tr → List Str
  | [] => []
  | k :: ks => vrs k ++ vrss ks
end
/-- trees as they may be drawn: names of commands and variables, greatest numbers (of put: M), functions that may be called -/
inductive Okt (C W : List Str) (N M : Int) (known : List Str) : Bool → Nat → Tr → Prop
  | run {i l c} : c ∈ C → Okt C W N M known i l (.mk false "run" [.str c] [] [])
  | status {i l n} : 0 ≤ n → n ≤ N → Okt C W N M known i l (.mk false "status" [.int n] [] [])
  | var {i l} {w v : Str} : w = "give" ∨ w = "zero" ∨ w = "keep" → v ∈ W → Okt C W N M known i l (.mk false w [.str v] [] [])
  | put {i l v n} : v ∈ W → 0 ≤ n → n ≤ M → Okt C W N M known i l (.mk false "put" [.str v, .int n] [] [])
  | option {i l} {z : Str} {b} : z = "fail" ∨ z = "pipes" → Okt C W N M known i l (.mk false "option" [.str z, .bl b] [] [])
  | jump {i l} {w : Str} {k : Int} : w = "break" ∨ w = "next" → 1 ≤ k → k ≤ (l : Nat) → Okt C W N M known i l (.mk false w [.int k] [] [])
  | ret0 {l} : Okt C W N M known true l (.mk false "return" [.non] [] [])
  | ret {l n} : 0 ≤ n → n ≤ N → Okt C W N M known true l (.mk false "return" [.int n] [] [])
  | exit0 {i l} : Okt C W N M known i l (.mk false "exit" [.non] [] [])
  | exit {i l n} : 0 ≤ n → n ≤ N → Okt C W N M known i l (.mk false "exit" [.int n] [] [])
  | call {i l f} : f ∈ known → Okt C W N M known i l (.mk false "call" [.str f] [] [])
  | seq {i l ks} : 2 ≤ ks.length ∧ ks.length ≤ 5000 → (∀ k ∈ ks, Okt C W N M known i l k) → Okt C W N M known i l (.mk true "seq" [] ks [])
  | pipe {i l ks} : 2 ≤ ks.length ∧ ks.length ≤ 5000 → (∀ k ∈ ks, Okt C W N M known false 0 k) → Okt C W N M known i l (.mk true "pipe" [] ks [])
  | andor {i l} {w : Str} {a b} : w = "and" ∨ w = "or" → Okt C W N M known i l a → Okt C W N M known i l b → Okt C W N M known i l (.mk false w [] [a, b] [])
  | not {i l a} : Okt C W N M known i l a → Okt C W N M known i l (.mk false "not" [] [a] [])
  | ife {i l c a b} : Okt C W N M known i l c → Okt C W N M known i l a → Okt C W N M known i l b → Okt C W N M known i l (.mk false "if" [] [c, a, b] [])
  | if1 {i l c a} : Okt C W N M known i l c → Okt C W N M known i l a → Okt C W N M known i l (.mk false "if" [] [c, a] [.non])
  | whl {i l} {w : Str} {c b} : w = "while" ∨ w = "until" → Okt C W N M known i (l + 1) c → Okt C W N M known i (l + 1) b → Okt C W N M known i l (.mk false w [] [c, b] [])
  | times {i l n b} : 0 ≤ n → n ≤ 1000 → Okt C W N M known i (l + 1) b → Okt C W N M known i l (.mk false "times" [.int n] [b] [])
  | trap0 {i l} {z : Str} : z = "end" ∨ z = "fail" → Okt C W N M known i l (.mk false "trap" [.str z] [] [.non])
  | trap {i l} {z : Str} {b} : z = "end" ∨ z = "fail" → Okt C W N M known false 0 b → Okt C W N M known i l (.mk false "trap" [.str z] [b] [])
  | sub {i l b} : Okt C W N M known false 0 b → Okt C W N M known i l (.mk false "sub" [] [b] [])
/-! ### names that are noted -/
def add1 (ns : List Str) (z : Str) : List Str := if ns.contains z = true then ns else ns ++ [z]
def adds (ns zs : List Str) : List Str := zs.foldl add1 ns
theorem adds_nil (ns : List Str) : adds ns [] = ns := rfl
theorem adds_app (ns a b : List Str) : adds ns (a ++ b) = adds (adds ns a) b := List.foldl_append
theorem adds_one (ns : List Str) (z : Str) : adds ns [z] = add1 ns z := rfl
def CS.plus (S : CS) (n : Int) (c v : List Str) : CS := { S with trees := S.trees + n, cmds := adds S.cmds c, vars := adds S.vars v }
theorem plus_plus (S : CS) (n m : Int) (c v d u : List Str) : (S.plus n c v).plus m d u = S.plus (n + m) (c ++ d) (v ++ u) := by
  unfold CS.plus
  simp only [adds_app, Int.add_assoc]
theorem plus_zero (S : CS) : S.plus 0 [] [] = S := by
  cases S
  unfold CS.plus
  simp only [adds_nil, Int.add_zero]
theorem newn_ok {ns : List Str} {z : Str} (h : nameOk z = true) : newName ns (.str z) = (true, add1 ns z) := by
  show (if ns.contains z = true then (true, ns) else if nameOk z = true then (true, ns ++ [z]) else (false, ns)) = _
  rw [h]
  unfold add1
  split <;> rfl
theorem unfs_nn {fs : List (Str × Int)} : ∀ {ks : List Tr}, (∀ k ∈ ks, 1 ≤ unf fs k) → 0 ≤ unfs fs ks
  | [], _ => Int.le_refl _
  | k :: ks, h => by
    have a := h k List.mem_cons_self
    have b := unfs_nn (ks := ks) fun k q => h k (List.mem_cons_of_mem _ q)
    show 0 ≤ unf fs k + unfs fs ks
    omega
/-! ### the check of such a tree -/
def Fns (known : List Str) (fs : List (Str × Int)) : Prop := ∀ f ∈ known, ∃ v, fs.lookup f = some v ∧ 0 ≤ v
theorem Okt.pos {C W : List Str} {N M : Int} {known : List Str} {fs : List (Str × Int)} (F : Fns known fs) {i : Bool} {l : Nat} {t : Tr} (h : Okt C W N M known i l t) : 1 ≤ unf fs t := by
  induction h with
  | run _ => exact Int.le_refl _
  | status _ _ => exact Int.le_refl _
  | var e _ => rcases e with rfl | rfl | rfl <;> exact Int.le_refl _
  | put _ _ _ => exact Int.le_refl _
  | option _ => exact Int.le_refl _
  | jump e _ _ => rcases e with rfl | rfl <;> exact Int.le_refl _
  | ret0 => exact Int.le_refl _
  | ret _ _ => exact Int.le_refl _
  | exit0 => exact Int.le_refl _
  | exit _ _ => exact Int.le_refl _
  | @call _ _ f m =>
    obtain ⟨v, e, p⟩ := F f m
    show 1 ≤ 1 + (0 : Int) + (fs.lookup f).getD 0
    rw [e]
    show 1 ≤ 1 + (0 : Int) + v
    omega
  | @seq _ _ ks _ _ ih =>
    have z : 0 ≤ unfs fs ks := unfs_nn ih
    show 1 ≤ 1 + unfs fs ks + 0
    omega
  | @pipe _ _ ks _ _ ih =>
    have z : 0 ≤ unfs fs ks := unfs_nn ih
    show 1 ≤ 1 + unfs fs ks + 0
    omega
  | @andor _ _ w a b e _ _ ia ib =>
    rcases e with rfl | rfl
    · show 1 ≤ 1 + (unf fs a + (unf fs b + 0)) + 0
      omega
    · show 1 ≤ 1 + (unf fs a + (unf fs b + 0)) + 0
      omega
  | @not _ _ a _ ia =>
    show 1 ≤ 1 + (unf fs a + 0) + 0
    omega
  | @ife _ _ c a b _ _ _ ic ia ib =>
    show 1 ≤ 1 + (unf fs c + (unf fs a + (unf fs b + 0))) + 0
    omega
  | @if1 _ _ c a _ _ ic ia =>
    show 1 ≤ 1 + (unf fs c + (unf fs a + 0)) + 0
    omega
  | @whl _ _ w c b e _ _ ic ib =>
    rcases e with rfl | rfl
    · show 1 ≤ 1 + (unf fs c + (unf fs b + 0)) + 0
      omega
    · show 1 ≤ 1 + (unf fs c + (unf fs b + 0)) + 0
      omega
  | @times _ _ n b n0 _ _ ib =>
    show 1 ≤ 1 + n * (unf fs b + 0)
    have z : 0 ≤ n * (unf fs b + 0) := Int.mul_nonneg n0 (by omega)
    omega
  | trap0 _ => exact Int.le_refl _
  | @trap _ _ z b _ _ ib =>
    show 1 ≤ 1 + (unf fs b + 0) + 0
    omega
  | @sub _ _ b _ ib =>
    show 1 ≤ 1 + (unf fs b + 0) + 0
    omega
structure CondW (C W : List Str) (N M : Int) : Prop where
  c : ∀ z ∈ C, nameOk z = true
  v : ∀ z ∈ W, nameOk z = true
  n : N ≤ 255
  m : M ≤ 255
/-- what the check gives for a tree whose place is counted -/
def Says (t : Tr) (i : Bool) (l : Nat) (known : List Str) : Prop := ∀ (n : Nat) (S : CS) (p : Int), ht t ≤ n + 1 → S.loops = (l : Nat) → S.rets = i → Fns known S.fns → S.places.length + n = 59 → S.trees + cnts [t] ≤ 3001 →
  one (ins n) S p (enc t) = .ok (unf S.fns t, S.plus ((cnt t : Nat) - 1) (cms t) (vrs t))
theorem many_ok {C W : List Str} {N M : Int} {i : Bool} {l : Nat} {known : List Str} {n : Nat} : ∀ (ks : List Tr) (S : CS) (p a : Int), (∀ k ∈ ks, Okt C W N M known i l k) → (∀ k ∈ ks, Says k i l known) → hts ks ≤ n + 1 → S.loops = (l : Nat) → S.rets = i → Fns known S.fns → S.places.length + n = 59 → S.trees + cnts ks ≤ 3000 →
    many (one (ins n)) S (encs ks) p a = .ok (a + unfs S.fns ks, S.plus (cnts ks : Nat) (cmss ks) (vrss ks))
  | [], S, p, a, _, _, _, _, _, _, _, _ => by
    show Except.ok (a, S) = Except.ok (a + 0, S.plus 0 [] [])
    rw [plus_zero, Int.add_zero]
  | k :: ks, S, p, a, ok, says, h, lo, re, F, pl, tr => by
    have hk : ht k ≤ n + 1 ∧ hts ks ≤ n + 1 := by
      have z : max (ht k) (hts ks) ≤ n + 1 := h
      omega
    have ck : 1 ≤ cnt k := by
      cases k
      show 1 ≤ 1 + _
      omega
    have tr2 : S.trees + ((cnt k + cnts ks : Nat) : Int) ≤ 3000 := tr
    show (if S.trees = 3000 then Except.error [] else _) = _
    rw [if_neg (by omega)]
    have one := says k List.mem_cons_self n { S with trees := S.trees + 1 } p hk.1 lo re F pl (by show S.trees + 1 + ((cnt k + 0 : Nat) : Int) ≤ 3001; omega)
    rw [one]
    have pos := Okt.pos F (ok k List.mem_cons_self)
    dsimp only
    rw [if_neg (by omega)]
    have e1 : CS.plus { S with trees := S.trees + 1 } ((cnt k : Nat) - 1) (cms k) (vrs k) = S.plus (cnt k : Nat) (cms k) (vrs k) := by
      unfold CS.plus
      dsimp only
      congr 1
      omega
    rw [e1]
    rw [many_ok ks (S.plus (cnt k : Nat) (cms k) (vrs k)) (p + 1) (a + unf S.fns k) (fun k h => ok k (List.mem_cons_of_mem _ h)) (fun k h => says k (List.mem_cons_of_mem _ h)) hk.2 lo re F pl (by show S.trees + (cnt k : Nat) + (cnts ks : Nat) ≤ 3000; omega)]
    rw [plus_plus, Int.add_assoc]
    show _ = Except.ok (a + (unf S.fns k + unfs S.fns ks), S.plus ((cnt k + cnts ks : Nat) : Int) (cms k ++ cmss ks) (vrs k ++ vrss ks))
    rw [Int.natCast_add]
    rfl
theorem ins_ok {C W : List Str} {N M : Int} {i : Bool} {l : Nat} {known : List Str} {n : Nat} {ks : List Tr} {S : CS} {p : Int} (ok : ∀ k ∈ ks, Okt C W N M known i l k) (says : ∀ k ∈ ks, Says k i l known) (h : 1 + hts ks ≤ n + 1) (ne : 1 ≤ hts ks) (lo : S.loops = (l : Nat)) (re : S.rets = i) (F : Fns known S.fns) (pl : S.places.length + n = 59) (tr : S.trees + cnts ks ≤ 3000) :
    ins n S (encs ks) p = .ok (unfs S.fns ks, S.plus (cnts ks : Nat) (cmss ks) (vrss ks)) := by
  cases n with
  | zero => omega
  | succ m =>
    show (if S.places.length + 1 = 60 then _ else _) = _
    rw [if_neg (by omega), all_eq]
    rw [many_ok ks { S with places := S.places ++ [p] } 0 0 ok says (by omega) lo re F (by show (S.places ++ [p]).length + m = 59; rw [List.length_append]; show S.places.length + 1 + m = 59; omega) tr]
    show Except.ok _ = _
    rw [Int.zero_add]
    congr 2
    unfold CS.plus
    dsimp only
    rw [List.dropLast_concat]
end Ck

/-! Picks; calls that draw. -/
namespace Ck
open PySem PySem.Spec PyProof.Rows L2
abbrev KSet := List T → List Str → Prop
section
variable {X : Cx} {P : Program} {w : World} {K : PySem.W.Frag} {mg : Str → Option Value} {base : Heap} {H H1 H2 : Hp} {l : Addr}
abbrev sPick : Stmt := topS 53
theorem scPk : FnScope ["_law_source_here", "_law_options"] ["_law_source_here", "_law_options"] (defScope sPick) := ⟨rfl, rfl, rfl, by decide +kernel, rfl, by decide +kernel, by decide +kernel⟩
def spPick (K : PySem.W.Frag) : Sp := fun vs H Q _ => ∃ l a ts, vs = [.ref l, .ref a] ∧ Sr l H ∧ a ≠ l ∧ LD K H a ts ∧ ts ≠ [] ∧ ts.length ≤ 1000 ∧ ∀ t v H', t ∈ ts → Dr l H H' → Dat K H' v t → Q v H'
theorem ok_pick {f : Addr} {fd : FuncData} (F : Fun K "_law_pick" "_law_pick" sPick f fd) (GT : GTk P w K mg base) (ml : mg "len" = none) : FnOk P w K mg base CX0 89 f fd ["_law_source_here", "_law_options"] (spPick K) := by
  refine F.ok scPk (fun vs H Q E h => ?_) (fun cdv A outer s H vs Q E hr h => ?_)
  · obtain ⟨_, _, _, rfl, _⟩ := h
    rfl
  obtain ⟨l, a, ts, rfl, sr, na, ⟨xs, ex, dx⟩, ne, few, q⟩ := h
  refine ⟨_, pss_one (ps_ret (pe_ix ix_list (pv 1) (pe_go GT hr pass0 rfl (pa_cons (pv 0) (pa_cons (pe_callB call_len_seq rfl ml PySem.boot_len (pa_cons (pv 1) pa_nil)) pa_nil))) fun _ _ => rfl)), ?_⟩
  try dsimp only [L2.tRet, L2.tRetN, tAndV, tOrV, tNotV, tCB, L2.tCons, L2.tNil, tC, tVar, L2.tOp, L2.tUn, tSeq, tAsg, gName, tIfS, tTest, tNext, tAnd, tOr, tNot, L2.tIf, tFld, sFld, sFldAug, tCall, tTup, tB, tAug, tDrop, L2.tSl, tPart, tNoPart, tBM, tBM0, tChain, gTup, gCons, gNil, tPar, tIs, List.set, L2.start, iTup, L2.iList, L2.iRng1, tUn, tLst, tTest, gSub, tCall, L2.tIf, tCB, rRep, List.set, List.cons_append, List.nil_append, cxOf]
  have ln := dx.len
  have l0 : 0 < xs.length := by
    rw [ln]
    exact List.length_pos_iff.mpr ne
  refine ⟨_, rfl, _, rfl, _, rfl, a, xs, rfl, .inl (.inl (.inl ex)), ?_⟩
  refine take_use sr (by omega) (by omega) fun r H1 r0 r1 st keep sr1 => ?_
  obtain ⟨k, rfl⟩ := Int.eq_ofNat_of_zero_le r0
  have kl : k < ts.length := by omega
  obtain ⟨y, ey, dy⟩ := dx.at (List.getElem?_eq_getElem kl)
  have dr : Dr l H H1 := ⟨fun p o n z => (keep p n).trans z, st, sr1⟩
  exact ⟨a, xs, _, y, rfl, rfl, .inl (.inl (dr.keep _ _ na ex)), atI_nat ey, q _ _ _ (List.getElem_mem kl) dr (dy.up st)⟩
abbrev GPk (P : Program) (w : World) (K : PySem.W.Frag) (mg : Str → Option Value) (base : Heap) : Prop := Go P w K mg base CX0 89 "_law_pick" ["_law_source_here", "_law_options"] (spPick K)
theorem pr_pick {e : Expr} {C : L2.St → Hp → TsSet → Prop} {x : Str} {p p2 pos : Pos} {i : Nat} (GP : GPk X.prog X.w X.K X.mg X.base) (hr : Room 89 X.A) (hg : Gl X "_law_pick") (hx : PE X (.Name x p2) (tVar i)) (he : PRl X l e C) (h1 : starEach [Expr.Name x p2, e] X.env = (false, eval (Expr.Name x p2) X.env) :: starEach [e] X.env := by rfl) (h2 : starEach [e] X.env = (false, eval e X.env) :: starEach [] X.env := by rfl) (hpl : (backTo pos (starEach [e] X.env)).any (·.1) = false := by rfl) :
    PR X l (.Call (.Name "_law_pick" p) [.Name x p2, e] [] pos) fun σ H D => σ[i]? = some (some (.ref l)) ∧ ∃ D1, C σ H D1 ∧ (∀ ts, D1 ts → ts ≠ [] ∧ ts.length ≤ 1000) ∧ D = fun t => ∃ ts, D1 ts ∧ t ∈ ts :=
  ⟨pe_imp (pe_go GP hr pass0 hg (pa_cons hx (pa_cons he.pe pa_nil h2) h1) (by decide) h1 hpl) fun σ H Q ⟨D, ⟨el, D1, c, b, e⟩, s, q⟩ => by
    subst e
    refine ⟨_, el, ⟨D1, c, s, fun ts a H1 d1 r1 na ld => ?_⟩⟩
    obtain ⟨ne, few⟩ := b ts d1
    try dsimp only [L2.tRet, L2.tRetN, tAndV, tOrV, tNotV, tCB, L2.tCons, L2.tNil, tC, tVar, L2.tOp, L2.tUn, tSeq, tAsg, gName, tIfS, tTest, tNext, tAnd, tOr, tNot, L2.tIf, tFld, sFld, sFldAug, tCall, tTup, tB, tAug, tDrop, L2.tSl, tPart, tNoPart, tBM, tBM0, tChain, gTup, gCons, gNil, tPar, tIs, List.set, L2.start, iTup, L2.iList, L2.iRng1, tUn, tLst, tTest, gSub, tCall, L2.tIf, tCB, rRep, List.set, List.cons_append, List.nil_append, cxOf]
    exact ⟨l, a, ts, rfl, r1.sr, na, ld, ne, few, fun t v H2 m r2 d2 => q _ _ _ ⟨ts, d1, m⟩ (r1.trans r2) d2⟩, fun σ _ _ _ s ⟨el, D1, c, b, e⟩ => ⟨el, D1, he.up _ _ _ _ s c, b, e⟩⟩
/-! ### a def that draws something, with what may be called -/
def spG (K : PySem.W.Frag) (n : Nat) (Pre : KSet) (Post : List T → List Str → T → Prop) : Sp := fun vs H Q _ => ∃ l us ts kn known, vs = .ref l :: (us ++ [.ref kn]) ∧ us.length = n ∧ Sr l H ∧ Dats K H us ts ∧ kn ≠ l ∧ LD K H kn (known.map T.str) ∧ Pre ts known ∧ ∀ t v H', Post ts known t → Dr l H H' → Dat K H' v t → Q v H'
def spGl (K : PySem.W.Frag) (n : Nat) (Pre : KSet) (Post : List T → List Str → List T → Prop) : Sp := fun vs H Q _ => ∃ l us ts kn known, vs = .ref l :: (us ++ [.ref kn]) ∧ us.length = n ∧ Sr l H ∧ Dats K H us ts ∧ kn ≠ l ∧ LD K H kn (known.map T.str) ∧ Pre ts known ∧ ∀ ss a H', Post ts known ss → Dr l H H' → a ≠ l → LD K H' a ss → Q (.ref a) H'
abbrev tGs (K : PySem.W.Frag) (l : Addr) (C : L2.St → Hp → KSet → Prop) : TA := fun σ H Q => ∃ D, C σ H D ∧ Sr l H ∧ ∀ ts known us kn H', D ts known → Dr l H H' → Dats K H' us ts → kn ≠ l → LD K H' kn (known.map T.str) → Q (us ++ [.ref kn]) H'
structure PGs (X : Cx) (l : Addr) (es : List Expr) (C : L2.St → Hp → KSet → Prop) : Prop where
  pa : PA X es (tGs X.K l C)
  up : ∀ σ H H' D, Dr l H H' → C σ H D → C σ H' D
theorem pgs_last {e : Expr} {C : L2.St → Hp → TsSet → Prop} (a : PRl X l e C) (h : starEach [e] X.env = (false, eval e X.env) :: starEach [] X.env := by rfl) :
    PGs X l [e] fun σ H D => ∃ D1, C σ H D1 ∧ (∀ ts, D1 ts → ∃ known : List Str, ts = known.map T.str) ∧ D = fun ts known => ts = [] ∧ D1 (known.map T.str) :=
  ⟨pa_imp (pa_cons a.pe pa_nil h) fun σ H Q ⟨D, ⟨D1, c, b, e⟩, s, q⟩ => by
    subst e
    refine ⟨D1, c, s, fun ts a H1 d1 r1 na ld => ?_⟩
    obtain ⟨known, rfl⟩ := b ts d1
    exact q [] known [] a H1 ⟨rfl, d1⟩ r1 .nil na ld, fun σ _ _ _ s ⟨D1, c, b, e⟩ => ⟨D1, a.up _ _ _ _ s c, b, e⟩⟩
theorem pgs_cons {e : Expr} {es : List Expr} {C : L2.St → Hp → TSet → Prop} {Cs : L2.St → Hp → KSet → Prop} (a : PR X l e C) (r : PGs X l es Cs) (h : starEach (e :: es) X.env = (false, eval e X.env) :: starEach es X.env := by rfl) :
    PGs X l (e :: es) fun σ H D => ∃ D1 D2, C σ H D1 ∧ Cs σ H D2 ∧ D = fun ts known => ∃ t us, ts = t :: us ∧ D1 t ∧ D2 us known :=
  ⟨pa_imp (pa_cons a.pe r.pa h) fun σ H Q ⟨D, ⟨D1, D2, c1, c2, e⟩, s, q⟩ => by
    subst e
    refine ⟨D1, c1, s, fun t v H1 d1 r1 a1 => ⟨D2, r.up _ _ _ _ r1 c2, r1.sr, fun ts known us kn H2 d2 r2 a2 nk ld => ?_⟩⟩
    exact q (t :: ts) known (v :: us) kn H2 ⟨t, ts, rfl, d1, d2⟩ (r1.trans r2) (.cons (a1.up r2.st) a2) nk ld, fun σ _ _ _ s ⟨D1, D2, c1, c2, e⟩ => ⟨D1, D2, a.up _ _ _ _ s c1, r.up _ _ _ _ s c2, e⟩⟩
theorem pr_gen {e : Expr} {es : List Expr} {k n : Nat} {ps : List Str} {Pre : KSet} {Post : List T → List Str → T → Prop} {C : L2.St → Hp → KSet → Prop} {f x : Str} {p p2 pos : Pos} {i : Nat} (G : Go X.prog X.w X.K X.mg X.base CX0 k f ps (spG X.K n Pre Post)) (hr : Room k X.A) (hg : Gl X f) (hx : PE X (.Name x p2) (tVar i)) (he : PGs X l (e :: es) C)
    (hdb : (f == ("__debug__" : Str)) = false := by decide) (h1 : starEach (Expr.Name x p2 :: e :: es) X.env = (false, eval (Expr.Name x p2) X.env) :: starEach (e :: es) X.env := by rfl) (hpl : (backTo pos (starEach (e :: es) X.env)).any (·.1) = false := by rfl) :
    PR X l (.Call (.Name f p) (.Name x p2 :: e :: es) [] pos) fun σ H D => σ[i]? = some (some (.ref l)) ∧ ∃ D1, C σ H D1 ∧ (∀ ts known, D1 ts known → ts.length = n ∧ Pre ts known) ∧ D = fun t => ∃ ts known, D1 ts known ∧ Post ts known t :=
  ⟨pe_imp (pe_go G hr pass0 hg (pa_cons hx he.pa h1) hdb h1 hpl) fun σ H Q ⟨D, ⟨el, D1, c, b, e⟩, s, q⟩ => by
    subst e
    refine ⟨_, el, ⟨D1, c, s, fun ts known us kn H1 d1 r1 a1 nk ld => ?_⟩⟩
    obtain ⟨ln, pre⟩ := b ts known d1
    try dsimp only [L2.tRet, L2.tRetN, tAndV, tOrV, tNotV, tCB, L2.tCons, L2.tNil, tC, tVar, L2.tOp, L2.tUn, tSeq, tAsg, gName, tIfS, tTest, tNext, tAnd, tOr, tNot, L2.tIf, tFld, sFld, sFldAug, tCall, tTup, tB, tAug, tDrop, L2.tSl, tPart, tNoPart, tBM, tBM0, tChain, gTup, gCons, gNil, tPar, tIs, List.set, L2.start, iTup, L2.iList, L2.iRng1, tUn, tLst, tTest, gSub, tCall, L2.tIf, tCB, rRep, List.set, List.cons_append, List.nil_append, cxOf]
    exact ⟨l, us, ts, kn, known, (by rw [List.append_nil]), (by rw [a1.len, ln]), r1.sr, a1, nk, ld, pre, fun t v H2 po r2 d2 => q _ _ _ ⟨ts, known, d1, po⟩ (r1.trans r2) d2⟩, fun σ _ _ _ s ⟨el, D1, c, b, e⟩ => ⟨el, D1, he.up _ _ _ _ s c, b, e⟩⟩
theorem prl_gen {e : Expr} {es : List Expr} {k n : Nat} {ps : List Str} {Pre : KSet} {Post : List T → List Str → List T → Prop} {C : L2.St → Hp → KSet → Prop} {f x : Str} {p p2 pos : Pos} {i : Nat} (G : Go X.prog X.w X.K X.mg X.base CX0 k f ps (spGl X.K n Pre Post)) (hr : Room k X.A) (hg : Gl X f) (hx : PE X (.Name x p2) (tVar i)) (he : PGs X l (e :: es) C)
    (hdb : (f == ("__debug__" : Str)) = false := by decide) (h1 : starEach (Expr.Name x p2 :: e :: es) X.env = (false, eval (Expr.Name x p2) X.env) :: starEach (e :: es) X.env := by rfl) (hpl : (backTo pos (starEach (e :: es) X.env)).any (·.1) = false := by rfl) :
    PRl X l (.Call (.Name f p) (.Name x p2 :: e :: es) [] pos) fun σ H D => σ[i]? = some (some (.ref l)) ∧ ∃ D1, C σ H D1 ∧ (∀ ts known, D1 ts known → ts.length = n ∧ Pre ts known) ∧ D = fun ss => ∃ ts known, D1 ts known ∧ Post ts known ss :=
  ⟨pe_imp (pe_go G hr pass0 hg (pa_cons hx he.pa h1) hdb h1 hpl) fun σ H Q ⟨D, ⟨el, D1, c, b, e⟩, s, q⟩ => by
    subst e
    refine ⟨_, el, ⟨D1, c, s, fun ts known us kn H1 d1 r1 a1 nk ld => ?_⟩⟩
    obtain ⟨ln, pre⟩ := b ts known d1
    try dsimp only [L2.tRet, L2.tRetN, tAndV, tOrV, tNotV, tCB, L2.tCons, L2.tNil, tC, tVar, L2.tOp, L2.tUn, tSeq, tAsg, gName, tIfS, tTest, tNext, tAnd, tOr, tNot, L2.tIf, tFld, sFld, sFldAug, tCall, tTup, tB, tAug, tDrop, L2.tSl, tPart, tNoPart, tBM, tBM0, tChain, gTup, gCons, gNil, tPar, tIs, List.set, L2.start, iTup, L2.iList, L2.iRng1, tUn, tLst, tTest, gSub, tCall, L2.tIf, tCB, rRep, List.set, List.cons_append, List.nil_append, cxOf]
    exact ⟨l, us, ts, kn, known, (by rw [List.append_nil]), (by rw [a1.len, ln]), r1.sr, a1, nk, ld, pre, fun ss a H2 po r2 na ld2 => q _ _ _ ⟨ts, known, d1, po⟩ (r1.trans r2) na ld2⟩, fun σ _ _ _ s ⟨el, D1, c, b, e⟩ => ⟨el, D1, he.up _ _ _ _ s c, b, e⟩⟩
/-- x == "..", a bool -/
theorem pr_eqS {a : Expr} {z : Str} {j : Nat} {p pos : Pos} {C : L2.St → Hp → TSet → Prop} (ha : PR X l a C) (h : behindInMarks .Eq (Expr.Constant (.str z) j p) = false := by rfl) :
    PR X l (.Compare a [.Eq] [.Constant (.str z) j p] pos) fun σ H D => ∃ D1, C σ H D1 ∧ (∀ t, D1 t → ∃ y, t = .str y) ∧ D = fun t => ∃ b, t = .bl b :=
  ⟨pe_imp (pe_cmpR op_eq ha.pe pe_str h) fun σ H Q ⟨D, ⟨D1, c, b, e⟩, s, q⟩ => by
    subst e
    refine ⟨D1, c, s, fun t v H1 d1 r1 a1 => ?_⟩
    obtain ⟨y, rfl⟩ := b t d1
    have ev := dat_str a1
    subst ev
    try dsimp only [L2.tRet, L2.tRetN, tAndV, tOrV, tNotV, tCB, L2.tCons, L2.tNil, tC, tVar, L2.tOp, L2.tUn, tSeq, tAsg, gName, tIfS, tTest, tNext, tAnd, tOr, tNot, L2.tIf, tFld, sFld, sFldAug, tCall, tTup, tB, tAug, tDrop, L2.tSl, tPart, tNoPart, tBM, tBM0, tChain, gTup, gCons, gNil, tPar, tIs, List.set, L2.start, iTup, L2.iList, L2.iRng1, tUn, tLst, tTest, gSub, tCall, L2.tIf, tCB, rRep, List.set, List.cons_append, List.nil_append, cxOf]
    exact ⟨rfl, q _ _ _ ⟨_, rfl⟩ r1 (.bl _)⟩, fun σ _ _ _ s ⟨D1, c, b, e⟩ => ⟨D1, ha.up _ _ _ _ s c, b, e⟩⟩
end
end Ck

/-! A tree without trees within it. -/
namespace Ck
open PySem PySem.Spec PyProof.Rows L2
abbrev C0 : List Str := ["a", "ab", "b", "d", "e", "z"]
abbrev W0 : List Str := ["x", "ax"]
abbrev knowns : List (List Str) := [[], ["f"], ["f", "g"], ["f", "g", "h"]]
section
variable {X : Cx} {P : Program} {w : World} {K : PySem.W.Frag} {mg : Str → Option Value} {base : Heap} {H H1 H2 : Hp} {l : Addr}
theorem known_ne {known : List Str} {kn b : Addr} {Q : VK} (m : known ∈ knowns) (ld : LD K H kn (known.map T.str)) (hb : H b = some (.lst [])) (q0 : known = [] → Q (.bl false) H) (q1 : known ≠ [] → Q (.bl true) H) : rNeD K (.ref kn) (.ref b) H Q := by
  obtain ⟨xs, ex, dx⟩ := ld
  have dp := Dp.lst (.inl (.inl ex)) (dx.im.dp dx.fl)
  have db : Dp K H (.ref b) (.list []) := Dp.lst (.inl (.inl hb)) .nil
  refine ⟨_, _, dp, db, ?_, by decide +kernel, ?_⟩
  · rcases List.mem_cons.mp m with rfl | m
    · decide +kernel
    rcases List.mem_cons.mp m with rfl | m
    · decide +kernel
    rcases List.mem_cons.mp m with rfl | m
    · decide +kernel
    rcases List.mem_cons.mp m with rfl | m
    · decide +kernel
    cases m
  · rcases List.mem_cons.mp m with rfl | m
    · exact q0 rfl
    rcases List.mem_cons.mp m with rfl | m
    · exact q1 (by decide)
    rcases List.mem_cons.mp m with rfl | m
    · exact q1 (by decide)
    rcases List.mem_cons.mp m with rfl | m
    · exact q1 (by decide)
    cases m
theorem mem_strs {zs : List Str} {t : T} (h : t ∈ zs.map T.str) : ∃ c, c ∈ zs ∧ t = .str c := by
  obtain ⟨c, m, e⟩ := List.mem_map.mp h
  exact ⟨c, m, e.symm⟩
theorem dn {i j : Int} (h : i ≠ j) : decide (V.int i = V.int j) = false := decide_eq_false fun e => h (V.int.inj e)
theorem known_few {known : List Str} (m : known ∈ knowns) : known.length ≤ 1000 := by
  have z : ∀ k ∈ knowns, k.length ≤ 1000 := by decide
  exact z known m
abbrev sSmall : Stmt := topS 54
abbrev NS : List Str := ["_law_source_here", "_law_loops", "_law_within", "_law_known", "_law_some", "_law_way", "_law_one", "_law_which"]
abbrev PSm : List Str := ["_law_source_here", "_law_loops", "_law_within", "_law_known"]
theorem scSm : FnScope NS PSm (defScope sSmall) := ⟨rfl, rfl, rfl, by decide +kernel, rfl, by decide +kernel, by decide +kernel⟩
def PreS : KSet := fun ts known => known ∈ knowns ∧ ∃ (lp : Nat) (wi : Bool), ts = [.int (lp : Nat), .bl wi] ∧ lp ≤ 100
def PostS : List T → List Str → T → Prop := fun ts known t => ∃ (lp : Nat) (wi : Bool) (tr : Tr), ts = [.int (lp : Nat), .bl wi] ∧ t = enc tr ∧ Okt C0 W0 3 2 known wi lp tr ∧ ht tr = 1
/-- the same, ready to be used -/
theorem out_s {lp : Nat} {wi : Bool} {known : List Str} {Q : VK} (q : ∀ t v H', PostS [.int (lp : Nat), .bl wi] known t → Dr l H H' → Dat K H' v t → Q v H') (tr : Tr) (o : Okt C0 W0 3 2 known wi lp tr) (h : ht tr = 1) {v : V} (dr : Dr l H H1) (d : Dat K H1 v (enc tr)) : Q v H1 :=
  q _ v H1 ⟨lp, wi, tr, rfl, rfl, o, h⟩ dr d
theorem ok_small {f : Addr} {fd : FuncData} (F : Fun K "_law_small_tree" "_law_small_tree" sSmall f fd) (GT : GTk P w K mg base) (GP : GPk P w K mg base) : FnOk P w K mg base CX0 90 f fd PSm (spG K 2 PreS PostS) := by
  refine F.ok scSm (fun vs H Q E h => ?_) (fun cdv A outer s H vs Q E hr h => ?_)
  · obtain ⟨_, us, _, _, _, rfl, ln, _⟩ := h
    show (_ :: (us ++ [_])).length = 4
    rw [List.length_cons, List.length_append, ln]
    rfl
  obtain ⟨l, us, ts, kn, known, rfl, ln, sr, ds, nk, ld, ⟨mk, lp, wi, rfl, few⟩, q⟩ := h
  obtain ⟨v0, us, rfl, d0, ds⟩ := dats_cons ds
  obtain ⟨v1, us, rfl, d1, ds⟩ := dats_cons ds
  cases dats_nil ds
  cases dat_int d0
  cases dat_bl d1
  have hr8 := hr.mono (j := 88) (by decide)
  have hr9 := hr.mono (j := 89) (by decide)
  refine ⟨_, (pss_cons (ps_set (i := 4) scSm.nd rfl (.inl rfl) (pe_rl (prl_rep (l := l) (n := 8) (prl_disp (prs_cons (pr_tup (prs_cons pr_str (prs_cons (pr_pick GP hr9 rfl (pv 0) (prl_disp (prs_cons pr_str (prs_cons pr_str (prs_cons pr_str (prs_cons pr_str prs_nil)))))) prs_nil))) prs_nil))))) (pss_cons (ps_set (i := 5) scSm.nd rfl (.inl rfl) (pe_r (pr_take (l := l) GT hr8 rfl (pv 0) pr_int))) (pss_cons (ps_if (pt_cmpR op_lt (pv 5) pe_int rfl) (pss_one (ps_ret (pe_r (pr_atL (l := l) (prl_var 4 (pv 4)) (pr_var 5 (pv 5)) fun _ _ => rfl)))) pss_nil) (pss_cons (ps_set (i := 6) scSm.nd rfl (.inl rfl) (pe_r (pr_pick (l := l) GP hr9 rfl (pv 0) (prl_disp (prs_cons pr_str (prs_cons pr_str prs_nil)))))) (pss_cons (ps_if (pt_cmpR op_lt (pv 5) pe_int rfl) (pss_one (ps_ret (pe_r (pr_atL (l := l) (prl_disp (prs_cons (pr_tup (prs_cons pr_str (prs_cons (pr_take GT hr8 rfl (pv 0) pr_int) prs_nil))) (prs_cons (pr_tup (prs_cons pr_str (prs_cons (pr_var 6 (pv 6)) prs_nil))) (prs_cons (pr_tup (prs_cons pr_str (prs_cons (pr_var 6 (pv 6)) prs_nil))) (prs_cons (pr_tup (prs_cons pr_str (prs_cons (pr_var 6 (pv 6)) prs_nil))) prs_nil))))) (pr_bin op_sub (pr_var 5 (pv 5)) pr_int) fun _ _ => rfl)))) pss_nil) (pss_cons (ps_if (pt_cmpR op_lt (pv 5) pe_int rfl) (pss_cons (ps_set (i := 7) scSm.nd rfl (.inl rfl) (pe_r (pr_pick (l := l) GP hr9 rfl (pv 0) (prl_disp (prs_cons pr_str (prs_cons pr_str prs_nil)))))) (pss_cons (ps_set (i := 4) scSm.nd rfl (.inl rfl) (pe_rl (prl_disp (l := l) (prs_cons (pr_tup (prs_cons pr_str (prs_cons (pr_var 6 (pv 6)) (prs_cons (pr_take GT hr8 rfl (pv 0) pr_int) prs_nil)))) (prs_cons (pr_tup (prs_cons pr_str (prs_cons pr_str (prs_cons pr_bool prs_nil)))) prs_nil))))) (pss_cons (ps_set (i := 4) scSm.nd rfl (.inl rfl) (pe_rl (prl_cat (l := l) (prl_var 4 (pv 4)) (prl_disp (prs_cons (pr_tup (prs_cons pr_str (prs_cons (pr_var 7 (pv 7)) (prs_cons (pr_eqS (pr_var 6 (pv 6))) prs_nil)))) prs_nil))))) (pss_one (ps_ret (pe_r (pr_atL (l := l) (prl_var 4 (pv 4)) (pr_bin op_sub (pr_var 5 (pv 5)) pr_int) fun _ _ => rfl))))))) pss_nil) (pss_cons (ps_if (PW.pt (pw_and (pt_cmpR op_eq (pv 5) pe_int rfl) (pw_and1 (pt_cmpR op_gt (pv 1) pe_int rfl)))) (pss_one (ps_ret (pe_r (pr_tup (l := l) (prs_cons (pr_pick GP hr9 rfl (pv 0) (prl_disp (prs_cons pr_str (prs_cons pr_str prs_nil)))) (prs_cons (pr_bin op_add pr_int (pr_take GT hr8 rfl (pv 0) (pr_var 1 (pv 1)))) prs_nil)))))) pss_nil) (pss_cons (ps_if (PW.pt (pw_and (pt_cmpR op_eq (pv 5) pe_int rfl) (pw_and1 (pt_val (pv 2))))) (pss_one (ps_ret (pe_r (pr_tup (l := l) (prs_cons pr_str (prs_cons (pr_pick GP hr9 rfl (pv 0) (prl_disp (prs_cons pr_non (prs_cons pr_int (prs_cons pr_int prs_nil))))) prs_nil)))))) pss_nil) (pss_cons (ps_if (pt_cmpR op_eq (pv 5) pe_int rfl) (pss_one (ps_ret (pe_r (pr_tup (l := l) (prs_cons pr_str (prs_cons (pr_pick GP hr9 rfl (pv 0) (prl_disp (prs_cons pr_non (prs_cons pr_int (prs_cons pr_int prs_nil))))) prs_nil)))))) pss_nil) (pss_one (ps_ret (pe_ifExp (pt_cmpR (op_neD hr8.units) (pv 3) (pe_lst pa_nil) rfl) (pe_r (pr_tup (l := l) (prs_cons pr_str (prs_cons (pr_pick GP hr9 rfl (pv 0) (prl_var 3 (pv 3))) prs_nil)))) (pe_r (pr_atL (l := l) (prl_var 4 (pv 4)) pr_int fun _ _ => rfl)))))))))))))), ?_⟩
  try dsimp only [L2.tRet, L2.tRetN, tAndV, tOrV, tNotV, tCB, L2.tCons, L2.tNil, tC, tVar, L2.tOp, L2.tUn, tSeq, tAsg, gName, tIfS, tTest, tNext, tAnd, tOr, tNot, L2.tIf, tFld, sFld, sFldAug, tCall, tTup, tB, tAug, tDrop, L2.tSl, tPart, tNoPart, tBM, tBM0, tChain, gTup, gCons, gNil, tPar, tIs, List.set, L2.start, iTup, L2.iList, L2.iRng1, tUn, tLst, tTest, gSub, tCall, L2.tIf, tCB, rRep, List.set, List.cons_append, List.nil_append, cxOf]
  refine' Exists.intro _ ⟨?_, by assumption, ?_⟩
  rotate_left 1
  · (repeat' (first | rfl | exact Dat.int _ | exact Dat.bl _ | (refine (?_ : Dat _ _ _ _); assumption) | (refine (?_ : LD _ _ _ _); assumption) | (refine (?_ : _ ≠ _); assumption) | refine' Exists.intro _ ?_ | refine And.intro ?_ ?_))
    all_goals (first | (first | (rintro _ rfl; exact ⟨_, rfl, by decide, by decide⟩) | (intro ts h; (repeat (obtain ⟨_, _, rfl, _, h⟩ := h)); (try cases h); exact Nat.le_of_ble_eq_true rfl) | (intro ts h; (repeat (obtain ⟨_, _, rfl, _, h⟩ := h)); (try cases h); exact ⟨List.cons_ne_nil _ _, Nat.le_of_ble_eq_true rfl⟩) | (rintro _ _ rfl rfl; exact ⟨_, _, rfl, rfl⟩)))
  rintro _ a4 H1 ⟨ss, ⟨t1, u1, rfl, ⟨rr, rfl, n1, n2, rfl, rfl, n3, n4, rfl, ⟨cs, ecs, mcs⟩, rfl⟩, rfl⟩, rfl⟩ r1 na4 ld4
  obtain ⟨_, _, rfl, rfl, _, _, rfl, rfl, _, _, rfl, rfl, _, _, rfl, rfl, rfl⟩ := ecs
  obtain ⟨c, cm, rfl⟩ := mem_strs (zs := ["a", "ab", "b", "d"]) mcs
  have cm0 : c ∈ C0 := (by decide : ∀ c ∈ (["a", "ab", "b", "d"] : List Str), c ∈ C0) c cm
  rw [flat_rep] at ld4
  have sr1 := r1.sr
  have ld1 := ld.dr r1 nk
  try dsimp only [L2.tRet, L2.tRetN, tAndV, tOrV, tNotV, tCB, L2.tCons, L2.tNil, tC, tVar, L2.tOp, L2.tUn, tSeq, tAsg, gName, tIfS, tTest, tNext, tAnd, tOr, tNot, L2.tIf, tFld, sFld, sFldAug, tCall, tTup, tB, tAug, tDrop, L2.tSl, tPart, tNoPart, tBM, tBM0, tChain, gTup, gCons, gNil, tPar, tIs, List.set, L2.start, iTup, L2.iList, L2.iRng1, tUn, tLst, tTest, gSub, tCall, L2.tIf, tCB, rRep, List.set, List.cons_append, List.nil_append, cxOf]
  refine' Exists.intro _ ⟨?_, by assumption, ?_⟩
  rotate_left 1
  · (repeat' (first | rfl | exact Dat.int _ | exact Dat.bl _ | (refine (?_ : Dat _ _ _ _); assumption) | (refine (?_ : LD _ _ _ _); assumption) | (refine (?_ : _ ≠ _); assumption) | refine' Exists.intro _ ?_ | refine And.intro ?_ ?_))
    all_goals (first | (first | (rintro _ rfl; exact ⟨_, rfl, by decide, by decide⟩) | (intro ts h; (repeat (obtain ⟨_, _, rfl, _, h⟩ := h)); (try cases h); exact Nat.le_of_ble_eq_true rfl) | (intro ts h; (repeat (obtain ⟨_, _, rfl, _, h⟩ := h)); (try cases h); exact ⟨List.cons_ne_nil _ _, Nat.le_of_ble_eq_true rfl⟩) | (rintro _ _ rfl rfl; exact ⟨_, _, rfl, rfl⟩)))
  rintro _ v5 H2 ⟨_, r, ⟨⟩, r0, rb, rfl⟩ r2 dv
  cases dat_int dv
  obtain ⟨k, rfl⟩ := Int.eq_ofNat_of_zero_le r0
  have sr2 := r2.sr
  have ld2 := ld1.dr r2 nk
  have ld4b := ld4.dr r2 na4
  try dsimp only [L2.tRet, L2.tRetN, tAndV, tOrV, tNotV, tCB, L2.tCons, L2.tNil, tC, tVar, L2.tOp, L2.tUn, tSeq, tAsg, gName, tIfS, tTest, tNext, tAnd, tOr, tNot, L2.tIf, tFld, sFld, sFldAug, tCall, tTup, tB, tAug, tDrop, L2.tSl, tPart, tNoPart, tBM, tBM0, tChain, gTup, gCons, gNil, tPar, tIs, List.set, L2.start, iTup, L2.iList, L2.iRng1, tUn, tLst, tTest, gSub, tCall, L2.tIf, tCB, rRep, List.set, List.cons_append, List.nil_append, cxOf]
  refine ⟨_, rfl, _, _, rfl, rfl, _, rfl, ?_⟩
  by_cases c8 : (k : Int) < 8
  · refine if_yes (decide_eq_true c8) ?_
    refine' Exists.intro _ ⟨?_, by assumption, ?_⟩
    rotate_left 1
    · (repeat' (first | rfl | exact Dat.int _ | exact Dat.bl _ | (refine (?_ : Dat _ _ _ _); assumption) | (refine (?_ : LD _ _ _ _); assumption) | (refine (?_ : _ ≠ _); assumption) | refine' Exists.intro _ ?_ | refine And.intro ?_ ?_))
      all_goals (first | (first | (rintro _ rfl; exact ⟨_, rfl, by decide, by decide⟩) | (intro ts h; (repeat (obtain ⟨_, _, rfl, _, h⟩ := h)); (try cases h); exact Nat.le_of_ble_eq_true rfl) | (intro ts h; (repeat (obtain ⟨_, _, rfl, _, h⟩ := h)); (try cases h); exact ⟨List.cons_ne_nil _ _, Nat.le_of_ble_eq_true rfl⟩) | (rintro _ _ rfl rfl; exact ⟨_, _, rfl, rfl⟩)) | (rintro _ _ rfl rfl; exact ⟨k, _, rfl, by rw [List.getElem?_replicate, if_pos (by omega)]⟩))
    rintro u v H3 ⟨_, k2, rfl, ek, eu⟩ r3 dv
    rw [List.getElem?_replicate] at eu
    split at eu
    · cases eu
      exact out_s q (.mk false "run" [.str c] [] []) (.run cm0) rfl ((r1.trans r2).trans r3) dv
    · cases eu
  refine if_no (decide_eq_false c8) ?_
  refine' Exists.intro _ ⟨?_, by assumption, ?_⟩
  rotate_left 1
  · (repeat' (first | rfl | exact Dat.int _ | exact Dat.bl _ | (refine (?_ : Dat _ _ _ _); assumption) | (refine (?_ : LD _ _ _ _); assumption) | (refine (?_ : _ ≠ _); assumption) | refine' Exists.intro _ ?_ | refine And.intro ?_ ?_))
    all_goals (first | (first | (rintro _ rfl; exact ⟨_, rfl, by decide, by decide⟩) | (intro ts h; (repeat (obtain ⟨_, _, rfl, _, h⟩ := h)); (try cases h); exact Nat.le_of_ble_eq_true rfl) | (intro ts h; (repeat (obtain ⟨_, _, rfl, _, h⟩ := h)); (try cases h); exact ⟨List.cons_ne_nil _ _, Nat.le_of_ble_eq_true rfl⟩) | (rintro _ _ rfl rfl; exact ⟨_, _, rfl, rfl⟩)))
  rintro u v6 H3 ⟨_, ⟨_, _, rfl, rfl, _, _, rfl, rfl, rfl⟩, m⟩ r3 d6
  obtain ⟨one, om, rfl⟩ := mem_strs (zs := W0) m
  cases dat_str d6
  have sr3 := r3.sr
  have ld3 := ld2.dr r3 nk
  have ld4c := ld4b.dr r3 na4
  have r123 := (r1.trans r2).trans r3
  try dsimp only [L2.tRet, L2.tRetN, tAndV, tOrV, tNotV, tCB, L2.tCons, L2.tNil, tC, tVar, L2.tOp, L2.tUn, tSeq, tAsg, gName, tIfS, tTest, tNext, tAnd, tOr, tNot, L2.tIf, tFld, sFld, sFldAug, tCall, tTup, tB, tAug, tDrop, L2.tSl, tPart, tNoPart, tBM, tBM0, tChain, gTup, gCons, gNil, tPar, tIs, List.set, L2.start, iTup, L2.iList, L2.iRng1, tUn, tLst, tTest, gSub, tCall, L2.tIf, tCB, rRep, List.set, List.cons_append, List.nil_append, cxOf]
  refine ⟨_, rfl, _, _, rfl, rfl, _, rfl, ?_⟩
  by_cases c12 : (k : Int) < 12
  · refine if_yes (decide_eq_true c12) ?_
    obtain rfl | rfl | rfl | rfl : k = 8 ∨ k = 9 ∨ k = 10 ∨ k = 11 := by omega
    · try dsimp only [L2.tRet, L2.tRetN, tAndV, tOrV, tNotV, tCB, L2.tCons, L2.tNil, tC, tVar, L2.tOp, L2.tUn, tSeq, tAsg, gName, tIfS, tTest, tNext, tAnd, tOr, tNot, L2.tIf, tFld, sFld, sFldAug, tCall, tTup, tB, tAug, tDrop, L2.tSl, tPart, tNoPart, tBM, tBM0, tChain, gTup, gCons, gNil, tPar, tIs, List.set, L2.start, iTup, L2.iList, L2.iRng1, tUn, tLst, tTest, gSub, tCall, L2.tIf, tCB, rRep, List.set, List.cons_append, List.nil_append, cxOf]
      refine' Exists.intro _ ⟨?_, by assumption, ?_⟩
      rotate_left 1
      · (repeat' (first | rfl | exact Dat.int _ | exact Dat.bl _ | (refine (?_ : Dat _ _ _ _); assumption) | (refine (?_ : LD _ _ _ _); assumption) | (refine (?_ : _ ≠ _); assumption) | refine' Exists.intro _ ?_ | refine And.intro ?_ ?_))
        all_goals (first | (first | (rintro _ rfl; exact ⟨_, rfl, by decide, by decide⟩) | (intro ts h; (repeat (obtain ⟨_, _, rfl, _, h⟩ := h)); (try cases h); exact Nat.le_of_ble_eq_true rfl) | (intro ts h; (repeat (obtain ⟨_, _, rfl, _, h⟩ := h)); (try cases h); exact ⟨List.cons_ne_nil _ _, Nat.le_of_ble_eq_true rfl⟩) | (rintro _ _ rfl rfl; exact ⟨_, _, rfl, rfl⟩)) | (rintro _ _ ⟨_, _, rfl, _, _, _, rfl, _, _, _, rfl, _, _, _, rfl, _, rfl⟩ ⟨_, _, ⟨⟩, ⟨⟩, rfl⟩; exact ⟨0, _, rfl, rfl⟩))
      rintro u v H4 ⟨_, k2, ⟨_, _, rfl, e0, _, _, rfl, e1, _, _, rfl, e2, _, _, rfl, e3, rfl⟩, ⟨_, _, ⟨⟩, ⟨⟩, ek⟩, eu⟩ r4 dv
      have ek2 : k2 = 0 := by
        injection ek with ek
        omega
      subst ek2
      cases eu
      obtain ⟨_, rfl, _, _, rfl, rfl, _, _, rfl, ⟨_, n, ⟨⟩, n0, n1, rfl⟩, rfl⟩ := e0
      exact out_s q (.mk false "status" [.int n] [] []) (.status n0 (by omega)) rfl (r123.trans r4) dv
    · try dsimp only [L2.tRet, L2.tRetN, tAndV, tOrV, tNotV, tCB, L2.tCons, L2.tNil, tC, tVar, L2.tOp, L2.tUn, tSeq, tAsg, gName, tIfS, tTest, tNext, tAnd, tOr, tNot, L2.tIf, tFld, sFld, sFldAug, tCall, tTup, tB, tAug, tDrop, L2.tSl, tPart, tNoPart, tBM, tBM0, tChain, gTup, gCons, gNil, tPar, tIs, List.set, L2.start, iTup, L2.iList, L2.iRng1, tUn, tLst, tTest, gSub, tCall, L2.tIf, tCB, rRep, List.set, List.cons_append, List.nil_append, cxOf]
      refine' Exists.intro _ ⟨?_, by assumption, ?_⟩
      rotate_left 1
      · (repeat' (first | rfl | exact Dat.int _ | exact Dat.bl _ | (refine (?_ : Dat _ _ _ _); assumption) | (refine (?_ : LD _ _ _ _); assumption) | (refine (?_ : _ ≠ _); assumption) | refine' Exists.intro _ ?_ | refine And.intro ?_ ?_))
        all_goals (first | (first | (rintro _ rfl; exact ⟨_, rfl, by decide, by decide⟩) | (intro ts h; (repeat (obtain ⟨_, _, rfl, _, h⟩ := h)); (try cases h); exact Nat.le_of_ble_eq_true rfl) | (intro ts h; (repeat (obtain ⟨_, _, rfl, _, h⟩ := h)); (try cases h); exact ⟨List.cons_ne_nil _ _, Nat.le_of_ble_eq_true rfl⟩) | (rintro _ _ rfl rfl; exact ⟨_, _, rfl, rfl⟩)) | (rintro _ _ ⟨_, _, rfl, _, _, _, rfl, _, _, _, rfl, _, _, _, rfl, _, rfl⟩ ⟨_, _, ⟨⟩, ⟨⟩, rfl⟩; exact ⟨1, _, rfl, rfl⟩))
      rintro u v H4 ⟨_, k2, ⟨_, _, rfl, e0, _, _, rfl, e1, _, _, rfl, e2, _, _, rfl, e3, rfl⟩, ⟨_, _, ⟨⟩, ⟨⟩, ek⟩, eu⟩ r4 dv
      have ek2 : k2 = 1 := by
        injection ek with ek
        omega
      subst ek2
      cases eu
      obtain ⟨_, rfl, _, _, rfl, rfl, _, _, rfl, rfl, rfl⟩ := e1
      exact out_s q (.mk false "give" [.str one] [] []) (.var (by decide) om) rfl (r123.trans r4) dv
    · try dsimp only [L2.tRet, L2.tRetN, tAndV, tOrV, tNotV, tCB, L2.tCons, L2.tNil, tC, tVar, L2.tOp, L2.tUn, tSeq, tAsg, gName, tIfS, tTest, tNext, tAnd, tOr, tNot, L2.tIf, tFld, sFld, sFldAug, tCall, tTup, tB, tAug, tDrop, L2.tSl, tPart, tNoPart, tBM, tBM0, tChain, gTup, gCons, gNil, tPar, tIs, List.set, L2.start, iTup, L2.iList, L2.iRng1, tUn, tLst, tTest, gSub, tCall, L2.tIf, tCB, rRep, List.set, List.cons_append, List.nil_append, cxOf]
      refine' Exists.intro _ ⟨?_, by assumption, ?_⟩
      rotate_left 1
      · (repeat' (first | rfl | exact Dat.int _ | exact Dat.bl _ | (refine (?_ : Dat _ _ _ _); assumption) | (refine (?_ : LD _ _ _ _); assumption) | (refine (?_ : _ ≠ _); assumption) | refine' Exists.intro _ ?_ | refine And.intro ?_ ?_))
        all_goals (first | (first | (rintro _ rfl; exact ⟨_, rfl, by decide, by decide⟩) | (intro ts h; (repeat (obtain ⟨_, _, rfl, _, h⟩ := h)); (try cases h); exact Nat.le_of_ble_eq_true rfl) | (intro ts h; (repeat (obtain ⟨_, _, rfl, _, h⟩ := h)); (try cases h); exact ⟨List.cons_ne_nil _ _, Nat.le_of_ble_eq_true rfl⟩) | (rintro _ _ rfl rfl; exact ⟨_, _, rfl, rfl⟩)) | (rintro _ _ ⟨_, _, rfl, _, _, _, rfl, _, _, _, rfl, _, _, _, rfl, _, rfl⟩ ⟨_, _, ⟨⟩, ⟨⟩, rfl⟩; exact ⟨2, _, rfl, rfl⟩))
      rintro u v H4 ⟨_, k2, ⟨_, _, rfl, e0, _, _, rfl, e1, _, _, rfl, e2, _, _, rfl, e3, rfl⟩, ⟨_, _, ⟨⟩, ⟨⟩, ek⟩, eu⟩ r4 dv
      have ek2 : k2 = 2 := by
        injection ek with ek
        omega
      subst ek2
      cases eu
      obtain ⟨_, rfl, _, _, rfl, rfl, _, _, rfl, rfl, rfl⟩ := e2
      exact out_s q (.mk false "zero" [.str one] [] []) (.var (by decide) om) rfl (r123.trans r4) dv
    · try dsimp only [L2.tRet, L2.tRetN, tAndV, tOrV, tNotV, tCB, L2.tCons, L2.tNil, tC, tVar, L2.tOp, L2.tUn, tSeq, tAsg, gName, tIfS, tTest, tNext, tAnd, tOr, tNot, L2.tIf, tFld, sFld, sFldAug, tCall, tTup, tB, tAug, tDrop, L2.tSl, tPart, tNoPart, tBM, tBM0, tChain, gTup, gCons, gNil, tPar, tIs, List.set, L2.start, iTup, L2.iList, L2.iRng1, tUn, tLst, tTest, gSub, tCall, L2.tIf, tCB, rRep, List.set, List.cons_append, List.nil_append, cxOf]
      refine' Exists.intro _ ⟨?_, by assumption, ?_⟩
      rotate_left 1
      · (repeat' (first | rfl | exact Dat.int _ | exact Dat.bl _ | (refine (?_ : Dat _ _ _ _); assumption) | (refine (?_ : LD _ _ _ _); assumption) | (refine (?_ : _ ≠ _); assumption) | refine' Exists.intro _ ?_ | refine And.intro ?_ ?_))
        all_goals (first | (first | (rintro _ rfl; exact ⟨_, rfl, by decide, by decide⟩) | (intro ts h; (repeat (obtain ⟨_, _, rfl, _, h⟩ := h)); (try cases h); exact Nat.le_of_ble_eq_true rfl) | (intro ts h; (repeat (obtain ⟨_, _, rfl, _, h⟩ := h)); (try cases h); exact ⟨List.cons_ne_nil _ _, Nat.le_of_ble_eq_true rfl⟩) | (rintro _ _ rfl rfl; exact ⟨_, _, rfl, rfl⟩)) | (rintro _ _ ⟨_, _, rfl, _, _, _, rfl, _, _, _, rfl, _, _, _, rfl, _, rfl⟩ ⟨_, _, ⟨⟩, ⟨⟩, rfl⟩; exact ⟨3, _, rfl, rfl⟩))
      rintro u v H4 ⟨_, k2, ⟨_, _, rfl, e0, _, _, rfl, e1, _, _, rfl, e2, _, _, rfl, e3, rfl⟩, ⟨_, _, ⟨⟩, ⟨⟩, ek⟩, eu⟩ r4 dv
      have ek2 : k2 = 3 := by
        injection ek with ek
        omega
      subst ek2
      cases eu
      obtain ⟨_, rfl, _, _, rfl, rfl, _, _, rfl, rfl, rfl⟩ := e3
      exact out_s q (.mk false "keep" [.str one] [] []) (.var (by decide) om) rfl (r123.trans r4) dv
  refine if_no (decide_eq_false c12) ?_
  try dsimp only [L2.tRet, L2.tRetN, tAndV, tOrV, tNotV, tCB, L2.tCons, L2.tNil, tC, tVar, L2.tOp, L2.tUn, tSeq, tAsg, gName, tIfS, tTest, tNext, tAnd, tOr, tNot, L2.tIf, tFld, sFld, sFldAug, tCall, tTup, tB, tAug, tDrop, L2.tSl, tPart, tNoPart, tBM, tBM0, tChain, gTup, gCons, gNil, tPar, tIs, List.set, L2.start, iTup, L2.iList, L2.iRng1, tUn, tLst, tTest, gSub, tCall, L2.tIf, tCB, rRep, List.set, List.cons_append, List.nil_append, cxOf]
  refine ⟨_, rfl, _, _, rfl, rfl, _, rfl, ?_⟩
  by_cases c15 : (k : Int) < 15
  · refine if_yes (decide_eq_true c15) ?_
    try dsimp only [L2.tRet, L2.tRetN, tAndV, tOrV, tNotV, tCB, L2.tCons, L2.tNil, tC, tVar, L2.tOp, L2.tUn, tSeq, tAsg, gName, tIfS, tTest, tNext, tAnd, tOr, tNot, L2.tIf, tFld, sFld, sFldAug, tCall, tTup, tB, tAug, tDrop, L2.tSl, tPart, tNoPart, tBM, tBM0, tChain, gTup, gCons, gNil, tPar, tIs, List.set, L2.start, iTup, L2.iList, L2.iRng1, tUn, tLst, tTest, gSub, tCall, L2.tIf, tCB, rRep, List.set, List.cons_append, List.nil_append, cxOf]
    refine' Exists.intro _ ⟨?_, by assumption, ?_⟩
    rotate_left 1
    · (repeat' (first | rfl | exact Dat.int _ | exact Dat.bl _ | (refine (?_ : Dat _ _ _ _); assumption) | (refine (?_ : LD _ _ _ _); assumption) | (refine (?_ : _ ≠ _); assumption) | refine' Exists.intro _ ?_ | refine And.intro ?_ ?_))
      all_goals (first | (first | (rintro _ rfl; exact ⟨_, rfl, by decide, by decide⟩) | (intro ts h; (repeat (obtain ⟨_, _, rfl, _, h⟩ := h)); (try cases h); exact Nat.le_of_ble_eq_true rfl) | (intro ts h; (repeat (obtain ⟨_, _, rfl, _, h⟩ := h)); (try cases h); exact ⟨List.cons_ne_nil _ _, Nat.le_of_ble_eq_true rfl⟩) | (rintro _ _ rfl rfl; exact ⟨_, _, rfl, rfl⟩)))
    rintro u v7 H4 ⟨_, ⟨_, _, rfl, rfl, _, _, rfl, rfl, rfl⟩, m7⟩ r4 d7
    obtain ⟨wh, wm, rfl⟩ := mem_strs (zs := ["fail", "pipes"]) m7
    cases dat_str d7
    have sr4 := r4.sr
    have d6b := d6.up r4.st
    try dsimp only [L2.tRet, L2.tRetN, tAndV, tOrV, tNotV, tCB, L2.tCons, L2.tNil, tC, tVar, L2.tOp, L2.tUn, tSeq, tAsg, gName, tIfS, tTest, tNext, tAnd, tOr, tNot, L2.tIf, tFld, sFld, sFldAug, tCall, tTup, tB, tAug, tDrop, L2.tSl, tPart, tNoPart, tBM, tBM0, tChain, gTup, gCons, gNil, tPar, tIs, List.set, L2.start, iTup, L2.iList, L2.iRng1, tUn, tLst, tTest, gSub, tCall, L2.tIf, tCB, rRep, List.set, List.cons_append, List.nil_append, cxOf]
    refine' Exists.intro _ ⟨?_, by assumption, ?_⟩
    rotate_left 1
    · (repeat' (first | rfl | exact Dat.int _ | exact Dat.bl _ | (refine (?_ : Dat _ _ _ _); assumption) | (refine (?_ : LD _ _ _ _); assumption) | (refine (?_ : _ ≠ _); assumption) | refine' Exists.intro _ ?_ | refine And.intro ?_ ?_))
      all_goals (first | (first | (rintro _ rfl; exact ⟨_, rfl, by decide, by decide⟩) | (intro ts h; (repeat (obtain ⟨_, _, rfl, _, h⟩ := h)); (try cases h); exact Nat.le_of_ble_eq_true rfl) | (intro ts h; (repeat (obtain ⟨_, _, rfl, _, h⟩ := h)); (try cases h); exact ⟨List.cons_ne_nil _ _, Nat.le_of_ble_eq_true rfl⟩) | (rintro _ _ rfl rfl; exact ⟨_, _, rfl, rfl⟩)))
    rintro _ a8 H5 ⟨_, _, rfl, ⟨_, rfl, _, _, rfl, rfl, _, _, rfl, rfl, _, _, rfl, ⟨_, n, ⟨⟩, n0, n1, rfl⟩, rfl⟩, _, _, rfl, ⟨_, rfl, _, _, rfl, rfl, _, _, rfl, rfl, _, _, rfl, rfl, rfl⟩, rfl⟩ r5 na8 ld8
    have sr5 := r5.sr
    have d6c := d6b.up r5.st
    have d7c := d7.up r5.st
    try dsimp only [L2.tRet, L2.tRetN, tAndV, tOrV, tNotV, tCB, L2.tCons, L2.tNil, tC, tVar, L2.tOp, L2.tUn, tSeq, tAsg, gName, tIfS, tTest, tNext, tAnd, tOr, tNot, L2.tIf, tFld, sFld, sFldAug, tCall, tTup, tB, tAug, tDrop, L2.tSl, tPart, tNoPart, tBM, tBM0, tChain, gTup, gCons, gNil, tPar, tIs, List.set, L2.start, iTup, L2.iList, L2.iRng1, tUn, tLst, tTest, gSub, tCall, L2.tIf, tCB, rRep, List.set, List.cons_append, List.nil_append, cxOf]
    refine' Exists.intro _ ⟨?_, by assumption, ?_⟩
    rotate_left 1
    · (repeat' (first | rfl | exact Dat.int _ | exact Dat.bl _ | (refine (?_ : Dat _ _ _ _); assumption) | (refine (?_ : LD _ _ _ _); assumption) | (refine (?_ : _ ≠ _); assumption) | refine' Exists.intro _ ?_ | refine And.intro ?_ ?_))
      all_goals (first | (first | (rintro _ rfl; exact ⟨_, rfl, by decide, by decide⟩) | (intro ts h; (repeat (obtain ⟨_, _, rfl, _, h⟩ := h)); (try cases h); exact Nat.le_of_ble_eq_true rfl) | (intro ts h; (repeat (obtain ⟨_, _, rfl, _, h⟩ := h)); (try cases h); exact ⟨List.cons_ne_nil _ _, Nat.le_of_ble_eq_true rfl⟩) | (rintro _ _ rfl rfl; exact ⟨_, _, rfl, rfl⟩)) | (rintro _ rfl; exact ⟨_, rfl⟩) | (rintro _ _ rfl ⟨_, _, rfl, _, rfl⟩; exact Nat.le_of_ble_eq_true rfl))
    rintro _ a9 H6 ⟨_, _, rfl, ⟨_, _, rfl, ⟨_, rfl, _, _, rfl, rfl, _, _, rfl, rfl, _, _, rfl, ⟨bb, rfl⟩, rfl⟩, rfl⟩, rfl⟩ r6 na9 ld9
    have sr6 := r6.sr
    try dsimp only [L2.tRet, L2.tRetN, tAndV, tOrV, tNotV, tCB, L2.tCons, L2.tNil, tC, tVar, L2.tOp, L2.tUn, tSeq, tAsg, gName, tIfS, tTest, tNext, tAnd, tOr, tNot, L2.tIf, tFld, sFld, sFldAug, tCall, tTup, tB, tAug, tDrop, L2.tSl, tPart, tNoPart, tBM, tBM0, tChain, gTup, gCons, gNil, tPar, tIs, List.set, L2.start, iTup, L2.iList, L2.iRng1, tUn, tLst, tTest, gSub, tCall, L2.tIf, tCB, rRep, List.set, List.cons_append, List.nil_append, cxOf]
    have r16 := ((r123.trans r4).trans r5).trans r6
    obtain rfl | rfl | rfl : k = 12 ∨ k = 13 ∨ k = 14 := by omega
    · try dsimp only [L2.tRet, L2.tRetN, tAndV, tOrV, tNotV, tCB, L2.tCons, L2.tNil, tC, tVar, L2.tOp, L2.tUn, tSeq, tAsg, gName, tIfS, tTest, tNext, tAnd, tOr, tNot, L2.tIf, tFld, sFld, sFldAug, tCall, tTup, tB, tAug, tDrop, L2.tSl, tPart, tNoPart, tBM, tBM0, tChain, gTup, gCons, gNil, tPar, tIs, List.set, L2.start, iTup, L2.iList, L2.iRng1, tUn, tLst, tTest, gSub, tCall, L2.tIf, tCB, rRep, List.set, List.cons_append, List.nil_append, cxOf]
      refine' Exists.intro _ ⟨?_, by assumption, ?_⟩
      rotate_left 1
      · (repeat' (first | rfl | exact Dat.int _ | exact Dat.bl _ | (refine (?_ : Dat _ _ _ _); assumption) | (refine (?_ : LD _ _ _ _); assumption) | (refine (?_ : _ ≠ _); assumption) | refine' Exists.intro _ ?_ | refine And.intro ?_ ?_))
        all_goals (first | (first | (rintro _ rfl; exact ⟨_, rfl, by decide, by decide⟩) | (intro ts h; (repeat (obtain ⟨_, _, rfl, _, h⟩ := h)); (try cases h); exact Nat.le_of_ble_eq_true rfl) | (intro ts h; (repeat (obtain ⟨_, _, rfl, _, h⟩ := h)); (try cases h); exact ⟨List.cons_ne_nil _ _, Nat.le_of_ble_eq_true rfl⟩) | (rintro _ _ rfl rfl; exact ⟨_, _, rfl, rfl⟩)) | (rintro _ _ rfl ⟨_, _, ⟨⟩, ⟨⟩, rfl⟩; exact ⟨0, _, rfl, rfl⟩))
      rintro u v H7 ⟨_, k2, rfl, ⟨_, _, ⟨⟩, ⟨⟩, ek⟩, eu⟩ r7 dv
      have ek2 : k2 = 0 := by
        injection ek with ek
        omega
      subst ek2
      cases eu
      exact out_s q (.mk false "put" [.str one, .int n] [] []) (.put om n0 (by omega)) rfl (r16.trans r7) dv
    · try dsimp only [L2.tRet, L2.tRetN, tAndV, tOrV, tNotV, tCB, L2.tCons, L2.tNil, tC, tVar, L2.tOp, L2.tUn, tSeq, tAsg, gName, tIfS, tTest, tNext, tAnd, tOr, tNot, L2.tIf, tFld, sFld, sFldAug, tCall, tTup, tB, tAug, tDrop, L2.tSl, tPart, tNoPart, tBM, tBM0, tChain, gTup, gCons, gNil, tPar, tIs, List.set, L2.start, iTup, L2.iList, L2.iRng1, tUn, tLst, tTest, gSub, tCall, L2.tIf, tCB, rRep, List.set, List.cons_append, List.nil_append, cxOf]
      refine' Exists.intro _ ⟨?_, by assumption, ?_⟩
      rotate_left 1
      · (repeat' (first | rfl | exact Dat.int _ | exact Dat.bl _ | (refine (?_ : Dat _ _ _ _); assumption) | (refine (?_ : LD _ _ _ _); assumption) | (refine (?_ : _ ≠ _); assumption) | refine' Exists.intro _ ?_ | refine And.intro ?_ ?_))
        all_goals (first | (first | (rintro _ rfl; exact ⟨_, rfl, by decide, by decide⟩) | (intro ts h; (repeat (obtain ⟨_, _, rfl, _, h⟩ := h)); (try cases h); exact Nat.le_of_ble_eq_true rfl) | (intro ts h; (repeat (obtain ⟨_, _, rfl, _, h⟩ := h)); (try cases h); exact ⟨List.cons_ne_nil _ _, Nat.le_of_ble_eq_true rfl⟩) | (rintro _ _ rfl rfl; exact ⟨_, _, rfl, rfl⟩)) | (rintro _ _ rfl ⟨_, _, ⟨⟩, ⟨⟩, rfl⟩; exact ⟨1, _, rfl, rfl⟩))
      rintro u v H7 ⟨_, k2, rfl, ⟨_, _, ⟨⟩, ⟨⟩, ek⟩, eu⟩ r7 dv
      have ek2 : k2 = 1 := by
        injection ek with ek
        omega
      subst ek2
      cases eu
      exact out_s q (.mk false "option" [.str "fail", .bl true] [] []) (.option (.inl rfl)) rfl (r16.trans r7) dv
    · try dsimp only [L2.tRet, L2.tRetN, tAndV, tOrV, tNotV, tCB, L2.tCons, L2.tNil, tC, tVar, L2.tOp, L2.tUn, tSeq, tAsg, gName, tIfS, tTest, tNext, tAnd, tOr, tNot, L2.tIf, tFld, sFld, sFldAug, tCall, tTup, tB, tAug, tDrop, L2.tSl, tPart, tNoPart, tBM, tBM0, tChain, gTup, gCons, gNil, tPar, tIs, List.set, L2.start, iTup, L2.iList, L2.iRng1, tUn, tLst, tTest, gSub, tCall, L2.tIf, tCB, rRep, List.set, List.cons_append, List.nil_append, cxOf]
      refine' Exists.intro _ ⟨?_, by assumption, ?_⟩
      rotate_left 1
      · (repeat' (first | rfl | exact Dat.int _ | exact Dat.bl _ | (refine (?_ : Dat _ _ _ _); assumption) | (refine (?_ : LD _ _ _ _); assumption) | (refine (?_ : _ ≠ _); assumption) | refine' Exists.intro _ ?_ | refine And.intro ?_ ?_))
        all_goals (first | (first | (rintro _ rfl; exact ⟨_, rfl, by decide, by decide⟩) | (intro ts h; (repeat (obtain ⟨_, _, rfl, _, h⟩ := h)); (try cases h); exact Nat.le_of_ble_eq_true rfl) | (intro ts h; (repeat (obtain ⟨_, _, rfl, _, h⟩ := h)); (try cases h); exact ⟨List.cons_ne_nil _ _, Nat.le_of_ble_eq_true rfl⟩) | (rintro _ _ rfl rfl; exact ⟨_, _, rfl, rfl⟩)) | (rintro _ _ rfl ⟨_, _, ⟨⟩, ⟨⟩, rfl⟩; exact ⟨2, _, rfl, rfl⟩))
      rintro u v H7 ⟨_, k2, rfl, ⟨_, _, ⟨⟩, ⟨⟩, ek⟩, eu⟩ r7 dv
      have ek2 : k2 = 2 := by
        injection ek with ek
        omega
      subst ek2
      cases eu
      exact out_s q (.mk false "option" [.str wh, .bl bb] [] []) (.option (by rcases List.mem_cons.mp wm with e | e; exact .inl e; exact .inr (List.mem_singleton.mp e))) rfl (r16.trans r7) dv
  refine if_no (decide_eq_false c15) ?_
  try dsimp only [L2.tRet, L2.tRetN, tAndV, tOrV, tNotV, tCB, L2.tCons, L2.tNil, tC, tVar, L2.tOp, L2.tUn, tSeq, tAsg, gName, tIfS, tTest, tNext, tAnd, tOr, tNot, L2.tIf, tFld, sFld, sFldAug, tCall, tTup, tB, tAug, tDrop, L2.tSl, tPart, tNoPart, tBM, tBM0, tChain, gTup, gCons, gNil, tPar, tIs, List.set, L2.start, iTup, L2.iList, L2.iRng1, tUn, tLst, tTest, gSub, tCall, L2.tIf, tCB, rRep, List.set, List.cons_append, List.nil_append, cxOf]
  refine ⟨_, rfl, rfl, _, rfl, ?_⟩
  obtain rfl | rfl | rfl | rfl | rfl : k = 15 ∨ k = 16 ∨ k = 17 ∨ k = 18 ∨ k = 19 := by omega
  · refine if_yes (decide_eq_true rfl) ?_
    try dsimp only [L2.tRet, L2.tRetN, tAndV, tOrV, tNotV, tCB, L2.tCons, L2.tNil, tC, tVar, L2.tOp, L2.tUn, tSeq, tAsg, gName, tIfS, tTest, tNext, tAnd, tOr, tNot, L2.tIf, tFld, sFld, sFldAug, tCall, tTup, tB, tAug, tDrop, L2.tSl, tPart, tNoPart, tBM, tBM0, tChain, gTup, gCons, gNil, tPar, tIs, List.set, L2.start, iTup, L2.iList, L2.iRng1, tUn, tLst, tTest, gSub, tCall, L2.tIf, tCB, rRep, List.set, List.cons_append, List.nil_append, cxOf]
    refine ⟨_, rfl, _, _, rfl, rfl, _, rfl, ?_⟩
    by_cases l0 : (lp : Int) > 0
    · refine if_yes (decide_eq_true l0) ?_
      try dsimp only [L2.tRet, L2.tRetN, tAndV, tOrV, tNotV, tCB, L2.tCons, L2.tNil, tC, tVar, L2.tOp, L2.tUn, tSeq, tAsg, gName, tIfS, tTest, tNext, tAnd, tOr, tNot, L2.tIf, tFld, sFld, sFldAug, tCall, tTup, tB, tAug, tDrop, L2.tSl, tPart, tNoPart, tBM, tBM0, tChain, gTup, gCons, gNil, tPar, tIs, List.set, L2.start, iTup, L2.iList, L2.iRng1, tUn, tLst, tTest, gSub, tCall, L2.tIf, tCB, rRep, List.set, List.cons_append, List.nil_append, cxOf]
      refine' Exists.intro _ ⟨?_, by assumption, ?_⟩
      rotate_left 1
      · (repeat' (first | rfl | exact Dat.int _ | exact Dat.bl _ | (refine (?_ : Dat _ _ _ _); assumption) | (refine (?_ : LD _ _ _ _); assumption) | (refine (?_ : _ ≠ _); assumption) | refine' Exists.intro _ ?_ | refine And.intro ?_ ?_))
        all_goals (first | (first | (rintro _ rfl; exact ⟨_, rfl, by decide, by decide⟩) | (intro ts h; (repeat (obtain ⟨_, _, rfl, _, h⟩ := h)); (try cases h); exact Nat.le_of_ble_eq_true rfl) | (intro ts h; (repeat (obtain ⟨_, _, rfl, _, h⟩ := h)); (try cases h); exact ⟨List.cons_ne_nil _ _, Nat.le_of_ble_eq_true rfl⟩) | (rintro _ _ rfl rfl; exact ⟨_, _, rfl, rfl⟩)) | (rintro _ rfl; exact ⟨_, rfl, by omega, by omega⟩) | (rintro _ _ rfl ⟨_, _, _, _, _, rfl⟩; exact ⟨_, _, rfl, rfl⟩))
      rintro u v H4 ⟨_, rfl, _, _, rfl, ⟨_, ⟨_, _, rfl, rfl, _, _, rfl, rfl, rfl⟩, m9⟩, _, _, rfl, ⟨_, r, ⟨⟩, ⟨_, _, ⟨⟩, q0, q1, ⟨⟩⟩, rfl⟩, rfl⟩ r4 dv
      obtain ⟨wj, wm, rfl⟩ := mem_strs (zs := ["break", "next"]) m9
      refine out_s q (.mk false wj [.int (1 + r)] [] []) (.jump ?_ (by omega) (by omega)) rfl (r123.trans r4) dv
      rcases List.mem_cons.mp wm with e | e
      · exact .inl e
      · exact .inr (List.mem_singleton.mp e)
    · refine if_no (decide_eq_false l0) ?_
      try dsimp only [L2.tRet, L2.tRetN, tAndV, tOrV, tNotV, tCB, L2.tCons, L2.tNil, tC, tVar, L2.tOp, L2.tUn, tSeq, tAsg, gName, tIfS, tTest, tNext, tAnd, tOr, tNot, L2.tIf, tFld, sFld, sFldAug, tCall, tTup, tB, tAug, tDrop, L2.tSl, tPart, tNoPart, tBM, tBM0, tChain, gTup, gCons, gNil, tPar, tIs, List.set, L2.start, iTup, L2.iList, L2.iRng1, tUn, tLst, tTest, gSub, tCall, L2.tIf, tCB, rRep, List.set, List.cons_append, List.nil_append, cxOf]
      refine ⟨_, rfl, rfl, _, rfl, ?_⟩
      refine if_no (dn (by decide)) ?_
      try dsimp only [L2.tRet, L2.tRetN, tAndV, tOrV, tNotV, tCB, L2.tCons, L2.tNil, tC, tVar, L2.tOp, L2.tUn, tSeq, tAsg, gName, tIfS, tTest, tNext, tAnd, tOr, tNot, L2.tIf, tFld, sFld, sFldAug, tCall, tTup, tB, tAug, tDrop, L2.tSl, tPart, tNoPart, tBM, tBM0, tChain, gTup, gCons, gNil, tPar, tIs, List.set, L2.start, iTup, L2.iList, L2.iRng1, tUn, tLst, tTest, gSub, tCall, L2.tIf, tCB, rRep, List.set, List.cons_append, List.nil_append, cxOf]
      refine ⟨_, rfl, rfl, _, rfl, ?_⟩
      refine if_no (dn (by decide)) ?_
      try dsimp only [L2.tRet, L2.tRetN, tAndV, tOrV, tNotV, tCB, L2.tCons, L2.tNil, tC, tVar, L2.tOp, L2.tUn, tSeq, tAsg, gName, tIfS, tTest, tNext, tAnd, tOr, tNot, L2.tIf, tFld, sFld, sFldAug, tCall, tTup, tB, tAug, tDrop, L2.tSl, tPart, tNoPart, tBM, tBM0, tChain, gTup, gCons, gNil, tPar, tIs, List.set, L2.start, iTup, L2.iList, L2.iRng1, tUn, tLst, tTest, gSub, tCall, L2.tIf, tCB, rRep, List.set, List.cons_append, List.nil_append, cxOf]
      refine ⟨_, rfl, sl (Nat.zero_le _), fun b nb => ?_⟩
      have rb := (Dr.refl sr3).new (o := .lst []) nb
      have srb := rb.sr
      have ldb := ld3.dr rb nk
      have ld4d := ld4c.dr rb na4
      refine known_ne mk ldb upd_same (fun e => ⟨_, rfl, if_no rfl ?_⟩) fun ne => ⟨_, rfl, if_yes rfl ?_⟩
      · try dsimp only [L2.tRet, L2.tRetN, tAndV, tOrV, tNotV, tCB, L2.tCons, L2.tNil, tC, tVar, L2.tOp, L2.tUn, tSeq, tAsg, gName, tIfS, tTest, tNext, tAnd, tOr, tNot, L2.tIf, tFld, sFld, sFldAug, tCall, tTup, tB, tAug, tDrop, L2.tSl, tPart, tNoPart, tBM, tBM0, tChain, gTup, gCons, gNil, tPar, tIs, List.set, L2.start, iTup, L2.iList, L2.iRng1, tUn, tLst, tTest, gSub, tCall, L2.tIf, tCB, rRep, List.set, List.cons_append, List.nil_append, cxOf]
        refine' Exists.intro _ ⟨?_, by assumption, ?_⟩
        rotate_left 1
        · (repeat' (first | rfl | exact Dat.int _ | exact Dat.bl _ | (refine (?_ : Dat _ _ _ _); assumption) | (refine (?_ : LD _ _ _ _); assumption) | (refine (?_ : _ ≠ _); assumption) | refine' Exists.intro _ ?_ | refine And.intro ?_ ?_))
          all_goals (first | (first | (rintro _ rfl; exact ⟨_, rfl, by decide, by decide⟩) | (intro ts h; (repeat (obtain ⟨_, _, rfl, _, h⟩ := h)); (try cases h); exact Nat.le_of_ble_eq_true rfl) | (intro ts h; (repeat (obtain ⟨_, _, rfl, _, h⟩ := h)); (try cases h); exact ⟨List.cons_ne_nil _ _, Nat.le_of_ble_eq_true rfl⟩) | (rintro _ _ rfl rfl; exact ⟨_, _, rfl, rfl⟩)) | (rintro _ _ rfl rfl; exact ⟨0, _, rfl, rfl⟩))
        rintro u v H7 ⟨_, k2, rfl, ek, eu⟩ r7 dv
        rw [List.getElem?_replicate] at eu
        split at eu
        · cases eu
          exact out_s q (.mk false "run" [.str c] [] []) (.run cm0) rfl ((r123.trans rb).trans r7) dv
        · cases eu
      · try dsimp only [L2.tRet, L2.tRetN, tAndV, tOrV, tNotV, tCB, L2.tCons, L2.tNil, tC, tVar, L2.tOp, L2.tUn, tSeq, tAsg, gName, tIfS, tTest, tNext, tAnd, tOr, tNot, L2.tIf, tFld, sFld, sFldAug, tCall, tTup, tB, tAug, tDrop, L2.tSl, tPart, tNoPart, tBM, tBM0, tChain, gTup, gCons, gNil, tPar, tIs, List.set, L2.start, iTup, L2.iList, L2.iRng1, tUn, tLst, tTest, gSub, tCall, L2.tIf, tCB, rRep, List.set, List.cons_append, List.nil_append, cxOf]
        refine' Exists.intro _ ⟨?_, by assumption, ?_⟩
        rotate_left 1
        · (repeat' (first | rfl | exact Dat.int _ | exact Dat.bl _ | (refine (?_ : Dat _ _ _ _); assumption) | (refine (?_ : LD _ _ _ _); assumption) | (refine (?_ : _ ≠ _); assumption) | refine' Exists.intro _ ?_ | refine And.intro ?_ ?_))
          all_goals (first | (first | (rintro _ rfl; exact ⟨_, rfl, by decide, by decide⟩) | (intro ts h; (repeat (obtain ⟨_, _, rfl, _, h⟩ := h)); (try cases h); exact Nat.le_of_ble_eq_true rfl) | (intro ts h; (repeat (obtain ⟨_, _, rfl, _, h⟩ := h)); (try cases h); exact ⟨List.cons_ne_nil _ _, Nat.le_of_ble_eq_true rfl⟩) | (rintro _ _ rfl rfl; exact ⟨_, _, rfl, rfl⟩)) | (rintro _ rfl; exact ⟨fun z => ne (List.map_eq_nil_iff.mp z), by rw [List.length_map]; exact known_few mk⟩))
        rintro u v H7 ⟨_, rfl, _, _, rfl, rfl, _, _, rfl, ⟨_, rfl, m9⟩, rfl⟩ r7 dv
        obtain ⟨fn, fm, rfl⟩ := mem_strs m9
        exact out_s q (.mk false "call" [.str fn] [] []) (.call fm) rfl ((r123.trans rb).trans r7) dv
  · refine if_no (dn (by decide)) ?_
    try dsimp only [L2.tRet, L2.tRetN, tAndV, tOrV, tNotV, tCB, L2.tCons, L2.tNil, tC, tVar, L2.tOp, L2.tUn, tSeq, tAsg, gName, tIfS, tTest, tNext, tAnd, tOr, tNot, L2.tIf, tFld, sFld, sFldAug, tCall, tTup, tB, tAug, tDrop, L2.tSl, tPart, tNoPart, tBM, tBM0, tChain, gTup, gCons, gNil, tPar, tIs, List.set, L2.start, iTup, L2.iList, L2.iRng1, tUn, tLst, tTest, gSub, tCall, L2.tIf, tCB, rRep, List.set, List.cons_append, List.nil_append, cxOf]
    refine ⟨_, rfl, rfl, _, rfl, ?_⟩
    refine if_yes (decide_eq_true rfl) ?_
    try dsimp only [L2.tRet, L2.tRetN, tAndV, tOrV, tNotV, tCB, L2.tCons, L2.tNil, tC, tVar, L2.tOp, L2.tUn, tSeq, tAsg, gName, tIfS, tTest, tNext, tAnd, tOr, tNot, L2.tIf, tFld, sFld, sFldAug, tCall, tTup, tB, tAug, tDrop, L2.tSl, tPart, tNoPart, tBM, tBM0, tChain, gTup, gCons, gNil, tPar, tIs, List.set, L2.start, iTup, L2.iList, L2.iRng1, tUn, tLst, tTest, gSub, tCall, L2.tIf, tCB, rRep, List.set, List.cons_append, List.nil_append, cxOf]
    refine ⟨_, rfl, _, rfl, ?_⟩
    cases wi with
    | true =>
      refine if_yes rfl ?_
      try dsimp only [L2.tRet, L2.tRetN, tAndV, tOrV, tNotV, tCB, L2.tCons, L2.tNil, tC, tVar, L2.tOp, L2.tUn, tSeq, tAsg, gName, tIfS, tTest, tNext, tAnd, tOr, tNot, L2.tIf, tFld, sFld, sFldAug, tCall, tTup, tB, tAug, tDrop, L2.tSl, tPart, tNoPart, tBM, tBM0, tChain, gTup, gCons, gNil, tPar, tIs, List.set, L2.start, iTup, L2.iList, L2.iRng1, tUn, tLst, tTest, gSub, tCall, L2.tIf, tCB, rRep, List.set, List.cons_append, List.nil_append, cxOf]
      refine' Exists.intro _ ⟨?_, by assumption, ?_⟩
      rotate_left 1
      · (repeat' (first | rfl | exact Dat.int _ | exact Dat.bl _ | (refine (?_ : Dat _ _ _ _); assumption) | (refine (?_ : LD _ _ _ _); assumption) | (refine (?_ : _ ≠ _); assumption) | refine' Exists.intro _ ?_ | refine And.intro ?_ ?_))
        all_goals (first | (first | (rintro _ rfl; exact ⟨_, rfl, by decide, by decide⟩) | (intro ts h; (repeat (obtain ⟨_, _, rfl, _, h⟩ := h)); (try cases h); exact Nat.le_of_ble_eq_true rfl) | (intro ts h; (repeat (obtain ⟨_, _, rfl, _, h⟩ := h)); (try cases h); exact ⟨List.cons_ne_nil _ _, Nat.le_of_ble_eq_true rfl⟩) | (rintro _ _ rfl rfl; exact ⟨_, _, rfl, rfl⟩)))
      rintro u v H4 ⟨_, rfl, _, _, rfl, rfl, _, _, rfl, ⟨_, ⟨_, _, rfl, rfl, _, _, rfl, rfl, _, _, rfl, rfl, rfl⟩, m⟩, rfl⟩ r4 dv
      rcases List.mem_cons.mp m with rfl | m
      · exact out_s q (.mk false "return" [.non] [] []) .ret0 rfl (r123.trans r4) dv
      rcases List.mem_cons.mp m with rfl | m
      · exact out_s q (.mk false "return" [.int 0] [] []) (.ret (by decide) (by decide)) rfl (r123.trans r4) dv
      rcases List.mem_cons.mp m with rfl | m
      · exact out_s q (.mk false "return" [.int 2] [] []) (.ret (by decide) (by decide)) rfl (r123.trans r4) dv
      cases m
    | false =>
      refine if_no rfl ?_
      try dsimp only [L2.tRet, L2.tRetN, tAndV, tOrV, tNotV, tCB, L2.tCons, L2.tNil, tC, tVar, L2.tOp, L2.tUn, tSeq, tAsg, gName, tIfS, tTest, tNext, tAnd, tOr, tNot, L2.tIf, tFld, sFld, sFldAug, tCall, tTup, tB, tAug, tDrop, L2.tSl, tPart, tNoPart, tBM, tBM0, tChain, gTup, gCons, gNil, tPar, tIs, List.set, L2.start, iTup, L2.iList, L2.iRng1, tUn, tLst, tTest, gSub, tCall, L2.tIf, tCB, rRep, List.set, List.cons_append, List.nil_append, cxOf]
      refine ⟨_, rfl, rfl, _, rfl, ?_⟩
      refine if_no (dn (by decide)) ?_
      try dsimp only [L2.tRet, L2.tRetN, tAndV, tOrV, tNotV, tCB, L2.tCons, L2.tNil, tC, tVar, L2.tOp, L2.tUn, tSeq, tAsg, gName, tIfS, tTest, tNext, tAnd, tOr, tNot, L2.tIf, tFld, sFld, sFldAug, tCall, tTup, tB, tAug, tDrop, L2.tSl, tPart, tNoPart, tBM, tBM0, tChain, gTup, gCons, gNil, tPar, tIs, List.set, L2.start, iTup, L2.iList, L2.iRng1, tUn, tLst, tTest, gSub, tCall, L2.tIf, tCB, rRep, List.set, List.cons_append, List.nil_append, cxOf]
      refine ⟨_, rfl, sl (Nat.zero_le _), fun b nb => ?_⟩
      have rb := (Dr.refl sr3).new (o := .lst []) nb
      have srb := rb.sr
      have ldb := ld3.dr rb nk
      have ld4d := ld4c.dr rb na4
      refine known_ne mk ldb upd_same (fun e => ⟨_, rfl, if_no rfl ?_⟩) fun ne => ⟨_, rfl, if_yes rfl ?_⟩
      · try dsimp only [L2.tRet, L2.tRetN, tAndV, tOrV, tNotV, tCB, L2.tCons, L2.tNil, tC, tVar, L2.tOp, L2.tUn, tSeq, tAsg, gName, tIfS, tTest, tNext, tAnd, tOr, tNot, L2.tIf, tFld, sFld, sFldAug, tCall, tTup, tB, tAug, tDrop, L2.tSl, tPart, tNoPart, tBM, tBM0, tChain, gTup, gCons, gNil, tPar, tIs, List.set, L2.start, iTup, L2.iList, L2.iRng1, tUn, tLst, tTest, gSub, tCall, L2.tIf, tCB, rRep, List.set, List.cons_append, List.nil_append, cxOf]
        refine' Exists.intro _ ⟨?_, by assumption, ?_⟩
        rotate_left 1
        · (repeat' (first | rfl | exact Dat.int _ | exact Dat.bl _ | (refine (?_ : Dat _ _ _ _); assumption) | (refine (?_ : LD _ _ _ _); assumption) | (refine (?_ : _ ≠ _); assumption) | refine' Exists.intro _ ?_ | refine And.intro ?_ ?_))
          all_goals (first | (first | (rintro _ rfl; exact ⟨_, rfl, by decide, by decide⟩) | (intro ts h; (repeat (obtain ⟨_, _, rfl, _, h⟩ := h)); (try cases h); exact Nat.le_of_ble_eq_true rfl) | (intro ts h; (repeat (obtain ⟨_, _, rfl, _, h⟩ := h)); (try cases h); exact ⟨List.cons_ne_nil _ _, Nat.le_of_ble_eq_true rfl⟩) | (rintro _ _ rfl rfl; exact ⟨_, _, rfl, rfl⟩)) | (rintro _ _ rfl rfl; exact ⟨0, _, rfl, rfl⟩))
        rintro u v H7 ⟨_, k2, rfl, ek, eu⟩ r7 dv
        rw [List.getElem?_replicate] at eu
        split at eu
        · cases eu
          exact out_s q (.mk false "run" [.str c] [] []) (.run cm0) rfl ((r123.trans rb).trans r7) dv
        · cases eu
      · try dsimp only [L2.tRet, L2.tRetN, tAndV, tOrV, tNotV, tCB, L2.tCons, L2.tNil, tC, tVar, L2.tOp, L2.tUn, tSeq, tAsg, gName, tIfS, tTest, tNext, tAnd, tOr, tNot, L2.tIf, tFld, sFld, sFldAug, tCall, tTup, tB, tAug, tDrop, L2.tSl, tPart, tNoPart, tBM, tBM0, tChain, gTup, gCons, gNil, tPar, tIs, List.set, L2.start, iTup, L2.iList, L2.iRng1, tUn, tLst, tTest, gSub, tCall, L2.tIf, tCB, rRep, List.set, List.cons_append, List.nil_append, cxOf]
        refine' Exists.intro _ ⟨?_, by assumption, ?_⟩
        rotate_left 1
        · (repeat' (first | rfl | exact Dat.int _ | exact Dat.bl _ | (refine (?_ : Dat _ _ _ _); assumption) | (refine (?_ : LD _ _ _ _); assumption) | (refine (?_ : _ ≠ _); assumption) | refine' Exists.intro _ ?_ | refine And.intro ?_ ?_))
          all_goals (first | (first | (rintro _ rfl; exact ⟨_, rfl, by decide, by decide⟩) | (intro ts h; (repeat (obtain ⟨_, _, rfl, _, h⟩ := h)); (try cases h); exact Nat.le_of_ble_eq_true rfl) | (intro ts h; (repeat (obtain ⟨_, _, rfl, _, h⟩ := h)); (try cases h); exact ⟨List.cons_ne_nil _ _, Nat.le_of_ble_eq_true rfl⟩) | (rintro _ _ rfl rfl; exact ⟨_, _, rfl, rfl⟩)) | (rintro _ rfl; exact ⟨fun z => ne (List.map_eq_nil_iff.mp z), by rw [List.length_map]; exact known_few mk⟩))
        rintro u v H7 ⟨_, rfl, _, _, rfl, rfl, _, _, rfl, ⟨_, rfl, m9⟩, rfl⟩ r7 dv
        obtain ⟨fn, fm, rfl⟩ := mem_strs m9
        exact out_s q (.mk false "call" [.str fn] [] []) (.call fm) rfl ((r123.trans rb).trans r7) dv
  · refine if_no (dn (by decide)) ?_
    try dsimp only [L2.tRet, L2.tRetN, tAndV, tOrV, tNotV, tCB, L2.tCons, L2.tNil, tC, tVar, L2.tOp, L2.tUn, tSeq, tAsg, gName, tIfS, tTest, tNext, tAnd, tOr, tNot, L2.tIf, tFld, sFld, sFldAug, tCall, tTup, tB, tAug, tDrop, L2.tSl, tPart, tNoPart, tBM, tBM0, tChain, gTup, gCons, gNil, tPar, tIs, List.set, L2.start, iTup, L2.iList, L2.iRng1, tUn, tLst, tTest, gSub, tCall, L2.tIf, tCB, rRep, List.set, List.cons_append, List.nil_append, cxOf]
    refine ⟨_, rfl, rfl, _, rfl, ?_⟩
    refine if_no (dn (by decide)) ?_
    try dsimp only [L2.tRet, L2.tRetN, tAndV, tOrV, tNotV, tCB, L2.tCons, L2.tNil, tC, tVar, L2.tOp, L2.tUn, tSeq, tAsg, gName, tIfS, tTest, tNext, tAnd, tOr, tNot, L2.tIf, tFld, sFld, sFldAug, tCall, tTup, tB, tAug, tDrop, L2.tSl, tPart, tNoPart, tBM, tBM0, tChain, gTup, gCons, gNil, tPar, tIs, List.set, L2.start, iTup, L2.iList, L2.iRng1, tUn, tLst, tTest, gSub, tCall, L2.tIf, tCB, rRep, List.set, List.cons_append, List.nil_append, cxOf]
    refine ⟨_, rfl, rfl, _, rfl, ?_⟩
    refine if_yes (decide_eq_true rfl) ?_
    try dsimp only [L2.tRet, L2.tRetN, tAndV, tOrV, tNotV, tCB, L2.tCons, L2.tNil, tC, tVar, L2.tOp, L2.tUn, tSeq, tAsg, gName, tIfS, tTest, tNext, tAnd, tOr, tNot, L2.tIf, tFld, sFld, sFldAug, tCall, tTup, tB, tAug, tDrop, L2.tSl, tPart, tNoPart, tBM, tBM0, tChain, gTup, gCons, gNil, tPar, tIs, List.set, L2.start, iTup, L2.iList, L2.iRng1, tUn, tLst, tTest, gSub, tCall, L2.tIf, tCB, rRep, List.set, List.cons_append, List.nil_append, cxOf]
    refine' Exists.intro _ ⟨?_, by assumption, ?_⟩
    rotate_left 1
    · (repeat' (first | rfl | exact Dat.int _ | exact Dat.bl _ | (refine (?_ : Dat _ _ _ _); assumption) | (refine (?_ : LD _ _ _ _); assumption) | (refine (?_ : _ ≠ _); assumption) | refine' Exists.intro _ ?_ | refine And.intro ?_ ?_))
      all_goals (first | (first | (rintro _ rfl; exact ⟨_, rfl, by decide, by decide⟩) | (intro ts h; (repeat (obtain ⟨_, _, rfl, _, h⟩ := h)); (try cases h); exact Nat.le_of_ble_eq_true rfl) | (intro ts h; (repeat (obtain ⟨_, _, rfl, _, h⟩ := h)); (try cases h); exact ⟨List.cons_ne_nil _ _, Nat.le_of_ble_eq_true rfl⟩) | (rintro _ _ rfl rfl; exact ⟨_, _, rfl, rfl⟩)))
    rintro u v H4 ⟨_, rfl, _, _, rfl, rfl, _, _, rfl, ⟨_, ⟨_, _, rfl, rfl, _, _, rfl, rfl, _, _, rfl, rfl, rfl⟩, m⟩, rfl⟩ r4 dv
    rcases List.mem_cons.mp m with rfl | m
    · exact out_s q (.mk false "exit" [.non] [] []) .exit0 rfl (r123.trans r4) dv
    rcases List.mem_cons.mp m with rfl | m
    · exact out_s q (.mk false "exit" [.int 0] [] []) (.exit (by decide) (by decide)) rfl (r123.trans r4) dv
    rcases List.mem_cons.mp m with rfl | m
    · exact out_s q (.mk false "exit" [.int 3] [] []) (.exit (by decide) (by decide)) rfl (r123.trans r4) dv
    cases m
  · refine if_no (dn (by decide)) ?_
    try dsimp only [L2.tRet, L2.tRetN, tAndV, tOrV, tNotV, tCB, L2.tCons, L2.tNil, tC, tVar, L2.tOp, L2.tUn, tSeq, tAsg, gName, tIfS, tTest, tNext, tAnd, tOr, tNot, L2.tIf, tFld, sFld, sFldAug, tCall, tTup, tB, tAug, tDrop, L2.tSl, tPart, tNoPart, tBM, tBM0, tChain, gTup, gCons, gNil, tPar, tIs, List.set, L2.start, iTup, L2.iList, L2.iRng1, tUn, tLst, tTest, gSub, tCall, L2.tIf, tCB, rRep, List.set, List.cons_append, List.nil_append, cxOf]
    refine ⟨_, rfl, rfl, _, rfl, ?_⟩
    refine if_no (dn (by decide)) ?_
    try dsimp only [L2.tRet, L2.tRetN, tAndV, tOrV, tNotV, tCB, L2.tCons, L2.tNil, tC, tVar, L2.tOp, L2.tUn, tSeq, tAsg, gName, tIfS, tTest, tNext, tAnd, tOr, tNot, L2.tIf, tFld, sFld, sFldAug, tCall, tTup, tB, tAug, tDrop, L2.tSl, tPart, tNoPart, tBM, tBM0, tChain, gTup, gCons, gNil, tPar, tIs, List.set, L2.start, iTup, L2.iList, L2.iRng1, tUn, tLst, tTest, gSub, tCall, L2.tIf, tCB, rRep, List.set, List.cons_append, List.nil_append, cxOf]
    refine ⟨_, rfl, rfl, _, rfl, ?_⟩
    refine if_no (dn (by decide)) ?_
    try dsimp only [L2.tRet, L2.tRetN, tAndV, tOrV, tNotV, tCB, L2.tCons, L2.tNil, tC, tVar, L2.tOp, L2.tUn, tSeq, tAsg, gName, tIfS, tTest, tNext, tAnd, tOr, tNot, L2.tIf, tFld, sFld, sFldAug, tCall, tTup, tB, tAug, tDrop, L2.tSl, tPart, tNoPart, tBM, tBM0, tChain, gTup, gCons, gNil, tPar, tIs, List.set, L2.start, iTup, L2.iList, L2.iRng1, tUn, tLst, tTest, gSub, tCall, L2.tIf, tCB, rRep, List.set, List.cons_append, List.nil_append, cxOf]
    refine ⟨_, rfl, sl (Nat.zero_le _), fun b nb => ?_⟩
    have rb := (Dr.refl sr3).new (o := .lst []) nb
    have srb := rb.sr
    have ldb := ld3.dr rb nk
    have ld4d := ld4c.dr rb na4
    refine known_ne mk ldb upd_same (fun e => ⟨_, rfl, if_no rfl ?_⟩) fun ne => ⟨_, rfl, if_yes rfl ?_⟩
    · try dsimp only [L2.tRet, L2.tRetN, tAndV, tOrV, tNotV, tCB, L2.tCons, L2.tNil, tC, tVar, L2.tOp, L2.tUn, tSeq, tAsg, gName, tIfS, tTest, tNext, tAnd, tOr, tNot, L2.tIf, tFld, sFld, sFldAug, tCall, tTup, tB, tAug, tDrop, L2.tSl, tPart, tNoPart, tBM, tBM0, tChain, gTup, gCons, gNil, tPar, tIs, List.set, L2.start, iTup, L2.iList, L2.iRng1, tUn, tLst, tTest, gSub, tCall, L2.tIf, tCB, rRep, List.set, List.cons_append, List.nil_append, cxOf]
      refine' Exists.intro _ ⟨?_, by assumption, ?_⟩
      rotate_left 1
      · (repeat' (first | rfl | exact Dat.int _ | exact Dat.bl _ | (refine (?_ : Dat _ _ _ _); assumption) | (refine (?_ : LD _ _ _ _); assumption) | (refine (?_ : _ ≠ _); assumption) | refine' Exists.intro _ ?_ | refine And.intro ?_ ?_))
        all_goals (first | (first | (rintro _ rfl; exact ⟨_, rfl, by decide, by decide⟩) | (intro ts h; (repeat (obtain ⟨_, _, rfl, _, h⟩ := h)); (try cases h); exact Nat.le_of_ble_eq_true rfl) | (intro ts h; (repeat (obtain ⟨_, _, rfl, _, h⟩ := h)); (try cases h); exact ⟨List.cons_ne_nil _ _, Nat.le_of_ble_eq_true rfl⟩) | (rintro _ _ rfl rfl; exact ⟨_, _, rfl, rfl⟩)) | (rintro _ _ rfl rfl; exact ⟨0, _, rfl, rfl⟩))
      rintro u v H7 ⟨_, k2, rfl, ek, eu⟩ r7 dv
      rw [List.getElem?_replicate] at eu
      split at eu
      · cases eu
        exact out_s q (.mk false "run" [.str c] [] []) (.run cm0) rfl ((r123.trans rb).trans r7) dv
      · cases eu
    · try dsimp only [L2.tRet, L2.tRetN, tAndV, tOrV, tNotV, tCB, L2.tCons, L2.tNil, tC, tVar, L2.tOp, L2.tUn, tSeq, tAsg, gName, tIfS, tTest, tNext, tAnd, tOr, tNot, L2.tIf, tFld, sFld, sFldAug, tCall, tTup, tB, tAug, tDrop, L2.tSl, tPart, tNoPart, tBM, tBM0, tChain, gTup, gCons, gNil, tPar, tIs, List.set, L2.start, iTup, L2.iList, L2.iRng1, tUn, tLst, tTest, gSub, tCall, L2.tIf, tCB, rRep, List.set, List.cons_append, List.nil_append, cxOf]
      refine' Exists.intro _ ⟨?_, by assumption, ?_⟩
      rotate_left 1
      · (repeat' (first | rfl | exact Dat.int _ | exact Dat.bl _ | (refine (?_ : Dat _ _ _ _); assumption) | (refine (?_ : LD _ _ _ _); assumption) | (refine (?_ : _ ≠ _); assumption) | refine' Exists.intro _ ?_ | refine And.intro ?_ ?_))
        all_goals (first | (first | (rintro _ rfl; exact ⟨_, rfl, by decide, by decide⟩) | (intro ts h; (repeat (obtain ⟨_, _, rfl, _, h⟩ := h)); (try cases h); exact Nat.le_of_ble_eq_true rfl) | (intro ts h; (repeat (obtain ⟨_, _, rfl, _, h⟩ := h)); (try cases h); exact ⟨List.cons_ne_nil _ _, Nat.le_of_ble_eq_true rfl⟩) | (rintro _ _ rfl rfl; exact ⟨_, _, rfl, rfl⟩)) | (rintro _ rfl; exact ⟨fun z => ne (List.map_eq_nil_iff.mp z), by rw [List.length_map]; exact known_few mk⟩))
      rintro u v H7 ⟨_, rfl, _, _, rfl, rfl, _, _, rfl, ⟨_, rfl, m9⟩, rfl⟩ r7 dv
      obtain ⟨fn, fm, rfl⟩ := mem_strs m9
      exact out_s q (.mk false "call" [.str fn] [] []) (.call fm) rfl ((r123.trans rb).trans r7) dv
  · refine if_no (dn (by decide)) ?_
    try dsimp only [L2.tRet, L2.tRetN, tAndV, tOrV, tNotV, tCB, L2.tCons, L2.tNil, tC, tVar, L2.tOp, L2.tUn, tSeq, tAsg, gName, tIfS, tTest, tNext, tAnd, tOr, tNot, L2.tIf, tFld, sFld, sFldAug, tCall, tTup, tB, tAug, tDrop, L2.tSl, tPart, tNoPart, tBM, tBM0, tChain, gTup, gCons, gNil, tPar, tIs, List.set, L2.start, iTup, L2.iList, L2.iRng1, tUn, tLst, tTest, gSub, tCall, L2.tIf, tCB, rRep, List.set, List.cons_append, List.nil_append, cxOf]
    refine ⟨_, rfl, rfl, _, rfl, ?_⟩
    refine if_no (dn (by decide)) ?_
    try dsimp only [L2.tRet, L2.tRetN, tAndV, tOrV, tNotV, tCB, L2.tCons, L2.tNil, tC, tVar, L2.tOp, L2.tUn, tSeq, tAsg, gName, tIfS, tTest, tNext, tAnd, tOr, tNot, L2.tIf, tFld, sFld, sFldAug, tCall, tTup, tB, tAug, tDrop, L2.tSl, tPart, tNoPart, tBM, tBM0, tChain, gTup, gCons, gNil, tPar, tIs, List.set, L2.start, iTup, L2.iList, L2.iRng1, tUn, tLst, tTest, gSub, tCall, L2.tIf, tCB, rRep, List.set, List.cons_append, List.nil_append, cxOf]
    refine ⟨_, rfl, rfl, _, rfl, ?_⟩
    refine if_no (dn (by decide)) ?_
    try dsimp only [L2.tRet, L2.tRetN, tAndV, tOrV, tNotV, tCB, L2.tCons, L2.tNil, tC, tVar, L2.tOp, L2.tUn, tSeq, tAsg, gName, tIfS, tTest, tNext, tAnd, tOr, tNot, L2.tIf, tFld, sFld, sFldAug, tCall, tTup, tB, tAug, tDrop, L2.tSl, tPart, tNoPart, tBM, tBM0, tChain, gTup, gCons, gNil, tPar, tIs, List.set, L2.start, iTup, L2.iList, L2.iRng1, tUn, tLst, tTest, gSub, tCall, L2.tIf, tCB, rRep, List.set, List.cons_append, List.nil_append, cxOf]
    refine ⟨_, rfl, sl (Nat.zero_le _), fun b nb => ?_⟩
    have rb := (Dr.refl sr3).new (o := .lst []) nb
    have srb := rb.sr
    have ldb := ld3.dr rb nk
    have ld4d := ld4c.dr rb na4
    refine known_ne mk ldb upd_same (fun e => ⟨_, rfl, if_no rfl ?_⟩) fun ne => ⟨_, rfl, if_yes rfl ?_⟩
    · try dsimp only [L2.tRet, L2.tRetN, tAndV, tOrV, tNotV, tCB, L2.tCons, L2.tNil, tC, tVar, L2.tOp, L2.tUn, tSeq, tAsg, gName, tIfS, tTest, tNext, tAnd, tOr, tNot, L2.tIf, tFld, sFld, sFldAug, tCall, tTup, tB, tAug, tDrop, L2.tSl, tPart, tNoPart, tBM, tBM0, tChain, gTup, gCons, gNil, tPar, tIs, List.set, L2.start, iTup, L2.iList, L2.iRng1, tUn, tLst, tTest, gSub, tCall, L2.tIf, tCB, rRep, List.set, List.cons_append, List.nil_append, cxOf]
      refine' Exists.intro _ ⟨?_, by assumption, ?_⟩
      rotate_left 1
      · (repeat' (first | rfl | exact Dat.int _ | exact Dat.bl _ | (refine (?_ : Dat _ _ _ _); assumption) | (refine (?_ : LD _ _ _ _); assumption) | (refine (?_ : _ ≠ _); assumption) | refine' Exists.intro _ ?_ | refine And.intro ?_ ?_))
        all_goals (first | (first | (rintro _ rfl; exact ⟨_, rfl, by decide, by decide⟩) | (intro ts h; (repeat (obtain ⟨_, _, rfl, _, h⟩ := h)); (try cases h); exact Nat.le_of_ble_eq_true rfl) | (intro ts h; (repeat (obtain ⟨_, _, rfl, _, h⟩ := h)); (try cases h); exact ⟨List.cons_ne_nil _ _, Nat.le_of_ble_eq_true rfl⟩) | (rintro _ _ rfl rfl; exact ⟨_, _, rfl, rfl⟩)) | (rintro _ _ rfl rfl; exact ⟨0, _, rfl, rfl⟩))
      rintro u v H7 ⟨_, k2, rfl, ek, eu⟩ r7 dv
      rw [List.getElem?_replicate] at eu
      split at eu
      · cases eu
        exact out_s q (.mk false "run" [.str c] [] []) (.run cm0) rfl ((r123.trans rb).trans r7) dv
      · cases eu
    · try dsimp only [L2.tRet, L2.tRetN, tAndV, tOrV, tNotV, tCB, L2.tCons, L2.tNil, tC, tVar, L2.tOp, L2.tUn, tSeq, tAsg, gName, tIfS, tTest, tNext, tAnd, tOr, tNot, L2.tIf, tFld, sFld, sFldAug, tCall, tTup, tB, tAug, tDrop, L2.tSl, tPart, tNoPart, tBM, tBM0, tChain, gTup, gCons, gNil, tPar, tIs, List.set, L2.start, iTup, L2.iList, L2.iRng1, tUn, tLst, tTest, gSub, tCall, L2.tIf, tCB, rRep, List.set, List.cons_append, List.nil_append, cxOf]
      refine' Exists.intro _ ⟨?_, by assumption, ?_⟩
      rotate_left 1
      · (repeat' (first | rfl | exact Dat.int _ | exact Dat.bl _ | (refine (?_ : Dat _ _ _ _); assumption) | (refine (?_ : LD _ _ _ _); assumption) | (refine (?_ : _ ≠ _); assumption) | refine' Exists.intro _ ?_ | refine And.intro ?_ ?_))
        all_goals (first | (first | (rintro _ rfl; exact ⟨_, rfl, by decide, by decide⟩) | (intro ts h; (repeat (obtain ⟨_, _, rfl, _, h⟩ := h)); (try cases h); exact Nat.le_of_ble_eq_true rfl) | (intro ts h; (repeat (obtain ⟨_, _, rfl, _, h⟩ := h)); (try cases h); exact ⟨List.cons_ne_nil _ _, Nat.le_of_ble_eq_true rfl⟩) | (rintro _ _ rfl rfl; exact ⟨_, _, rfl, rfl⟩)) | (rintro _ rfl; exact ⟨fun z => ne (List.map_eq_nil_iff.mp z), by rw [List.length_map]; exact known_few mk⟩))
      rintro u v H7 ⟨_, rfl, _, _, rfl, rfl, _, _, rfl, ⟨_, rfl, m9⟩, rfl⟩ r7 dv
      obtain ⟨fn, fm, rfl⟩ := mem_strs m9
      exact out_s q (.mk false "call" [.str fn] [] []) (.call fm) rfl ((r123.trans rb).trans r7) dv
end
end Ck

namespace Ck
open PySem
theorem one_of {z : Str} {k : Kind} {f : CS → List T → Int → R} {S : CS} {p : Int} {ds : List T} (h : kindOf z = some k) : one f S p (.tup (.str z :: ds)) = act f k S (.str z :: ds) p := by
  show (match kindOf z with | some k => act f k S (.str z :: ds) p | none => Except.ok (0, S)) = _
  rw [h]
theorem ko_run : kindOf "run" = some .run := by decide +kernel
theorem ko_status : kindOf "status" = some .status := by decide +kernel
theorem ko_put : kindOf "put" = some .put := by decide +kernel
theorem ko_option : kindOf "option" = some .option := by decide +kernel
theorem ko_ret : kindOf "return" = some .ret := by decide +kernel
theorem ko_exit : kindOf "exit" = some .exit := by decide +kernel
theorem ko_call : kindOf "call" = some .call := by decide +kernel
theorem ko_seq : kindOf "seq" = some .seq := by decide +kernel
theorem ko_pipe : kindOf "pipe" = some .pipe := by decide +kernel
theorem ko_not : kindOf "not" = some .not := by decide +kernel
theorem ko_if : kindOf "if" = some .ife := by decide +kernel
theorem ko_times : kindOf "times" = some .times := by decide +kernel
theorem ko_trap : kindOf "trap" = some .trap := by decide +kernel
theorem ko_sub : kindOf "sub" = some .sub := by decide +kernel
theorem ko_var {w : Str} (h : w = "give" ∨ w = "zero" ∨ w = "keep") : kindOf w = some .var := by
  rcases h with rfl | rfl | rfl <;> decide +kernel
theorem ko_jump {w : Str} (h : w = "break" ∨ w = "next") : kindOf w = some .jump := by
  rcases h with rfl | rfl <;> decide +kernel
theorem ko_andor {w : Str} (h : w = "and" ∨ w = "or") : kindOf w = some .andor := by
  rcases h with rfl | rfl <;> decide +kernel
theorem ko_whl {w : Str} (h : w = "while" ∨ w = "until") : kindOf w = some .whl := by
  rcases h with rfl | rfl <;> decide +kernel
theorem plus_c (S : CS) (c : List Str) : S.plus (((1 : Nat) : Int) - 1) c [] = { S with cmds := adds S.cmds c } := by
  cases S
  simp [CS.plus, adds]
theorem plus_v (S : CS) (c : List Str) : S.plus (((1 : Nat) : Int) - 1) [] c = { S with vars := adds S.vars c } := by
  cases S
  simp [CS.plus, adds]
theorem plus_n (S : CS) : S.plus (((1 : Nat) : Int) - 1) [] [] = S := by
  cases S
  simp [CS.plus, adds]
theorem within_of {n a b : Int} (h : a ≤ n) (h2 : n ≤ b) : within a b (.int n) = true := by
  show (decide _ && decide _) = true
  rw [decide_eq_true h, decide_eq_true h2]
  rfl
theorem enc_tup : ∀ t : Tr, ∃ ts, enc t = .tup ts
  | .mk true _ _ _ _ => ⟨_, rfl⟩
  | .mk false _ _ _ _ => ⟨_, rfl⟩
theorem enc_non (t : Tr) : isNon (enc t) = false := by
  obtain ⟨ts, e⟩ := enc_tup t
  rw [e]
  rfl
theorem encs_len : ∀ ks : List Tr, (encs ks).length = ks.length
  | [] => rfl
  | k :: ks => by rw [encs, List.length_cons, List.length_cons, encs_len ks]
theorem ht_pos (t : Tr) : 1 ≤ ht t := by
  cases t
  show 1 ≤ 1 + _
  omega
theorem all_one {p : Tr → Prop} {a : Tr} (h : p a) : ∀ k ∈ [a], p k := by
  intro k m
  rw [List.mem_singleton] at m
  exact m ▸ h
theorem all_two {p : Tr → Prop} {a b : Tr} (h : p a) (g : p b) : ∀ k ∈ [a, b], p k := by
  intro k m
  rcases List.mem_cons.mp m with e | m
  · exact e ▸ h
  · exact all_one g k m
theorem all_three {p : Tr → Prop} {a b c : Tr} (h : p a) (g : p b) (f : p c) : ∀ k ∈ [a, b, c], p k := by
  intro k m
  rcases List.mem_cons.mp m with e | m
  · exact e ▸ h
  · exact all_two g f k m
theorem hts_cons (a : Tr) (ks : List Tr) : 1 ≤ hts (a :: ks) := by
  have z := ht_pos a
  show 1 ≤ max (ht a) (hts ks)
  omega
theorem cs1 (t : Tr) : cnts [t] = cnt t := rfl
/-- the numbers of a tree with parts -/
theorem plus_in (S : CS) (m : Nat) (c v : List Str) : S.plus (((1 + m : Nat) : Int) - 1) c v = S.plus (m : Nat) c v := by
  congr 1
  omega
section
variable {C W : List Str} {N M : Int} {known : List Str}
/-- parts in the same place -/
theorem in_here {n : Nat} {S : CS} {p : Int} {i : Bool} {l : Nat} {b : Bool} {w : Str} {pre post : List T} {ks : List Tr} (ok : ∀ k ∈ ks, Okt C W N M known i l k) (says : ∀ k ∈ ks, Says k i l known) (ne : 1 ≤ hts ks) (h : ht (.mk b w pre ks post) ≤ n + 1) (lo : S.loops = (l : Nat)) (re : S.rets = i) (F : Fns known S.fns) (pl : S.places.length + n = 59) (tr : S.trees + cnts [.mk b w pre ks post] ≤ 3001) :
    ins n S (encs ks) p = .ok (unfs S.fns ks, S.plus (cnts ks : Nat) (cmss ks) (vrss ks)) :=
  ins_ok ok says h ne lo re F pl (by
    have z : S.trees + ((1 + cnts ks + 0 : Nat) : Int) ≤ 3001 := tr
    omega)
theorem says_ok (Cd : CondW C W N M) {i : Bool} {l : Nat} {t : Tr} (h : Okt C W N M known i l t) : Says t i l known := by
  induction h with
  | @run i l c m =>
    intro n S p _ _ _ _ _ _
    show one _ _ _ (.tup [.str "run", .str c]) = .ok (1, S.plus (((1 : Nat) : Int) - 1) [c] [])
    rw [one_of ko_run, plus_c]
    show Except.ok (b2 (newName S.cmds (.str c)).1, { S with cmds := (newName S.cmds (.str c)).2 }) = _
    rw [newn_ok (Cd.c c m)]
    rfl
  | @status i l a h0 h1 =>
    intro n S p _ _ _ _ _ _
    show one _ _ _ (.tup [.str "status", .int a]) = .ok (1, S.plus (((1 : Nat) : Int) - 1) [] [])
    rw [one_of ko_status, plus_n]
    show Except.ok (b2 (within 0 255 (.int a)), S) = _
    rw [within_of h0 (Int.le_trans h1 Cd.n)]
    rfl
  | @var i l w v e m =>
    intro n S p _ _ _ _ _ _
    have u : unf S.fns (.mk false w [.str v] [] []) = 1 := by rcases e with rfl | rfl | rfl <;> rfl
    have c : cms (.mk false w [.str v] [] []) = [] := by rcases e with rfl | rfl | rfl <;> rfl
    have d : vrs (.mk false w [.str v] [] []) = [v] := by rcases e with rfl | rfl | rfl <;> rfl
    rw [u, c, d]
    show one _ _ _ (.tup [.str w, .str v]) = .ok (1, S.plus (((1 : Nat) : Int) - 1) [] [v])
    rw [one_of (ko_var e), plus_v]
    show Except.ok (b2 (newName S.vars (.str v)).1, { S with vars := (newName S.vars (.str v)).2 }) = _
    rw [newn_ok (Cd.v v m)]
    rfl
  | @put i l v a m h0 h1 =>
    intro n S p _ _ _ _ _ _
    show one _ _ _ (.tup [.str "put", .str v, .int a]) = .ok (1, S.plus (((1 : Nat) : Int) - 1) [] [v])
    rw [one_of ko_put, plus_v]
    show (if within 0 255 (.int a) = true then Except.ok (b2 (newName S.vars (.str v)).1, { S with vars := (newName S.vars (.str v)).2 }) else Except.ok (0, S)) = _
    rw [within_of h0 (Int.le_trans h1 Cd.m), if_pos rfl, newn_ok (Cd.v v m)]
    rfl
  | @option i l z b e =>
    intro n S p _ _ _ _ _ _
    show one _ _ _ (.tup [.str "option", .str z, .bl b]) = .ok (1, S.plus (((1 : Nat) : Int) - 1) [] [])
    rw [one_of ko_option, plus_n]
    show Except.ok (b2 (decide (z = "fail") || decide (z = "pipes")), S) = _
    have q : (decide (z = "fail") || decide (z = "pipes")) = true := by
      rw [Bool.or_eq_true, decide_eq_true_eq, decide_eq_true_eq]
      exact e
    rw [q]
    rfl
  | @jump i l w k e h0 h1 =>
    intro n S p _ lo _ _ _ _
    have u : unf S.fns (.mk false w [.int k] [] []) = 1 := by rcases e with rfl | rfl <;> rfl
    have c : cms (.mk false w [.int k] [] []) = [] := by rcases e with rfl | rfl <;> rfl
    have d : vrs (.mk false w [.int k] [] []) = [] := by rcases e with rfl | rfl <;> rfl
    rw [u, c, d]
    show one _ _ _ (.tup [.str w, .int k]) = .ok (1, S.plus (((1 : Nat) : Int) - 1) [] [])
    rw [one_of (ko_jump e), plus_n]
    show Except.ok (b2 (decide (1 ≤ k) && decide (k ≤ S.loops)), S) = _
    rw [decide_eq_true h0, decide_eq_true (by rw [lo]; exact h1)]
    rfl
  | @ret0 l =>
    intro n S p _ _ re _ _ _
    show one _ _ _ (.tup [.str "return", .non]) = .ok (1, S.plus (((1 : Nat) : Int) - 1) [] [])
    rw [one_of ko_ret, plus_n]
    show (if S.rets = true then Except.ok ((1 : Int), S) else _) = _
    rw [if_pos re]
  | @ret l a h0 h1 =>
    intro n S p _ _ re _ _ _
    show one _ _ _ (.tup [.str "return", .int a]) = .ok (1, S.plus (((1 : Nat) : Int) - 1) [] [])
    rw [one_of ko_ret, plus_n]
    show (if S.rets = true then Except.ok (b2 (isNon (.int a) || within 0 255 (.int a)), S) else _) = _
    rw [if_pos re, within_of h0 (Int.le_trans h1 Cd.n)]
    rfl
  | @exit0 i l =>
    intro n S p _ _ _ _ _ _
    show one _ _ _ (.tup [.str "exit", .non]) = .ok (1, S.plus (((1 : Nat) : Int) - 1) [] [])
    rw [one_of ko_exit, plus_n]
    rfl
  | @exit i l a h0 h1 =>
    intro n S p _ _ _ _ _ _
    show one _ _ _ (.tup [.str "exit", .int a]) = .ok (1, S.plus (((1 : Nat) : Int) - 1) [] [])
    rw [one_of ko_exit, plus_n]
    show Except.ok (b2 (isNon (.int a) || within 0 255 (.int a)), S) = _
    rw [within_of h0 (Int.le_trans h1 Cd.n)]
    rfl
  | @call i l f m =>
    intro n S p _ _ _ F _ _
    obtain ⟨v, e, v0⟩ := F f m
    show one _ _ _ (.tup [.str "call", .str f]) = .ok (1 + (0 : Int) + (S.fns.lookup f).getD 0, S.plus (((1 : Nat) : Int) - 1) [] [])
    rw [one_of ko_call, plus_n]
    show (match S.fns.lookup f with | some v => Except.ok (1 + v, S) | none => Except.ok (0, S)) = _
    rw [e]
    show Except.ok (1 + v, S) = Except.ok (1 + (0 : Int) + v, S)
    rw [Int.add_zero]
  | @seq i l ks two ok ih =>
    intro n S p h lo re F pl tr
    have ne : 1 ≤ hts ks := by
      cases ks with
      | nil => exact absurd two.1 (by decide)
      | cons a r => exact hts_cons a r
    show one _ _ _ (.tup [.str "seq", .tup (encs ks)]) = .ok (1 + unfs S.fns ks + 0, S.plus (((1 + cnts ks : Nat) : Int) - 1) (cmss ks) (vrss ks))
    rw [one_of ko_seq, plus_in, Int.add_zero]
    show (if 2 ≤ (encs ks).length then inc (ins n S (encs ks) p) else _) = _
    rw [if_pos (by rw [encs_len]; exact two.1), in_here ok ih ne h lo re F pl tr]
    rfl
  | @pipe i l ks two ok ih =>
    intro n S p h lo re F pl tr
    have ne : 1 ≤ hts ks := by
      cases ks with
      | nil => exact absurd two.1 (by decide)
      | cons a r => exact hts_cons a r
    show one _ _ _ (.tup [.str "pipe", .tup (encs ks)]) = .ok (1 + unfs S.fns ks + 0, S.plus (((1 + cnts ks : Nat) : Int) - 1) (cmss ks) (vrss ks))
    rw [one_of ko_pipe, plus_in, Int.add_zero]
    show (if 2 ≤ (encs ks).length then inc (behind (fun S' => { S' with loops := S.loops, rets := S.rets }) (ins n { S with loops := 0, rets := false } (encs ks) p)) else _) = _
    rw [if_pos (by rw [encs_len]; exact two.1), in_here (S := { S with loops := 0, rets := false }) ok ih ne h rfl rfl F pl tr]
    rfl
  | @andor i l w a b e oa ob ia ib =>
    intro n S p h lo re F pl tr
    have u : unf S.fns (.mk false w [] [a, b] []) = 1 + unfs S.fns [a, b] := by rcases e with rfl | rfl <;> exact Int.add_zero _
    have c : cms (.mk false w [] [a, b] []) = cmss [a, b] := by rcases e with rfl | rfl <;> rfl
    have d : vrs (.mk false w [] [a, b] []) = vrss [a, b] := by rcases e with rfl | rfl <;> rfl
    rw [u, c, d]
    show one _ _ _ (.tup [.str w, enc a, enc b]) = .ok (1 + unfs S.fns [a, b], S.plus (((1 + cnts [a, b] : Nat) : Int) - 1) (cmss [a, b]) (vrss [a, b]))
    rw [one_of (ko_andor e), plus_in]
    show inc (ins n S (encs [a, b]) p) = _
    rw [in_here (all_two oa ob) (all_two ia ib) (hts_cons _ _) h lo re F pl tr]
    rfl
  | @not i l a oa ia =>
    intro n S p h lo re F pl tr
    show one _ _ _ (.tup [.str "not", enc a]) = .ok (1 + unfs S.fns [a] + 0, S.plus (((1 + cnts [a] : Nat) : Int) - 1) (cmss [a]) (vrss [a]))
    rw [one_of ko_not, plus_in, Int.add_zero]
    show inc (ins n S (encs [a]) p) = _
    rw [in_here (all_one oa) (all_one ia) (hts_cons _ _) h lo re F pl tr]
    rfl
  | @ife i l c a b oc oa ob ic ia ib =>
    intro n S p h lo re F pl tr
    show one _ _ _ (.tup [.str "if", enc c, enc a, enc b]) = .ok (1 + unfs S.fns [c, a, b] + 0, S.plus (((1 + cnts [c, a, b] : Nat) : Int) - 1) (cmss [c, a, b]) (vrss [c, a, b]))
    rw [one_of ko_if, plus_in, Int.add_zero]
    show inc (ins n S (if isNon (enc b) = true then [enc c, enc a] else encs [c, a, b]) p) = _
    rw [enc_non, if_neg Bool.false_ne_true, in_here (all_three oc oa ob) (all_three ic ia ib) (hts_cons _ _) h lo re F pl tr]
    rfl
  | @if1 i l c a oc oa ic ia =>
    intro n S p h lo re F pl tr
    show one _ _ _ (.tup [.str "if", enc c, enc a, .non]) = .ok (1 + unfs S.fns [c, a] + 0, S.plus (((1 + cnts [c, a] : Nat) : Int) - 1) (cmss [c, a]) (vrss [c, a]))
    rw [one_of ko_if, plus_in, Int.add_zero]
    show inc (ins n S (encs [c, a]) p) = _
    rw [in_here (all_two oc oa) (all_two ic ia) (hts_cons _ _) h lo re F pl tr]
    rfl
  | @whl i l w a b e oa ob ia ib =>
    intro n S p h lo re F pl tr
    have u : unf S.fns (.mk false w [] [a, b] []) = 1 + unfs S.fns [a, b] := by rcases e with rfl | rfl <;> exact Int.add_zero _
    have c : cms (.mk false w [] [a, b] []) = cmss [a, b] := by rcases e with rfl | rfl <;> rfl
    have d : vrs (.mk false w [] [a, b] []) = vrss [a, b] := by rcases e with rfl | rfl <;> rfl
    rw [u, c, d]
    show one _ _ _ (.tup [.str w, enc a, enc b]) = .ok (1 + unfs S.fns [a, b], S.plus (((1 + cnts [a, b] : Nat) : Int) - 1) (cmss [a, b]) (vrss [a, b]))
    rw [one_of (ko_whl e), plus_in]
    show inc (behind (fun S' => { S' with loops := S'.loops - 1 }) (ins n { S with loops := S.loops + 1 } (encs [a, b]) p)) = _
    rw [in_here (S := { S with loops := S.loops + 1 }) (all_two oa ob) (all_two ia ib) (hts_cons _ _) h (by show S.loops + 1 = ((l + 1 : Nat) : Int); rw [lo]; rfl) re F pl tr]
    show Except.ok _ = _
    have z : S.loops + 1 - 1 = S.loops := Int.add_sub_cancel _ _
    congr 2
    unfold CS.plus
    dsimp only
    rw [z]
  | @times i l k b k0 k1 ob ib =>
    intro n S p h lo re F pl tr
    show one _ _ _ (.tup [.str "times", .int k, enc b]) = .ok (1 + k * unfs S.fns [b], S.plus (((1 + cnts [b] : Nat) : Int) - 1) (cmss [b]) (vrss [b]))
    rw [one_of ko_times, plus_in]
    show (if within 0 1000 (.int k) = true then timed k (behind (fun S' => { S' with loops := S'.loops - 1 }) (ins n { S with loops := S.loops + 1 } (encs [b]) p)) else _) = _
    rw [within_of k0 k1, if_pos rfl, in_here (S := { S with loops := S.loops + 1 }) (all_one ob) (all_one ib) (hts_cons _ _) h (by show S.loops + 1 = ((l + 1 : Nat) : Int); rw [lo]; rfl) re F pl tr]
    show Except.ok _ = _
    have z : S.loops + 1 - 1 = S.loops := Int.add_sub_cancel _ _
    congr 2
    unfold CS.plus
    dsimp only
    rw [z]
  | @trap0 i l z e =>
    intro n S p h lo re F pl tr
    show one _ _ _ (.tup [.str "trap", .str z, .non]) = .ok (1, S.plus (((1 : Nat) : Int) - 1) [] [])
    rw [one_of ko_trap, plus_n]
    show (if z = "end" ∨ z = "fail" then Except.ok ((1 : Int), S) else _) = _
    rw [if_pos e]
  | @trap i l z b e ob ib =>
    intro n S p h lo re F pl tr
    show one _ _ _ (.tup [.str "trap", .str z, enc b]) = .ok (1 + unfs S.fns [b] + 0, S.plus (((1 + cnts [b] : Nat) : Int) - 1) (cmss [b]) (vrss [b]))
    rw [one_of ko_trap, plus_in, Int.add_zero]
    show (if z = "end" ∨ z = "fail" then (if isNon (enc b) = true then Except.ok ((1 : Int), S) else inc (behind (fun S' => { S' with loops := S.loops, rets := S.rets }) (ins n { S with loops := 0, rets := false } (encs [b]) p))) else _) = _
    rw [if_pos e, enc_non, if_neg Bool.false_ne_true, in_here (S := { S with loops := 0, rets := false }) (all_one ob) (all_one ib) (hts_cons _ _) h rfl rfl F pl tr]
    rfl
  | @sub i l b ob ib =>
    intro n S p h lo re F pl tr
    show one _ _ _ (.tup [.str "sub", enc b]) = .ok (1 + unfs S.fns [b] + 0, S.plus (((1 + cnts [b] : Nat) : Int) - 1) (cmss [b]) (vrss [b]))
    rw [one_of ko_sub, plus_in, Int.add_zero]
    show inc (behind (fun S' => { S' with loops := S.loops, rets := S.rets }) (ins n { S with loops := 0, rets := false } (encs [b]) p)) = _
    rw [in_here (S := { S with loops := 0, rets := false }) (all_one ob) (all_one ib) (hts_cons _ _) h rfl rfl F pl tr]
    rfl
end
end Ck

/-! Trees side by side. -/
namespace Ck
open PySem PySem.Spec PyProof.Rows L2
section
variable {X : Cx} {P : Program} {w : World} {K : PySem.W.Frag} {mg : Str → Option Value} {base : Heap} {H H1 H2 : Hp} {l : Addr}
theorem Dr.put {D : Addr} {o : HO} (d : Dr l H H1) (n : H D = none) (ne : D ≠ l) (t : ∀ xs, H1 D ≠ some (.tup xs)) : Dr l H (upd H1 D o) := by
  refine ⟨fun p o q z => ?_, fun b xs z => ?_, ?_⟩
  · rw [upd_ne (by rintro rfl; rw [n] at z; cases z)]
    exact d.keep p o q z
  · rw [upd_ne (by rintro rfl; rw [n] at z; cases z)]
    exact d.st b xs z
  · obtain ⟨a, c, k, e⟩ := d.sr
    exact ⟨a, c, k, by rw [upd_ne (Ne.symm ne)]; exact e⟩
def Good (known : List Str) (wi : Bool) (lp : Nat) (h : Nat) (tr : Tr) : Prop := Okt C0 W0 3 2 known wi lp tr ∧ ht tr ≤ h
def PreT (d : Nat) : KSet := fun ts known => known ∈ knowns ∧ ∃ (deep : Int) (lp : Nat) (wi : Bool), ts = [.int deep, .int (lp : Nat), .bl wi] ∧ lp + d ≤ 100 ∧ deep ≤ d
def PostT (d : Nat) : List T → List Str → T → Prop := fun ts known t => ∃ (deep : Int) (lp : Nat) (wi : Bool) (tr : Tr), ts = [.int deep, .int (lp : Nat), .bl wi] ∧ t = enc tr ∧ Good known wi lp (2 * d + 1) tr
def PreB : Nat → KSet
  | 0 => fun _ _ => False
  | d + 1 => fun ts known => known ∈ knowns ∧ ∃ (m : Nat) (deep : Int) (lp : Nat) (wi : Bool), ts = [.int (m : Nat), .int deep, .int (lp : Nat), .bl wi] ∧ m ≤ 10 ∧ lp + d ≤ 100 ∧ deep - 1 ≤ d
def PostB (d : Nat) : List T → List Str → T → Prop := fun ts known t => ∃ (m : Nat) (deep : Int) (lp : Nat) (wi : Bool) (ks : List Tr), ts = [.int (m : Nat), .int deep, .int (lp : Nat), .bl wi] ∧ t = .tup (encs ks) ∧ ks.length = m ∧ ∀ k ∈ ks, Good known wi lp (2 * (d - 1) + 1) k
abbrev PTr : List Str := ["_law_source_here", "_law_deep", "_law_loops", "_law_within", "_law_known"]
abbrev PBl : List Str := ["_law_source_here", "_law_many", "_law_deep", "_law_loops", "_law_within", "_law_known"]
abbrev GTr (P : Program) (w : World) (K : PySem.W.Frag) (mg : Str → Option Value) (base : Heap) (d : Nat) : Prop := Go P w K mg base CX0 (91 + 2 * d) "_law_tree" PTr (spG K 3 (PreT d) (PostT d))
abbrev GBl (P : Program) (w : World) (K : PySem.W.Frag) (mg : Str → Option Value) (base : Heap) (d : Nat) : Prop := Go P w K mg base CX0 (90 + 2 * d) "_law_block" PBl (spG K 4 (PreB d) (PostB d))
theorem map_str : ∀ {a b : List Str}, a.map T.str = b.map T.str → a = b
  | [], [], _ => rfl
  | [], _ :: _, h => by cases h
  | _ :: _, [], h => by cases h
  | x :: a, y :: b, h => by
    injection h with h1 h2
    injection h1 with h1
    rw [h1, map_str h2]
theorem encs_app : ∀ a b : List Tr, encs (a ++ b) = encs a ++ encs b
  | [], b => rfl
  | x :: a, b => by
    show enc x :: encs (a ++ b) = enc x :: (encs a ++ encs b)
    rw [encs_app a b]
abbrev sBlock : Stmt := topS 55
abbrev NB : List Str := ["_law_source_here", "_law_many", "_law_deep", "_law_loops", "_law_within", "_law_known", "_law_k"]
theorem scBl : FnScope NB PBl (defScope sBlock) := ⟨rfl, rfl, rfl, by decide +kernel, rfl, by decide +kernel, by decide +kernel⟩
theorem ok_block0 {f : Addr} {fd : FuncData} (F : Fun K "_law_block" "_law_block" sBlock f fd) : FnOk P w K mg base CX0 90 f fd PBl (spG K 4 (PreB 0) (PostB 0)) := by
  refine F.ok scBl (fun vs H Q E h => ?_) (fun cdv A outer s H vs Q E hr h => ?_)
  · obtain ⟨_, _, _, _, _, _, _, _, _, _, _, no, _⟩ := h
    exact no.elim
  · obtain ⟨_, _, _, _, _, _, _, _, _, _, _, no, _⟩ := h
    exact no.elim
/-- one of a block -/
def tOneB (K : PySem.W.Frag) (l kn : Addr) (known : List Str) (d : Nat) (lp : Nat) (wi : Bool) : TE := fun σ H Q => ∃ deep : Int, σ[0]? = some (some (.ref l)) ∧ σ[2]? = some (some (.int deep)) ∧ σ[3]? = some (some (.int (lp : Nat))) ∧ σ[4]? = some (some (.bl wi)) ∧ σ[5]? = some (some (.ref kn)) ∧ Sr l H ∧ known ∈ knowns ∧ kn ≠ l ∧ LD K H kn (known.map T.str) ∧ deep - 1 ≤ d ∧ lp + d ≤ 100 ∧
  ∀ tr v H', Good known wi lp (2 * d + 1) tr → Dr l H H' → Dat K H' v (enc tr) → Q v H'
theorem ok_block {f : Addr} {fd : FuncData} {d : Nat} (F : Fun K "_law_block" "_law_block" sBlock f fd) (GT : GTr P w K mg base d) (mr : mg "range" = none) (mt : mg "tuple" = none) : FnOk P w K mg base CX0 (90 + 2 * (d + 1)) f fd PBl (spG K 4 (PreB (d + 1)) (PostB (d + 1))) := by
  refine F.ok scBl (fun vs H Q E h => ?_) (fun cdv A outer s H vs Q E hr h => ?_)
  · obtain ⟨_, us, _, _, _, rfl, ln, _⟩ := h
    show (_ :: (us ++ [_])).length = 6
    rw [List.length_cons, List.length_append, ln]
    rfl
  obtain ⟨l, us, ts, kn, known, rfl, ln, sr, ds, nk, ld, ⟨mk, m, deep, lp, wi, rfl, mb, lb, db⟩, q⟩ := h
  obtain ⟨v0, us, rfl, d0, ds⟩ := dats_cons ds
  obtain ⟨v1, us, rfl, d1, ds⟩ := dats_cons ds
  obtain ⟨v2, us, rfl, d2, ds⟩ := dats_cons ds
  obtain ⟨v3, us, rfl, d3, ds⟩ := dats_cons ds
  cases dats_nil ds
  cases dat_int d0
  cases dat_int d1
  cases dat_int d2
  cases dat_bl d3
  have hr9 := hr.mono (j := 91 + 2 * d) (by show 91 + 2 * d ≤ 90 + (2 * d + 1); omega)
  refine ⟨_, (pss_one (ps_ret (pe_callTy call_tuple_of rfl mt (by decide +kernel) (pa_cons (pe_lc (te := tOneB K l kn known d lp wi) (own := [("_law_k", 6)]) (g := gName 6) (tt := tYes) rfl scBl.nd (pi_range1 rfl mr (pa_cons (pv 1) pa_nil)) (blkOk_by (N := NB) (sc := defScope sBlock) (by decide +kernel)) (fun _ _ _ _ _ => pg_name (i := 6) scBl.nd rfl (.inl rfl)) (fun _ _ _ _ _ => pts_nil)
      (fun _ _ _ _ _ => pe_imp (pe_r (pr_gen (l := l) (n := 3) GT hr9 rfl (pv 0) (pgs_cons (pr_bin op_sub (pr_var 2 (pv 2)) pr_int) (pgs_cons (pr_var 3 (pv 3)) (pgs_cons (pr_var 4 (pv 4)) (pgs_last (prl_var 5 (pv 5)))))))) ?te)) pa_nil) (by decide) (by decide)))), ?_⟩
  case te =>
    rintro σ H Q ⟨deep, s0, s2, s3, s4, s5, sr, mk, nk, ld, db, lb, q⟩
    refine' Exists.intro _ ⟨⟨s0, ?_⟩, sr, ?_⟩
    rotate_left 1
    · refine' Exists.intro _ ⟨⟨_, _, ⟨_, _, ⟨_, _, s2, Dat.int _, rfl⟩, rfl, ?b1, rfl⟩, ⟨_, _, ⟨_, _, s3, Dat.int _, rfl⟩, ⟨_, _, ⟨_, _, s4, Dat.bl _, rfl⟩, ⟨_, ⟨_, _, s5, nk, ld, rfl⟩, ?b2, rfl⟩, rfl⟩, rfl⟩, rfl⟩, ?b3, rfl⟩
      case b1 =>
        rintro _ _ rfl rfl
        exact ⟨_, _, rfl, rfl⟩
      case b2 =>
        rintro _ rfl
        exact ⟨_, rfl⟩
      case b3 =>
        rintro _ ks ⟨_, _, rfl, ⟨_, _, ⟨⟩, ⟨⟩, rfl⟩, _, _, rfl, rfl, _, _, rfl, rfl, rfl, ek⟩
        have e2 : ks = known := map_str ek
        subst e2
        exact ⟨rfl, mk, _, _, _, rfl, lb, db⟩
    · rintro _ v H' ⟨_, ks, ⟨_, _, rfl, ⟨_, _, ⟨⟩, ⟨⟩, rfl⟩, _, _, rfl, rfl, _, _, rfl, rfl, rfl, ek⟩, ⟨_, _, _, tr, et, rfl, g⟩⟩ dr d
      have e2 : ks = known := map_str ek
      subst e2
      injection et with _ et
      injection et with e3 et
      injection et with e4 et
      cases e3
      cases e4
      exact q tr v H' g dr d
  try dsimp only [L2.tRet, L2.tRetN, tAndV, tOrV, tNotV, tCB, L2.tCons, L2.tNil, tC, tVar, L2.tOp, L2.tUn, tSeq, tAsg, gName, tIfS, tTest, tNext, tAnd, tOr, tNot, L2.tIf, tFld, sFld, sFldAug, tCall, tTup, tB, tAug, tDrop, L2.tSl, tPart, tNoPart, tBM, tBM0, tChain, gTup, gCons, gNil, tPar, tIs, List.set, L2.start, iTup, L2.iList, L2.iRng1, tUn, tLst, tTest, gSub, tCall, L2.tIf, tCB, rRep, List.set, List.cons_append, List.nil_append, cxOf]
  refine lc_in ?_
  try dsimp only [L2.tRet, L2.tRetN, tAndV, tOrV, tNotV, tCB, L2.tCons, L2.tNil, tC, tVar, L2.tOp, L2.tUn, tSeq, tAsg, gName, tIfS, tTest, tNext, tAnd, tOr, tNot, L2.tIf, tFld, sFld, sFldAug, tCall, tTup, tB, tAug, tDrop, L2.tSl, tPart, tNoPart, tBM, tBM0, tChain, gTup, gCons, gNil, tPar, tIs, List.set, L2.start, iTup, L2.iList, L2.iRng1, tUn, tLst, tTest, gSub, tCall, L2.tIf, tCB, rRep, List.set, List.cons_append, List.nil_append, cxOf]
  refine ⟨_, rfl, (m : Nat), rfl, by omega, by omega, lcl_range (lo := 0) (n := m) (fun D i H' => ∃ ks, LD K H' D (encs ks) ∧ ks.length = i ∧ (∀ k ∈ ks, Good known wi lp (2 * d + 1) k) ∧ Dr l H H' ∧ D ≠ l) (fun D nD => ⟨[], ⟨[], upd_same, .nil⟩, rfl, (fun k h => by cases h), (Dr.refl sr).new nD, sr.ne nD⟩) ?hs ?hd⟩
  case hs =>
    rintro D nD i H2 li ⟨ks, ld2, ln2, gs, dr, ne⟩
    try dsimp only [L2.tRet, L2.tRetN, tAndV, tOrV, tNotV, tCB, L2.tCons, L2.tNil, tC, tVar, L2.tOp, L2.tUn, tSeq, tAsg, gName, tIfS, tTest, tNext, tAnd, tOr, tNot, L2.tIf, tFld, sFld, sFldAug, tCall, tTup, tB, tAug, tDrop, L2.tSl, tPart, tNoPart, tBM, tBM0, tChain, gTup, gCons, gNil, tPar, tIs, List.set, L2.start, iTup, L2.iList, L2.iRng1, tUn, tLst, tTest, gSub, tCall, L2.tIf, tCB, rRep, List.set, List.cons_append, List.nil_append, cxOf]
    refine ⟨rfl, ?_⟩
    dsimp only [tYes]
    refine if_yes rfl ?_
    refine ⟨deep, rfl, rfl, rfl, rfl, rfl, dr.sr, mk, nk, ld.dr dr nk, db, lb, fun tr v H3 g dr3 dv => ?_⟩
    obtain ⟨acc, ha, ds2⟩ := ld2.dr dr3 ne
    have len : acc.length = i := by rw [ds2.len, encs_len, ln2]
    refine ⟨acc, ha, Nat.lt_of_lt_of_le (show acc.length < 1000 by omega) (sl (by decide)), ks ++ [tr], ⟨_, upd_same, ?_⟩, by rw [List.length_append, ln2]; rfl, fun k h => ?_, (dr.trans dr3).put nD ne (fun xs z => by rw [ha] at z; cases z), ne⟩
    · rw [encs_app]
      exact (ds2.app (.cons dv .nil)).up (stay_lst ha)
    · rcases List.mem_append.mp h with h | h
      · exact gs k h
      · rw [List.mem_singleton] at h
        exact h ▸ g
  case hd =>
    rintro D nD H2 ⟨ks, ⟨xs, ex, dx⟩, ln2, gs, dr, ne⟩
    refine ⟨D, xs, rfl, .inl ⟨.inl (.inl ex), fun p np => ?_⟩⟩
    exact q _ _ _ ⟨m, deep, lp, wi, ks, rfl, rfl, ln2, gs⟩ (dr.new np) ((dx.up (same_stay (same_new np))).tup upd_same)
end
end Ck

/-! Calls of the defs that draw. -/
namespace Ck
open PySem PySem.Spec PyProof.Rows L2
abbrev CR := L2.St → Hp → TSet → Prop
abbrev CL := L2.St → Hp → TsSet → Prop
section
variable {X : Cx} {P : Program} {w : World} {K : PySem.W.Frag} {mg : Str → Option Value} {base : Heap} {H H1 H2 : Hp} {l : Addr}
theorem pr_imp {e : Expr} {C C' : CR} (p : PR X l e C) (h : ∀ σ H D, C' σ H D → ∃ D1, C σ H D1 ∧ ∀ t, D1 t → D t) (up : ∀ σ H H' D, Dr l H H' → C' σ H D → C' σ H' D) : PR X l e C' :=
  ⟨pe_imp p.pe fun σ H Q ⟨D, c, s, q⟩ => by
    obtain ⟨D1, c1, m⟩ := h σ H D c
    exact ⟨D1, c1, s, fun t v H' d1 r d => q t v H' (m t d1) r d⟩, up⟩
theorem prl_imp {e : Expr} {C C' : CL} (p : PRl X l e C) (h : ∀ σ H D, C' σ H D → ∃ D1, C σ H D1 ∧ ∀ t, D1 t → D t) (up : ∀ σ H H' D, Dr l H H' → C' σ H D → C' σ H' D) : PRl X l e C' :=
  ⟨pe_imp p.pe fun σ H Q ⟨D, c, s, q⟩ => by
    obtain ⟨D1, c1, m⟩ := h σ H D c
    exact ⟨D1, c1, s, fun t v H' d1 r n d => q t v H' (m t d1) r n d⟩, up⟩
theorem pr_binD {a b : Expr} {pos : Pos} {op : Operator} {f : Int → Int → Int} {C1 C2 : CR} (o : OpR X (binaryOp op) (rI0 fun i j => .int (f i j))) (ha : PR X l a C1) (hb : PR X l b C2) :
    PR X l (.BinOp a op b pos) fun σ H D => ∃ i j, C1 σ H (fun t => t = .int i) ∧ C2 σ H (fun t => t = .int j) ∧ D = fun t => t = .int (f i j) :=
  pr_imp (pr_bin o ha hb) (fun σ H D ⟨i, j, c1, c2, e⟩ => by
    subst e
    refine ⟨_, ⟨_, _, c1, c2, fun t u h1 h2 => ⟨i, j, h1, h2⟩, rfl⟩, ?_⟩
    rintro t ⟨i2, j2, h1, h2, e⟩
    cases h1
    cases h2
    exact e) fun σ H H' D r ⟨i, j, c1, c2, e⟩ => ⟨i, j, ha.up _ _ _ _ r c1, hb.up _ _ _ _ r c2, e⟩
abbrev GSm (P : Program) (w : World) (K : PySem.W.Frag) (mg : Str → Option Value) (base : Heap) : Prop := Go P w K mg base CX0 90 "_law_small_tree" PSm (spG K 2 PreS PostS)
section
variable {x : Str} {p p2 pos : Pos} {i : Nat}
theorem pr_small {b c k : Expr} {Cb Cc : CR} {Cq : CL} (G : GSm X.prog X.w X.K X.mg X.base) (hr : Room 90 X.A) (hg : Gl X "_law_small_tree") (hx : PE X (.Name x p2) (tVar i)) (hb : PR X l b Cb) (hc : PR X l c Cc) (hk : PRl X l k Cq)
    (h1 : starEach [Expr.Name x p2, b, c, k] X.env = (false, eval (Expr.Name x p2) X.env) :: starEach [b, c, k] X.env := by rfl) (h2 : starEach [b, c, k] X.env = (false, eval b X.env) :: starEach [c, k] X.env := by rfl) (h3 : starEach [c, k] X.env = (false, eval c X.env) :: starEach [k] X.env := by rfl) (h4 : starEach [k] X.env = (false, eval k X.env) :: starEach [] X.env := by rfl) (hpl : (backTo pos (starEach [b, c, k] X.env)).any (·.1) = false := by rfl) :
    PR X l (.Call (.Name "_law_small_tree" p) [.Name x p2, b, c, k] [] pos) fun σ H D => σ[i]? = some (some (.ref l)) ∧ ∃ (lp : Nat) (wi : Bool) (known : List Str), Cb σ H (fun t => t = .int (lp : Nat)) ∧ Cc σ H (fun t => t = .bl wi) ∧ Cq σ H (fun ts => ts = known.map T.str) ∧ known ∈ knowns ∧ lp ≤ 100 ∧ D = fun t => ∃ tr, t = enc tr ∧ Okt C0 W0 3 2 known wi lp tr ∧ ht tr = 1 :=
  pr_imp (pr_gen (n := 2) G hr hg hx (pgs_cons hb (pgs_cons hc (pgs_last hk h4) h3) h2) (by decide) h1 hpl) (fun σ H D ⟨el, lp, wi, known, cb, cc, ck, mk, lb, e⟩ => by
    subst e
    refine ⟨_, ⟨el, _, ⟨_, _, cb, ⟨_, _, cc, ⟨_, ck, fun ts h => ⟨known, h⟩, rfl⟩, rfl⟩, rfl⟩, ?_, rfl⟩, ?_⟩
    · rintro _ ks ⟨_, _, rfl, rfl, _, _, rfl, rfl, rfl, ek⟩
      cases map_str ek
      exact ⟨rfl, mk, _, _, rfl, lb⟩
    · rintro t ⟨_, ks, ⟨_, _, rfl, rfl, _, _, rfl, rfl, rfl, ek⟩, lp2, wi2, tr, et, e2, o, h⟩
      cases map_str ek
      injection et with e3 et
      injection et with e4 et
      cases e3
      cases e4
      exact ⟨tr, e2, o, h⟩) fun σ H H' D r ⟨el, lp, wi, known, cb, cc, ck, mk, lb, e⟩ => ⟨el, lp, wi, known, hb.up _ _ _ _ r cb, hc.up _ _ _ _ r cc, hk.up _ _ _ _ r ck, mk, lb, e⟩
theorem pr_tree {a b c k : Expr} {Ca Cb Cc : CR} {Cq : CL} {d : Nat} (G : GTr X.prog X.w X.K X.mg X.base d) (hr : Room (91 + 2 * d) X.A) (hg : Gl X "_law_tree") (hx : PE X (.Name x p2) (tVar i)) (ha : PR X l a Ca) (hb : PR X l b Cb) (hc : PR X l c Cc) (hk : PRl X l k Cq)
    (h1 : starEach [Expr.Name x p2, a, b, c, k] X.env = (false, eval (Expr.Name x p2) X.env) :: starEach [a, b, c, k] X.env := by rfl) (h0 : starEach [a, b, c, k] X.env = (false, eval a X.env) :: starEach [b, c, k] X.env := by rfl) (h2 : starEach [b, c, k] X.env = (false, eval b X.env) :: starEach [c, k] X.env := by rfl) (h3 : starEach [c, k] X.env = (false, eval c X.env) :: starEach [k] X.env := by rfl) (h4 : starEach [k] X.env = (false, eval k X.env) :: starEach [] X.env := by rfl) (hpl : (backTo pos (starEach [a, b, c, k] X.env)).any (·.1) = false := by rfl) :
    PR X l (.Call (.Name "_law_tree" p) [.Name x p2, a, b, c, k] [] pos) fun σ H D => σ[i]? = some (some (.ref l)) ∧ ∃ (deep : Int) (lp : Nat) (wi : Bool) (known : List Str), Ca σ H (fun t => t = .int deep) ∧ Cb σ H (fun t => t = .int (lp : Nat)) ∧ Cc σ H (fun t => t = .bl wi) ∧ Cq σ H (fun ts => ts = known.map T.str) ∧ known ∈ knowns ∧ lp + d ≤ 100 ∧ deep ≤ d ∧ D = fun t => ∃ tr, t = enc tr ∧ Good known wi lp (2 * d + 1) tr :=
  pr_imp (pr_gen (n := 3) G hr hg hx (pgs_cons ha (pgs_cons hb (pgs_cons hc (pgs_last hk h4) h3) h2) h0) (by decide) h1 hpl) (fun σ H D ⟨el, deep, lp, wi, known, ca, cb, cc, ck, mk, lb, db, e⟩ => by
    subst e
    refine ⟨_, ⟨el, _, ⟨_, _, ca, ⟨_, _, cb, ⟨_, _, cc, ⟨_, ck, fun ts h => ⟨known, h⟩, rfl⟩, rfl⟩, rfl⟩, rfl⟩, ?_, rfl⟩, ?_⟩
    · rintro _ ks ⟨_, _, rfl, rfl, _, _, rfl, rfl, _, _, rfl, rfl, rfl, ek⟩
      cases map_str ek
      exact ⟨rfl, mk, _, _, _, rfl, lb, db⟩
    · rintro t ⟨_, ks, ⟨_, _, rfl, rfl, _, _, rfl, rfl, _, _, rfl, rfl, rfl, ek⟩, d2, lp2, wi2, tr, et, e2, g⟩
      cases map_str ek
      injection et with _ et
      injection et with e3 et
      injection et with e4 et
      cases e3
      cases e4
      exact ⟨tr, e2, g⟩) fun σ H H' D r ⟨el, deep, lp, wi, known, ca, cb, cc, ck, mk, lb, db, e⟩ => ⟨el, deep, lp, wi, known, ha.up _ _ _ _ r ca, hb.up _ _ _ _ r cb, hc.up _ _ _ _ r cc, hk.up _ _ _ _ r ck, mk, lb, db, e⟩
theorem pr_block {m a b c k : Expr} {Cm Ca Cb Cc : CR} {Cq : CL} {d : Nat} (G : GBl X.prog X.w X.K X.mg X.base (d + 1)) (hr : Room (90 + 2 * (d + 1)) X.A) (hg : Gl X "_law_block") (hx : PE X (.Name x p2) (tVar i)) (hm : PR X l m Cm) (ha : PR X l a Ca) (hb : PR X l b Cb) (hc : PR X l c Cc) (hk : PRl X l k Cq)
    (h1 : starEach [Expr.Name x p2, m, a, b, c, k] X.env = (false, eval (Expr.Name x p2) X.env) :: starEach [m, a, b, c, k] X.env := by rfl) (h5 : starEach [m, a, b, c, k] X.env = (false, eval m X.env) :: starEach [a, b, c, k] X.env := by rfl) (h0 : starEach [a, b, c, k] X.env = (false, eval a X.env) :: starEach [b, c, k] X.env := by rfl) (h2 : starEach [b, c, k] X.env = (false, eval b X.env) :: starEach [c, k] X.env := by rfl) (h3 : starEach [c, k] X.env = (false, eval c X.env) :: starEach [k] X.env := by rfl) (h4 : starEach [k] X.env = (false, eval k X.env) :: starEach [] X.env := by rfl) (hpl : (backTo pos (starEach [m, a, b, c, k] X.env)).any (·.1) = false := by rfl) :
    PR X l (.Call (.Name "_law_block" p) [.Name x p2, m, a, b, c, k] [] pos) fun σ H D => σ[i]? = some (some (.ref l)) ∧ ∃ (Dm : TSet) (deep : Int) (lp : Nat) (wi : Bool) (known : List Str), Cm σ H Dm ∧ Ca σ H (fun t => t = .int deep) ∧ Cb σ H (fun t => t = .int (lp : Nat)) ∧ Cc σ H (fun t => t = .bl wi) ∧ Cq σ H (fun ts => ts = known.map T.str) ∧ (∀ t, Dm t → ∃ m : Nat, t = .int (m : Nat) ∧ m ≤ 10) ∧ known ∈ knowns ∧ lp + d ≤ 100 ∧ deep - 1 ≤ d ∧ D = fun t => ∃ (m : Nat) (ks : List Tr), Dm (.int (m : Nat)) ∧ t = .tup (encs ks) ∧ ks.length = m ∧ ∀ k ∈ ks, Good known wi lp (2 * d + 1) k :=
  pr_imp (pr_gen (n := 4) G hr hg hx (pgs_cons hm (pgs_cons ha (pgs_cons hb (pgs_cons hc (pgs_last hk h4) h3) h2) h0) h5) (by decide) h1 hpl) (fun σ H D ⟨el, Dm, deep, lp, wi, known, cm, ca, cb, cc, ck, bm, mk, lb, db, e⟩ => by
    subst e
    refine ⟨_, ⟨el, _, ⟨_, _, cm, ⟨_, _, ca, ⟨_, _, cb, ⟨_, _, cc, ⟨_, ck, fun ts h => ⟨known, h⟩, rfl⟩, rfl⟩, rfl⟩, rfl⟩, rfl⟩, ?_, rfl⟩, ?_⟩
    · rintro _ ks ⟨_, _, rfl, dm, _, _, rfl, rfl, _, _, rfl, rfl, _, _, rfl, rfl, rfl, ek⟩
      cases map_str ek
      obtain ⟨m, rfl, mb⟩ := bm _ dm
      exact ⟨rfl, mk, _, _, _, _, rfl, mb, lb, db⟩
    · rintro t ⟨_, ks, ⟨_, _, rfl, dm, _, _, rfl, rfl, _, _, rfl, rfl, _, _, rfl, rfl, rfl, ek⟩, m2, d2, lp2, wi2, ts, et, e2, ln, g⟩
      cases map_str ek
      injection et with e6 et
      injection et with _ et
      injection et with e3 et
      injection et with e4 et
      cases e3
      cases e4
      subst e6
      exact ⟨m2, ts, dm, e2, ln, g⟩) fun σ H H' D r ⟨el, Dm, deep, lp, wi, known, cm, ca, cb, cc, ck, bm, mk, lb, db, e⟩ => ⟨el, Dm, deep, lp, wi, known, hm.up _ _ _ _ r cm, ha.up _ _ _ _ r ca, hb.up _ _ _ _ r cb, hc.up _ _ _ _ r cc, hk.up _ _ _ _ r ck, bm, mk, lb, db, e⟩
end
/-! ### bodies of traps -/
def PreD : Nat → KSet
  | 0 => fun _ _ => False
  | d + 1 => fun ts known => known ∈ knowns ∧ ∃ deep : Int, ts = [.int deep] ∧ d ≤ 100 ∧ deep - 2 ≤ d
def zz : T := .tup [.str "run", .str "z"]
def PostD (d : Nat) : List T → List Str → List T → Prop := fun _ known ss => ∃ tr, ss = [enc tr, zz, zz, .non] ∧ Good known false 0 (2 * (d - 1) + 1) tr
abbrev PBd : List Str := ["_law_source_here", "_law_deep", "_law_known"]
abbrev sBod : Stmt := topS 57
theorem scBd : FnScope PBd PBd (defScope sBod) := ⟨rfl, rfl, rfl, by decide +kernel, rfl, by decide +kernel, by decide +kernel⟩
abbrev GBd (P : Program) (w : World) (K : PySem.W.Frag) (mg : Str → Option Value) (base : Heap) (d : Nat) : Prop := Go P w K mg base CX0 (90 + 2 * d) "_law_trap_bodies" PBd (spGl K 1 (PreD d) (PostD d))
theorem ok_bod0 {f : Addr} {fd : FuncData} (F : Fun K "_law_trap_bodies" "_law_trap_bodies" sBod f fd) : FnOk P w K mg base CX0 90 f fd PBd (spGl K 1 (PreD 0) (PostD 0)) := by
  refine F.ok scBd (fun vs H Q E h => ?_) (fun cdv A outer s H vs Q E hr h => ?_)
  · obtain ⟨_, _, _, _, _, _, _, _, _, _, _, no, _⟩ := h
    exact no.elim
  · obtain ⟨_, _, _, _, _, _, _, _, _, _, _, no, _⟩ := h
    exact no.elim
theorem ok_bod {f : Addr} {fd : FuncData} {d : Nat} (F : Fun K "_law_trap_bodies" "_law_trap_bodies" sBod f fd) (GT : GTr P w K mg base d) : FnOk P w K mg base CX0 (90 + 2 * (d + 1)) f fd PBd (spGl K 1 (PreD (d + 1)) (PostD (d + 1))) := by
  refine F.ok scBd (fun vs H Q E h => ?_) (fun cdv A outer s H vs Q E hr h => ?_)
  · obtain ⟨_, us, _, _, _, rfl, ln, _⟩ := h
    show (_ :: (us ++ [_])).length = 3
    rw [List.length_cons, List.length_append, ln]
    rfl
  obtain ⟨l, us, ts, kn, known, rfl, ln, sr, ds, nk, ld, ⟨mk, deep, rfl, lb, db⟩, q⟩ := h
  obtain ⟨v0, us, rfl, d0, ds⟩ := dats_cons ds
  cases dats_nil ds
  cases dat_int d0
  have hr9 := hr.mono (j := 91 + 2 * d) (by show 91 + 2 * d ≤ 90 + (2 * d + 1); omega)
  refine ⟨_, (pss_one (ps_ret (pe_rl (prl_disp (l := l) (prs_cons (pr_tree GT hr9 rfl (pv 0) (pr_binD op_sub (pr_var 1 (pv 1)) pr_int) pr_int pr_bool (prl_var 2 (pv 2))) (prs_cons (pr_tup (prs_cons pr_str (prs_cons pr_str prs_nil))) (prs_cons (pr_tup (prs_cons pr_str (prs_cons pr_str prs_nil))) (prs_cons pr_non prs_nil)))))))), ?_⟩
  try dsimp only [L2.tRet, L2.tRetN, tAndV, tOrV, tNotV, tCB, L2.tCons, L2.tNil, tC, tVar, L2.tOp, L2.tUn, tSeq, tAsg, gName, tIfS, tTest, tNext, tAnd, tOr, tNot, L2.tIf, tFld, sFld, sFldAug, tCall, tTup, tB, tAug, tDrop, L2.tSl, tPart, tNoPart, tBM, tBM0, tChain, gTup, gCons, gNil, tPar, tIs, List.set, L2.start, iTup, L2.iList, L2.iRng1, tUn, tLst, tTest, gSub, tCall, L2.tIf, tCB, rRep, List.set, List.cons_append, List.nil_append, cxOf]
  refine' Exists.intro _ ⟨?_, by assumption, ?_⟩
  rotate_left 1
  · (repeat' (first | rfl | exact Dat.int _ | exact Dat.bl _ | (refine (?_ : Dat _ _ _ _); assumption) | (refine (?_ : LD _ _ _ _); assumption) | (refine (?_ : _ ≠ _); assumption) | refine' Exists.intro _ ?_ | refine And.intro ?_ ?_))
    all_goals (first | (first | (rintro _ rfl; exact ⟨_, rfl, by decide, by decide⟩) | (intro ts h; (repeat (obtain ⟨_, _, rfl, _, h⟩ := h)); (try cases h); exact Nat.le_of_ble_eq_true rfl) | (intro ts h; (repeat (obtain ⟨_, _, rfl, _, h⟩ := h)); (try cases h); exact ⟨List.cons_ne_nil _ _, Nat.le_of_ble_eq_true rfl⟩) | (rintro _ _ rfl rfl; exact ⟨_, _, rfl, rfl⟩)) | (exact mk) | (exact lb) | (show (0 : Nat) + d ≤ 100; omega) | (exact db))
  rintro _ a H1 ⟨_, _, rfl, ⟨tr, rfl, g⟩, _, _, rfl, ⟨_, rfl, _, _, rfl, rfl, _, _, rfl, rfl, rfl⟩, _, _, rfl, ⟨_, rfl, _, _, rfl, rfl, _, _, rfl, rfl, rfl⟩, _, _, rfl, rfl, rfl⟩ r1 na ld1
  exact q _ a H1 ⟨tr, rfl, g⟩ r1 na ld1
end
end Ck

/-! A tree. -/
namespace Ck
open PySem PySem.Spec PyProof.Rows L2
theorem hts_le {n : Nat} : ∀ {ks : List Tr}, (∀ k ∈ ks, ht k ≤ n) → hts ks ≤ n
  | [], _ => Nat.zero_le _
  | k :: ks, h => by
    have a := h k List.mem_cons_self
    have b := hts_le (ks := ks) fun k m => h k (List.mem_cons_of_mem _ m)
    show max (ht k) (hts ks) ≤ n
    omega
section
variable {X : Cx} {P : Program} {w : World} {K : PySem.W.Frag} {mg : Str → Option Value} {base : Heap} {H H1 H2 : Hp} {l : Addr}
theorem pss_false {ss : List Stmt} : PSs X ss (fun _ _ _ => False) := ⟨fun _ _ _ _ _ _ h => h.elim⟩
theorem out_t {d : Nat} {deep : Int} {lp : Nat} {wi : Bool} {known : List Str} {Q : VK} (q : ∀ t v H', PostT d [.int deep, .int (lp : Nat), .bl wi] known t → Dr l H H' → Dat K H' v t → Q v H') (tr : Tr) (o : Okt C0 W0 3 2 known wi lp tr) (h : ht tr ≤ 2 * d + 1) {v : V} (dr : Dr l H H1) (dt : Dat K H1 v (enc tr)) : Q v H1 :=
  q _ v H1 ⟨deep, lp, wi, tr, rfl, rfl, o, h⟩ dr dt
abbrev sTree : Stmt := topS 56
abbrev NTr : List Str := ["_law_source_here", "_law_deep", "_law_loops", "_law_within", "_law_known", "_law_way", "_law_some", "_law_first", "_law_body"]
theorem scTr : FnScope NTr PTr (defScope sTree) := ⟨rfl, rfl, rfl, by decide +kernel, rfl, by decide +kernel, by decide +kernel⟩
theorem ok_tree0 {f : Addr} {fd : FuncData} (F : Fun K "_law_tree" "_law_tree" sTree f fd) (GT : GTk P w K mg base) (GS : GSm P w K mg base) : FnOk P w K mg base CX0 91 f fd PTr (spG K 3 (PreT 0) (PostT 0)) := by
  refine F.ok scTr (fun vs H Q E h => ?_) (fun cdv A outer s H vs Q E hr h => ?_)
  · obtain ⟨_, us, _, _, _, rfl, ln, _⟩ := h
    show (_ :: (us ++ [_])).length = 5
    rw [List.length_cons, List.length_append, ln]
    rfl
  obtain ⟨l, us, ts, kn, known, rfl, ln, sr, ds, nk, ld, ⟨mk, deep, lp, wi, rfl, lb, db⟩, q⟩ := h
  obtain ⟨v0, us, rfl, d0, ds⟩ := dats_cons ds
  obtain ⟨v1, us, rfl, d1, ds⟩ := dats_cons ds
  obtain ⟨v2, us, rfl, d2, ds⟩ := dats_cons ds
  cases dats_nil ds
  cases dat_int d0
  cases dat_int d1
  cases dat_bl d2
  have hr8 := hr.mono (j := 88) (by decide)
  have hr0 := hr.mono (j := 90) (by decide)
  refine ⟨_, (pss_cons (ps_set (i := 5) scTr.nd rfl (.inl rfl) (pe_r (pr_take (l := l) GT hr8 rfl (pv 0) pr_int))) (pss_cons (ps_if (PW.pt (pw_or (pt_cmpR op_le (pv 1) pe_int rfl) (pw_or1 (pt_cmpR op_eq (pv 5) pe_int rfl)))) (pss_one (ps_ret (pe_r (pr_small (l := l) GS hr0 rfl (pv 0) (pr_var 2 (pv 2)) (pr_var 3 (pv 3)) (prl_var 4 (pv 4)))))) pss_nil) pss_false)), ?_⟩
  try dsimp only [L2.tRet, L2.tRetN, tAndV, tOrV, tNotV, tCB, L2.tCons, L2.tNil, tC, tVar, L2.tOp, L2.tUn, tSeq, tAsg, gName, tIfS, tTest, tNext, tAnd, tOr, tNot, L2.tIf, tFld, sFld, sFldAug, tCall, tTup, tB, tAug, tDrop, L2.tSl, tPart, tNoPart, tBM, tBM0, tChain, gTup, gCons, gNil, tPar, tIs, List.set, L2.start, iTup, L2.iList, L2.iRng1, tUn, tLst, tTest, gSub, tCall, L2.tIf, tCB, rRep, List.set, List.cons_append, List.nil_append, cxOf]
  refine' Exists.intro _ ⟨?_, by assumption, ?_⟩
  rotate_left 1
  · (repeat' (first | rfl | exact Dat.int _ | exact Dat.bl _ | (refine (?_ : Dat _ _ _ _); assumption) | (refine (?_ : LD _ _ _ _); assumption) | (refine (?_ : _ ≠ _); assumption) | refine' Exists.intro _ ?_ | refine And.intro ?_ ?_))
    all_goals (first | (first | (rintro _ rfl; exact ⟨_, rfl, by decide, by decide⟩) | (intro ts h; (repeat (obtain ⟨_, _, rfl, _, h⟩ := h)); (try cases h); exact Nat.le_of_ble_eq_true rfl) | (intro ts h; (repeat (obtain ⟨_, _, rfl, _, h⟩ := h)); (try cases h); exact ⟨List.cons_ne_nil _ _, Nat.le_of_ble_eq_true rfl⟩) | (rintro _ _ rfl rfl; exact ⟨_, _, rfl, rfl⟩)))
  rintro _ v5 H2 ⟨_, r, ⟨⟩, r0, rb, rfl⟩ r2 dv
  cases dat_int dv
  obtain ⟨k, rfl⟩ := Int.eq_ofNat_of_zero_le r0
  have sr2 := r2.sr
  have ld2 := ld.dr r2 nk
  try dsimp only [L2.tRet, L2.tRetN, tAndV, tOrV, tNotV, tCB, L2.tCons, L2.tNil, tC, tVar, L2.tOp, L2.tUn, tSeq, tAsg, gName, tIfS, tTest, tNext, tAnd, tOr, tNot, L2.tIf, tFld, sFld, sFldAug, tCall, tTup, tB, tAug, tDrop, L2.tSl, tPart, tNoPart, tBM, tBM0, tChain, gTup, gCons, gNil, tPar, tIs, List.set, L2.start, iTup, L2.iList, L2.iRng1, tUn, tLst, tTest, gSub, tCall, L2.tIf, tCB, rRep, List.set, List.cons_append, List.nil_append, cxOf]
  refine ⟨_, rfl, _, _, rfl, rfl, _, rfl, ?_⟩
  refine if_yes (decide_eq_true (by omega)) ?_
  try dsimp only [L2.tRet, L2.tRetN, tAndV, tOrV, tNotV, tCB, L2.tCons, L2.tNil, tC, tVar, L2.tOp, L2.tUn, tSeq, tAsg, gName, tIfS, tTest, tNext, tAnd, tOr, tNot, L2.tIf, tFld, sFld, sFldAug, tCall, tTup, tB, tAug, tDrop, L2.tSl, tPart, tNoPart, tBM, tBM0, tChain, gTup, gCons, gNil, tPar, tIs, List.set, L2.start, iTup, L2.iList, L2.iRng1, tUn, tLst, tTest, gSub, tCall, L2.tIf, tCB, rRep, List.set, List.cons_append, List.nil_append, cxOf]
  refine' Exists.intro _ ⟨?_, by assumption, ?_⟩
  rotate_left 1
  · (repeat' (first | rfl | exact Dat.int _ | exact Dat.bl _ | (refine (?_ : Dat _ _ _ _); assumption) | (refine (?_ : LD _ _ _ _); assumption) | (refine (?_ : _ ≠ _); assumption) | refine' Exists.intro _ ?_ | refine And.intro ?_ ?_))
    all_goals (first | (first | (rintro _ rfl; exact ⟨_, rfl, by decide, by decide⟩) | (intro ts h; (repeat (obtain ⟨_, _, rfl, _, h⟩ := h)); (try cases h); exact Nat.le_of_ble_eq_true rfl) | (intro ts h; (repeat (obtain ⟨_, _, rfl, _, h⟩ := h)); (try cases h); exact ⟨List.cons_ne_nil _ _, Nat.le_of_ble_eq_true rfl⟩) | (rintro _ _ rfl rfl; exact ⟨_, _, rfl, rfl⟩)) | (exact mk) | (omega))
  rintro _ v H3 ⟨tr, rfl, o, h1⟩ r3 dv
  exact out_t q tr o (by omega) (r2.trans r3) dv
theorem ok_tree {f : Addr} {fd : FuncData} {d : Nat} (F : Fun K "_law_tree" "_law_tree" sTree f fd) (GT : GTk P w K mg base) (GP : GPk P w K mg base) (GS : GSm P w K mg base) (GR : GTr P w K mg base d) (GB : GBl P w K mg base (d + 1)) (GD : GBd P w K mg base (d + 1)) : FnOk P w K mg base CX0 (91 + 2 * (d + 1)) f fd PTr (spG K 3 (PreT (d + 1)) (PostT (d + 1))) := by
  refine F.ok scTr (fun vs H Q E h => ?_) (fun cdv A outer s H vs Q E hr h => ?_)
  · obtain ⟨_, us, _, _, _, rfl, ln, _⟩ := h
    show (_ :: (us ++ [_])).length = 5
    rw [List.length_cons, List.length_append, ln]
    rfl
  obtain ⟨l, us, ts, kn, known, rfl, ln, sr, ds, nk, ld, ⟨mk, deep, lp, wi, rfl, lb, db⟩, q⟩ := h
  obtain ⟨v0, us, rfl, d0, ds⟩ := dats_cons ds
  obtain ⟨v1, us, rfl, d1, ds⟩ := dats_cons ds
  obtain ⟨v2, us, rfl, d2, ds⟩ := dats_cons ds
  cases dats_nil ds
  cases dat_int d0
  cases dat_int d1
  cases dat_bl d2
  have hr8 := hr.mono (j := 88) (by show 88 ≤ 91 + (2 * d + 1); omega)
  have hr9 := hr.mono (j := 89) (by show 89 ≤ 91 + (2 * d + 1); omega)
  have hr0 := hr.mono (j := 90) (by show 90 ≤ 91 + (2 * d + 1); omega)
  have hr1 := hr.mono (j := 90 + 2 * (d + 1)) (by show 90 + (2 * d + 2) ≤ 91 + (2 * d + 1); omega)
  have hr2 := hr.mono (j := 91 + 2 * d) (by show 91 + 2 * d ≤ 91 + (2 * d + 1); omega)
  refine ⟨_, (pss_cons (ps_set (i := 5) scTr.nd rfl (.inl rfl) (pe_r (pr_take (l := l) GT hr8 rfl (pv 0) pr_int))) (pss_cons (ps_if (PW.pt (pw_or (pt_cmpR op_le (pv 1) pe_int rfl) (pw_or1 (pt_cmpR op_eq (pv 5) pe_int rfl)))) (pss_one (ps_ret (pe_r (pr_small (l := l) GS hr0 rfl (pv 0) (pr_var 2 (pv 2)) (pr_var 3 (pv 3)) (prl_var 4 (pv 4)))))) pss_nil) (pss_cons (ps_if (pt_cmpR op_lt (pv 5) pe_int rfl) (pss_one (ps_ret (pe_r (pr_tup (l := l) (prs_cons pr_str (prs_cons (pr_block (l := l) GB hr1 rfl (pv 0) (pr_bin op_add pr_int (pr_take GT hr8 rfl (pv 0) pr_int)) (pr_var 1 (pv 1)) (pr_var 2 (pv 2)) (pr_var 3 (pv 3)) (prl_var 4 (pv 4))) prs_nil)))))) pss_nil) (pss_cons (ps_if (pt_cmpR op_lt (pv 5) pe_int rfl) (pss_one (ps_ret (pe_r (pr_cat (l := l) (pr_tup (prs_cons (pr_atL (prl_disp (prs_cons pr_str (prs_cons pr_str (prs_cons pr_str prs_nil)))) (pr_binD op_sub (pr_var 5 (pv 5)) pr_int) fun _ _ => rfl) prs_nil)) (pr_block (l := l) GB hr1 rfl (pv 0) pr_int (pr_var 1 (pv 1)) (pr_var 2 (pv 2)) (pr_var 3 (pv 3)) (prl_var 4 (pv 4))))))) pss_nil) (pss_cons (ps_if (pt_cmpR op_eq (pv 5) pe_int rfl) (pss_one (ps_ret (pe_r (pr_cat (l := l) (pr_tup (prs_cons pr_str prs_nil)) (pr_block (l := l) GB hr1 rfl (pv 0) pr_int (pr_var 1 (pv 1)) (pr_var 2 (pv 2)) (pr_var 3 (pv 3)) (prl_var 4 (pv 4))))))) pss_nil) (pss_cons (ps_if (pt_cmpR op_eq (pv 5) pe_int rfl) (pss_cons (ps_set (i := 6) scTr.nd rfl (.inl rfl) (pe_r (pr_block (l := l) GB hr1 rfl (pv 0) pr_int (pr_var 1 (pv 1)) (pr_var 2 (pv 2)) (pr_var 3 (pv 3)) (prl_var 4 (pv 4))))) (pss_one (ps_ret (pe_r (pr_tup (l := l) (prs_cons pr_str (prs_cons (pr_atT (i := 0) (pr_var 6 (pv 6))) (prs_cons (pr_atT (i := 1) (pr_var 6 (pv 6))) (prs_cons (pr_atL (prl_disp (prs_cons (pr_atT (i := 2) (pr_var 6 (pv 6))) (prs_cons pr_non prs_nil))) (pr_take GT hr8 rfl (pv 0) pr_int) fun _ _ => rfl) prs_nil))))))))) pss_nil) (pss_cons (ps_if (pt_cmpR op_lt (pv 5) pe_int rfl) (pss_cons (ps_set (i := 7) scTr.nd rfl (.inl rfl) (pe_r (pr_tree (l := l) GR hr2 rfl (pv 0) (pr_binD op_sub (pr_var 1 (pv 1)) pr_int) (pr_binD op_add (pr_var 2 (pv 2)) pr_int) (pr_var 3 (pv 3)) (prl_var 4 (pv 4))))) (pss_cons (ps_if (pt_cmpR op_gt (pe_r (pr_take (l := l) GT hr8 rfl (pv 0) pr_int)) pe_int rfl) (pss_one (ps_set (i := 7) scTr.nd rfl (.inl rfl) (pe_r (pr_tup (l := l) (prs_cons pr_str (prs_cons (pr_tup (prs_cons (pr_var 7 (pv 7)) (prs_cons (pr_tup (prs_cons pr_str (prs_cons (pr_pick GP hr9 rfl (pv 0) (prl_disp (prs_cons pr_str (prs_cons pr_str prs_nil)))) prs_nil))) prs_nil))) prs_nil)))))) pss_nil) (pss_cons (ps_set (i := 8) scTr.nd rfl (.inl rfl) (pe_r (pr_tree (l := l) GR hr2 rfl (pv 0) (pr_binD op_sub (pr_var 1 (pv 1)) pr_int) (pr_binD op_add (pr_var 2 (pv 2)) pr_int) (pr_var 3 (pv 3)) (prl_var 4 (pv 4))))) (pss_one (ps_ret (pe_r (pr_tup (l := l) (prs_cons (pr_pick GP hr9 rfl (pv 0) (prl_disp (prs_cons pr_str (prs_cons pr_str prs_nil)))) (prs_cons (pr_var 7 (pv 7)) (prs_cons (pr_var 8 (pv 8)) prs_nil)))))))))) pss_nil) (pss_cons (ps_if (pt_cmpR op_eq (pv 5) pe_int rfl) (pss_one (ps_ret (pe_r (pr_tup (l := l) (prs_cons pr_str (prs_cons (pr_take GT hr8 rfl (pv 0) pr_int) (prs_cons (pr_tree (l := l) GR hr2 rfl (pv 0) (pr_binD op_sub (pr_var 1 (pv 1)) pr_int) (pr_binD op_add (pr_var 2 (pv 2)) pr_int) (pr_var 3 (pv 3)) (prl_var 4 (pv 4))) prs_nil))))))) pss_nil) (pss_cons (ps_if (pt_cmpR op_eq (pv 5) pe_int rfl) (pss_cons (ps_set (i := 6) scTr.nd rfl (.inl rfl) (pe_rl (prl_gen (l := l) (n := 1) GD hr1 rfl (pv 0) (pgs_cons (pr_var 1 (pv 1)) (pgs_last (prl_var 4 (pv 4))))))) (pss_one (ps_ret (pe_r (pr_tup (l := l) (prs_cons pr_str (prs_cons (pr_pick GP hr9 rfl (pv 0) (prl_disp (prs_cons pr_str (prs_cons pr_str prs_nil)))) (prs_cons (pr_pick GP hr9 rfl (pv 0) (prl_var 6 (pv 6))) prs_nil)))))))) pss_nil) (pss_cons (ps_if (pt_cmpR op_eq (pv 5) pe_int rfl) (pss_one (ps_ret (pe_r (pr_tup (l := l) (prs_cons pr_str (prs_cons (pr_tree (l := l) GR hr2 rfl (pv 0) (pr_binD op_sub (pr_var 1 (pv 1)) pr_int) pr_int pr_bool (prl_var 4 (pv 4))) prs_nil)))))) pss_nil) (pss_one (ps_ret (pe_r (pr_tup (l := l) (prs_cons pr_str (prs_cons (pr_block (l := l) GB hr1 rfl (pv 0) (pr_bin op_add pr_int (pr_take GT hr8 rfl (pv 0) pr_int)) (pr_var 1 (pv 1)) pr_int pr_bool (prl_var 4 (pv 4))) prs_nil)))))))))))))))), ?_⟩
  try dsimp only [L2.tRet, L2.tRetN, tAndV, tOrV, tNotV, tCB, L2.tCons, L2.tNil, tC, tVar, L2.tOp, L2.tUn, tSeq, tAsg, gName, tIfS, tTest, tNext, tAnd, tOr, tNot, L2.tIf, tFld, sFld, sFldAug, tCall, tTup, tB, tAug, tDrop, L2.tSl, tPart, tNoPart, tBM, tBM0, tChain, gTup, gCons, gNil, tPar, tIs, List.set, L2.start, iTup, L2.iList, L2.iRng1, tUn, tLst, tTest, gSub, tCall, L2.tIf, tCB, rRep, List.set, List.cons_append, List.nil_append, cxOf]
  refine' Exists.intro _ ⟨?_, by assumption, ?_⟩
  rotate_left 1
  · (repeat' (first | rfl | exact Dat.int _ | exact Dat.bl _ | (refine (?_ : Dat _ _ _ _); assumption) | (refine (?_ : LD _ _ _ _); assumption) | (refine (?_ : _ ≠ _); assumption) | refine' Exists.intro _ ?_ | refine And.intro ?_ ?_))
    all_goals (first | (first | (rintro _ rfl; exact ⟨_, rfl, by decide, by decide⟩) | (intro ts h; (repeat (obtain ⟨_, _, rfl, _, h⟩ := h)); (try cases h); exact Nat.le_of_ble_eq_true rfl) | (intro ts h; (repeat (obtain ⟨_, _, rfl, _, h⟩ := h)); (try cases h); exact ⟨List.cons_ne_nil _ _, Nat.le_of_ble_eq_true rfl⟩) | (rintro _ _ rfl rfl; exact ⟨_, _, rfl, rfl⟩)))
  rintro _ v5 H2 ⟨_, r, ⟨⟩, r0, rb, rfl⟩ r2 dv
  cases dat_int dv
  obtain ⟨k, rfl⟩ := Int.eq_ofNat_of_zero_le r0
  have sr2 := r2.sr
  have ld2 := ld.dr r2 nk
  try dsimp only [L2.tRet, L2.tRetN, tAndV, tOrV, tNotV, tCB, L2.tCons, L2.tNil, tC, tVar, L2.tOp, L2.tUn, tSeq, tAsg, gName, tIfS, tTest, tNext, tAnd, tOr, tNot, L2.tIf, tFld, sFld, sFldAug, tCall, tTup, tB, tAug, tDrop, L2.tSl, tPart, tNoPart, tBM, tBM0, tChain, gTup, gCons, gNil, tPar, tIs, List.set, L2.start, iTup, L2.iList, L2.iRng1, tUn, tLst, tTest, gSub, tCall, L2.tIf, tCB, rRep, List.set, List.cons_append, List.nil_append, cxOf]
  refine ⟨_, rfl, _, _, rfl, rfl, _, rfl, ?_⟩
  by_cases cd : deep ≤ 0
  · refine if_yes (decide_eq_true cd) ?_
    try dsimp only [L2.tRet, L2.tRetN, tAndV, tOrV, tNotV, tCB, L2.tCons, L2.tNil, tC, tVar, L2.tOp, L2.tUn, tSeq, tAsg, gName, tIfS, tTest, tNext, tAnd, tOr, tNot, L2.tIf, tFld, sFld, sFldAug, tCall, tTup, tB, tAug, tDrop, L2.tSl, tPart, tNoPart, tBM, tBM0, tChain, gTup, gCons, gNil, tPar, tIs, List.set, L2.start, iTup, L2.iList, L2.iRng1, tUn, tLst, tTest, gSub, tCall, L2.tIf, tCB, rRep, List.set, List.cons_append, List.nil_append, cxOf]
    refine' Exists.intro _ ⟨?_, by assumption, ?_⟩
    rotate_left 1
    · (repeat' (first | rfl | exact Dat.int _ | exact Dat.bl _ | (refine (?_ : Dat _ _ _ _); assumption) | (refine (?_ : LD _ _ _ _); assumption) | (refine (?_ : _ ≠ _); assumption) | refine' Exists.intro _ ?_ | refine And.intro ?_ ?_))
      all_goals (first | (first | (rintro _ rfl; exact ⟨_, rfl, by decide, by decide⟩) | (intro ts h; (repeat (obtain ⟨_, _, rfl, _, h⟩ := h)); (try cases h); exact Nat.le_of_ble_eq_true rfl) | (intro ts h; (repeat (obtain ⟨_, _, rfl, _, h⟩ := h)); (try cases h); exact ⟨List.cons_ne_nil _ _, Nat.le_of_ble_eq_true rfl⟩) | (rintro _ _ rfl rfl; exact ⟨_, _, rfl, rfl⟩)) | (exact mk) | (omega))
    rintro _ v H3 ⟨tr, rfl, o, h1⟩ r3 dv
    exact out_t q tr o (by omega) (r2.trans r3) dv
  refine if_no (decide_eq_false cd) ?_
  try dsimp only [L2.tRet, L2.tRetN, tAndV, tOrV, tNotV, tCB, L2.tCons, L2.tNil, tC, tVar, L2.tOp, L2.tUn, tSeq, tAsg, gName, tIfS, tTest, tNext, tAnd, tOr, tNot, L2.tIf, tFld, sFld, sFldAug, tCall, tTup, tB, tAug, tDrop, L2.tSl, tPart, tNoPart, tBM, tBM0, tChain, gTup, gCons, gNil, tPar, tIs, List.set, L2.start, iTup, L2.iList, L2.iRng1, tUn, tLst, tTest, gSub, tCall, L2.tIf, tCB, rRep, List.set, List.cons_append, List.nil_append, cxOf]
  refine ⟨_, rfl, rfl, _, rfl, ?_⟩
  by_cases c0 : k = 0
  · subst c0
    refine if_yes (decide_eq_true rfl) ?_
    try dsimp only [L2.tRet, L2.tRetN, tAndV, tOrV, tNotV, tCB, L2.tCons, L2.tNil, tC, tVar, L2.tOp, L2.tUn, tSeq, tAsg, gName, tIfS, tTest, tNext, tAnd, tOr, tNot, L2.tIf, tFld, sFld, sFldAug, tCall, tTup, tB, tAug, tDrop, L2.tSl, tPart, tNoPart, tBM, tBM0, tChain, gTup, gCons, gNil, tPar, tIs, List.set, L2.start, iTup, L2.iList, L2.iRng1, tUn, tLst, tTest, gSub, tCall, L2.tIf, tCB, rRep, List.set, List.cons_append, List.nil_append, cxOf]
    refine' Exists.intro _ ⟨?_, by assumption, ?_⟩
    rotate_left 1
    · (repeat' (first | rfl | exact Dat.int _ | exact Dat.bl _ | (refine (?_ : Dat _ _ _ _); assumption) | (refine (?_ : LD _ _ _ _); assumption) | (refine (?_ : _ ≠ _); assumption) | refine' Exists.intro _ ?_ | refine And.intro ?_ ?_))
      all_goals (first | (first | (rintro _ rfl; exact ⟨_, rfl, by decide, by decide⟩) | (intro ts h; (repeat (obtain ⟨_, _, rfl, _, h⟩ := h)); (try cases h); exact Nat.le_of_ble_eq_true rfl) | (intro ts h; (repeat (obtain ⟨_, _, rfl, _, h⟩ := h)); (try cases h); exact ⟨List.cons_ne_nil _ _, Nat.le_of_ble_eq_true rfl⟩) | (rintro _ _ rfl rfl; exact ⟨_, _, rfl, rfl⟩)) | (exact mk) | (omega))
    rintro _ v H3 ⟨tr, rfl, o, h1⟩ r3 dv
    exact out_t q tr o (by omega) (r2.trans r3) dv
  refine if_no (dn (by omega)) ?_
  try dsimp only [L2.tRet, L2.tRetN, tAndV, tOrV, tNotV, tCB, L2.tCons, L2.tNil, tC, tVar, L2.tOp, L2.tUn, tSeq, tAsg, gName, tIfS, tTest, tNext, tAnd, tOr, tNot, L2.tIf, tFld, sFld, sFldAug, tCall, tTup, tB, tAug, tDrop, L2.tSl, tPart, tNoPart, tBM, tBM0, tChain, gTup, gCons, gNil, tPar, tIs, List.set, L2.start, iTup, L2.iList, L2.iRng1, tUn, tLst, tTest, gSub, tCall, L2.tIf, tCB, rRep, List.set, List.cons_append, List.nil_append, cxOf]
  refine ⟨_, rfl, _, _, rfl, rfl, _, rfl, ?_⟩
  have lb2 : lp + d ≤ 100 := by omega
  have lb3 : lp + 1 + d ≤ 100 := by omega
  by_cases c5 : (k : Int) < 5
  · refine if_yes (decide_eq_true c5) ?_
    try dsimp only [L2.tRet, L2.tRetN, tAndV, tOrV, tNotV, tCB, L2.tCons, L2.tNil, tC, tVar, L2.tOp, L2.tUn, tSeq, tAsg, gName, tIfS, tTest, tNext, tAnd, tOr, tNot, L2.tIf, tFld, sFld, sFldAug, tCall, tTup, tB, tAug, tDrop, L2.tSl, tPart, tNoPart, tBM, tBM0, tChain, gTup, gCons, gNil, tPar, tIs, List.set, L2.start, iTup, L2.iList, L2.iRng1, tUn, tLst, tTest, gSub, tCall, L2.tIf, tCB, rRep, List.set, List.cons_append, List.nil_append, cxOf]
    refine' Exists.intro _ ⟨?_, by assumption, ?_⟩
    rotate_left 1
    · (repeat' (first | rfl | exact Dat.int _ | exact Dat.bl _ | (refine (?_ : Dat _ _ _ _); assumption) | (refine (?_ : LD _ _ _ _); assumption) | (refine (?_ : _ ≠ _); assumption) | refine' Exists.intro _ ?_ | refine And.intro ?_ ?_))
      all_goals (first | (first | (rintro _ rfl; exact ⟨_, rfl, by decide, by decide⟩) | (intro ts h; (repeat (obtain ⟨_, _, rfl, _, h⟩ := h)); (try cases h); exact Nat.le_of_ble_eq_true rfl) | (intro ts h; (repeat (obtain ⟨_, _, rfl, _, h⟩ := h)); (try cases h); exact ⟨List.cons_ne_nil _ _, Nat.le_of_ble_eq_true rfl⟩) | (rintro _ _ rfl rfl; exact ⟨_, _, rfl, rfl⟩)) | (exact mk) | (exact lb2) | (exact lb3) | (exact lb) | (exact db) | omega | (show (0 : Nat) + d ≤ 100; omega) | (rintro _ _ rfl ⟨_, _, ⟨⟩, _, _, rfl⟩; exact ⟨_, _, rfl, rfl⟩) | (rintro _ ⟨_, j, ⟨⟩, ⟨_, _, ⟨⟩, q0, q1, ⟨⟩⟩, rfl⟩; exact ⟨(2 + j).toNat, by rw [Int.toNat_of_nonneg (by omega)], by omega⟩) | (rintro _ rfl; exact ⟨1, rfl, by decide⟩) | (rintro _ rfl; exact ⟨2, rfl, by decide⟩) | (rintro _ rfl; exact ⟨3, rfl, by decide⟩))
    rintro _ v H3 ⟨_, rfl, _, _, rfl, rfl, _, _, rfl, ⟨m, ks, ⟨_, j, ⟨⟩, ⟨_, _, ⟨⟩, q0, q1, ⟨⟩⟩, em⟩, rfl, ln, gs⟩, rfl⟩ r3 dv
    have em2 := T.int.inj em
    exact out_t q (.mk true "seq" [] ks []) (.seq ⟨by omega, by omega⟩ fun k h => (gs k h).1) (by show 1 + hts ks ≤ _; have := hts_le fun k h => (gs k h).2; omega) (r2.trans r3) dv
  refine if_no (decide_eq_false c5) ?_
  try dsimp only [L2.tRet, L2.tRetN, tAndV, tOrV, tNotV, tCB, L2.tCons, L2.tNil, tC, tVar, L2.tOp, L2.tUn, tSeq, tAsg, gName, tIfS, tTest, tNext, tAnd, tOr, tNot, L2.tIf, tFld, sFld, sFldAug, tCall, tTup, tB, tAug, tDrop, L2.tSl, tPart, tNoPart, tBM, tBM0, tChain, gTup, gCons, gNil, tPar, tIs, List.set, L2.start, iTup, L2.iList, L2.iRng1, tUn, tLst, tTest, gSub, tCall, L2.tIf, tCB, rRep, List.set, List.cons_append, List.nil_append, cxOf]
  refine ⟨_, rfl, _, _, rfl, rfl, _, rfl, ?_⟩
  by_cases c8 : (k : Int) < 8
  · refine if_yes (decide_eq_true c8) ?_
    obtain rfl | rfl | rfl : k = 5 ∨ k = 6 ∨ k = 7 := by omega
    · try dsimp only [L2.tRet, L2.tRetN, tAndV, tOrV, tNotV, tCB, L2.tCons, L2.tNil, tC, tVar, L2.tOp, L2.tUn, tSeq, tAsg, gName, tIfS, tTest, tNext, tAnd, tOr, tNot, L2.tIf, tFld, sFld, sFldAug, tCall, tTup, tB, tAug, tDrop, L2.tSl, tPart, tNoPart, tBM, tBM0, tChain, gTup, gCons, gNil, tPar, tIs, List.set, L2.start, iTup, L2.iList, L2.iRng1, tUn, tLst, tTest, gSub, tCall, L2.tIf, tCB, rRep, List.set, List.cons_append, List.nil_append, cxOf]
      refine' Exists.intro _ ⟨?_, by assumption, ?_⟩
      rotate_left 1
      · (repeat' (first | rfl | exact Dat.int _ | exact Dat.bl _ | (refine (?_ : Dat _ _ _ _); assumption) | (refine (?_ : LD _ _ _ _); assumption) | (refine (?_ : _ ≠ _); assumption) | refine' Exists.intro _ ?_ | refine And.intro ?_ ?_))
        all_goals (first | (first | (rintro _ rfl; exact ⟨_, rfl, by decide, by decide⟩) | (intro ts h; (repeat (obtain ⟨_, _, rfl, _, h⟩ := h)); (try cases h); exact Nat.le_of_ble_eq_true rfl) | (intro ts h; (repeat (obtain ⟨_, _, rfl, _, h⟩ := h)); (try cases h); exact ⟨List.cons_ne_nil _ _, Nat.le_of_ble_eq_true rfl⟩) | (rintro _ _ rfl rfl; exact ⟨_, _, rfl, rfl⟩)) | (rintro _ _ ⟨_, _, rfl, _, _, _, rfl, _, _, _, rfl, _, rfl⟩ rfl; exact ⟨0, _, rfl, rfl⟩) | (rintro _ _ ⟨_, rfl, _, _, rfl, _, rfl⟩ ⟨m, ks, em, rfl, ln, gs⟩; refine ⟨_, _, rfl, rfl, ?_⟩; have em2 := T.int.inj em; rw [encs_len]; show 1 + _ ≤ _; omega) | (exact mk) | (exact lb2) | (exact lb3) | (exact lb) | (exact db) | omega | (show (0 : Nat) + d ≤ 100; omega) | (rintro _ _ rfl ⟨_, _, ⟨⟩, _, _, rfl⟩; exact ⟨_, _, rfl, rfl⟩) | (rintro _ ⟨_, j, ⟨⟩, ⟨_, _, ⟨⟩, q0, q1, ⟨⟩⟩, rfl⟩; exact ⟨(2 + j).toNat, by rw [Int.toNat_of_nonneg (by omega)], by omega⟩) | (rintro _ rfl; exact ⟨1, rfl, by decide⟩) | (rintro _ rfl; exact ⟨2, rfl, by decide⟩) | (rintro _ rfl; exact ⟨3, rfl, by decide⟩))
      rintro _ v H3 ⟨_, _, ⟨_, ⟨⟩, _, _, rfl, ⟨_, k2, ⟨_, _, rfl, rfl, _, _, rfl, rfl, _, _, rfl, rfl, rfl⟩, ek, eu⟩, rfl⟩, ⟨m, ks, em, ⟨⟩, ln, gs⟩, rfl⟩ r3 dv
      have em2 := T.int.inj em
      have ek2 : k2 = 0 := by
        have := T.int.inj ek
        omega
      subst ek2
      cases eu
      rcases ks with _ | ⟨x0, _ | ⟨x1, _ | ⟨x2, rr⟩⟩⟩
      · exfalso; have z : (0 : Nat) = m := ln; omega
      · exfalso; have z : (1 : Nat) = m := ln; omega
      · exact out_t q (.mk false "and" [] [x0, x1] []) (.andor (by decide) (gs x0 (by simp)).1 (gs x1 (by simp)).1) (by show 1 + hts [x0, x1] ≤ _; have := hts_le fun k h => (gs k h).2; omega) (r2.trans r3) dv
      · exfalso; have z : rr.length + 3 = m := ln; omega
    · try dsimp only [L2.tRet, L2.tRetN, tAndV, tOrV, tNotV, tCB, L2.tCons, L2.tNil, tC, tVar, L2.tOp, L2.tUn, tSeq, tAsg, gName, tIfS, tTest, tNext, tAnd, tOr, tNot, L2.tIf, tFld, sFld, sFldAug, tCall, tTup, tB, tAug, tDrop, L2.tSl, tPart, tNoPart, tBM, tBM0, tChain, gTup, gCons, gNil, tPar, tIs, List.set, L2.start, iTup, L2.iList, L2.iRng1, tUn, tLst, tTest, gSub, tCall, L2.tIf, tCB, rRep, List.set, List.cons_append, List.nil_append, cxOf]
      refine' Exists.intro _ ⟨?_, by assumption, ?_⟩
      rotate_left 1
      · (repeat' (first | rfl | exact Dat.int _ | exact Dat.bl _ | (refine (?_ : Dat _ _ _ _); assumption) | (refine (?_ : LD _ _ _ _); assumption) | (refine (?_ : _ ≠ _); assumption) | refine' Exists.intro _ ?_ | refine And.intro ?_ ?_))
        all_goals (first | (first | (rintro _ rfl; exact ⟨_, rfl, by decide, by decide⟩) | (intro ts h; (repeat (obtain ⟨_, _, rfl, _, h⟩ := h)); (try cases h); exact Nat.le_of_ble_eq_true rfl) | (intro ts h; (repeat (obtain ⟨_, _, rfl, _, h⟩ := h)); (try cases h); exact ⟨List.cons_ne_nil _ _, Nat.le_of_ble_eq_true rfl⟩) | (rintro _ _ rfl rfl; exact ⟨_, _, rfl, rfl⟩)) | (rintro _ _ ⟨_, _, rfl, _, _, _, rfl, _, _, _, rfl, _, rfl⟩ rfl; exact ⟨1, _, rfl, rfl⟩) | (rintro _ _ ⟨_, rfl, _, _, rfl, _, rfl⟩ ⟨m, ks, em, rfl, ln, gs⟩; refine ⟨_, _, rfl, rfl, ?_⟩; have em2 := T.int.inj em; rw [encs_len]; show 1 + _ ≤ _; omega) | (exact mk) | (exact lb2) | (exact lb3) | (exact lb) | (exact db) | omega | (show (0 : Nat) + d ≤ 100; omega) | (rintro _ _ rfl ⟨_, _, ⟨⟩, _, _, rfl⟩; exact ⟨_, _, rfl, rfl⟩) | (rintro _ ⟨_, j, ⟨⟩, ⟨_, _, ⟨⟩, q0, q1, ⟨⟩⟩, rfl⟩; exact ⟨(2 + j).toNat, by rw [Int.toNat_of_nonneg (by omega)], by omega⟩) | (rintro _ rfl; exact ⟨1, rfl, by decide⟩) | (rintro _ rfl; exact ⟨2, rfl, by decide⟩) | (rintro _ rfl; exact ⟨3, rfl, by decide⟩))
      rintro _ v H3 ⟨_, _, ⟨_, ⟨⟩, _, _, rfl, ⟨_, k2, ⟨_, _, rfl, rfl, _, _, rfl, rfl, _, _, rfl, rfl, rfl⟩, ek, eu⟩, rfl⟩, ⟨m, ks, em, ⟨⟩, ln, gs⟩, rfl⟩ r3 dv
      have em2 := T.int.inj em
      have ek2 : k2 = 1 := by
        have := T.int.inj ek
        omega
      subst ek2
      cases eu
      rcases ks with _ | ⟨x0, _ | ⟨x1, _ | ⟨x2, rr⟩⟩⟩
      · exfalso; have z : (0 : Nat) = m := ln; omega
      · exfalso; have z : (1 : Nat) = m := ln; omega
      · exact out_t q (.mk false "or" [] [x0, x1] []) (.andor (by decide) (gs x0 (by simp)).1 (gs x1 (by simp)).1) (by show 1 + hts [x0, x1] ≤ _; have := hts_le fun k h => (gs k h).2; omega) (r2.trans r3) dv
      · exfalso; have z : rr.length + 3 = m := ln; omega
    · try dsimp only [L2.tRet, L2.tRetN, tAndV, tOrV, tNotV, tCB, L2.tCons, L2.tNil, tC, tVar, L2.tOp, L2.tUn, tSeq, tAsg, gName, tIfS, tTest, tNext, tAnd, tOr, tNot, L2.tIf, tFld, sFld, sFldAug, tCall, tTup, tB, tAug, tDrop, L2.tSl, tPart, tNoPart, tBM, tBM0, tChain, gTup, gCons, gNil, tPar, tIs, List.set, L2.start, iTup, L2.iList, L2.iRng1, tUn, tLst, tTest, gSub, tCall, L2.tIf, tCB, rRep, List.set, List.cons_append, List.nil_append, cxOf]
      refine' Exists.intro _ ⟨?_, by assumption, ?_⟩
      rotate_left 1
      · (repeat' (first | rfl | exact Dat.int _ | exact Dat.bl _ | (refine (?_ : Dat _ _ _ _); assumption) | (refine (?_ : LD _ _ _ _); assumption) | (refine (?_ : _ ≠ _); assumption) | refine' Exists.intro _ ?_ | refine And.intro ?_ ?_))
        all_goals (first | (first | (rintro _ rfl; exact ⟨_, rfl, by decide, by decide⟩) | (intro ts h; (repeat (obtain ⟨_, _, rfl, _, h⟩ := h)); (try cases h); exact Nat.le_of_ble_eq_true rfl) | (intro ts h; (repeat (obtain ⟨_, _, rfl, _, h⟩ := h)); (try cases h); exact ⟨List.cons_ne_nil _ _, Nat.le_of_ble_eq_true rfl⟩) | (rintro _ _ rfl rfl; exact ⟨_, _, rfl, rfl⟩)) | (rintro _ _ ⟨_, _, rfl, _, _, _, rfl, _, _, _, rfl, _, rfl⟩ rfl; exact ⟨2, _, rfl, rfl⟩) | (rintro _ _ ⟨_, rfl, _, _, rfl, _, rfl⟩ ⟨m, ks, em, rfl, ln, gs⟩; refine ⟨_, _, rfl, rfl, ?_⟩; have em2 := T.int.inj em; rw [encs_len]; show 1 + _ ≤ _; omega) | (exact mk) | (exact lb2) | (exact lb3) | (exact lb) | (exact db) | omega | (show (0 : Nat) + d ≤ 100; omega) | (rintro _ _ rfl ⟨_, _, ⟨⟩, _, _, rfl⟩; exact ⟨_, _, rfl, rfl⟩) | (rintro _ ⟨_, j, ⟨⟩, ⟨_, _, ⟨⟩, q0, q1, ⟨⟩⟩, rfl⟩; exact ⟨(2 + j).toNat, by rw [Int.toNat_of_nonneg (by omega)], by omega⟩) | (rintro _ rfl; exact ⟨1, rfl, by decide⟩) | (rintro _ rfl; exact ⟨2, rfl, by decide⟩) | (rintro _ rfl; exact ⟨3, rfl, by decide⟩))
      rintro _ v H3 ⟨_, _, ⟨_, ⟨⟩, _, _, rfl, ⟨_, k2, ⟨_, _, rfl, rfl, _, _, rfl, rfl, _, _, rfl, rfl, rfl⟩, ek, eu⟩, rfl⟩, ⟨m, ks, em, ⟨⟩, ln, gs⟩, rfl⟩ r3 dv
      have em2 := T.int.inj em
      have ek2 : k2 = 2 := by
        have := T.int.inj ek
        omega
      subst ek2
      cases eu
      rcases ks with _ | ⟨x0, _ | ⟨x1, _ | ⟨x2, rr⟩⟩⟩
      · exfalso; have z : (0 : Nat) = m := ln; omega
      · exfalso; have z : (1 : Nat) = m := ln; omega
      · exact out_t q (.mk false "and" [] [x0, x1] []) (.andor (by decide) (gs x0 (by simp)).1 (gs x1 (by simp)).1) (by show 1 + hts [x0, x1] ≤ _; have := hts_le fun k h => (gs k h).2; omega) (r2.trans r3) dv
      · exfalso; have z : rr.length + 3 = m := ln; omega
  refine if_no (decide_eq_false c8) ?_
  try dsimp only [L2.tRet, L2.tRetN, tAndV, tOrV, tNotV, tCB, L2.tCons, L2.tNil, tC, tVar, L2.tOp, L2.tUn, tSeq, tAsg, gName, tIfS, tTest, tNext, tAnd, tOr, tNot, L2.tIf, tFld, sFld, sFldAug, tCall, tTup, tB, tAug, tDrop, L2.tSl, tPart, tNoPart, tBM, tBM0, tChain, gTup, gCons, gNil, tPar, tIs, List.set, L2.start, iTup, L2.iList, L2.iRng1, tUn, tLst, tTest, gSub, tCall, L2.tIf, tCB, rRep, List.set, List.cons_append, List.nil_append, cxOf]
  refine ⟨_, rfl, rfl, _, rfl, ?_⟩
  by_cases k8 : k = 8
  · subst k8
    refine if_yes (decide_eq_true rfl) ?_
    try dsimp only [L2.tRet, L2.tRetN, tAndV, tOrV, tNotV, tCB, L2.tCons, L2.tNil, tC, tVar, L2.tOp, L2.tUn, tSeq, tAsg, gName, tIfS, tTest, tNext, tAnd, tOr, tNot, L2.tIf, tFld, sFld, sFldAug, tCall, tTup, tB, tAug, tDrop, L2.tSl, tPart, tNoPart, tBM, tBM0, tChain, gTup, gCons, gNil, tPar, tIs, List.set, L2.start, iTup, L2.iList, L2.iRng1, tUn, tLst, tTest, gSub, tCall, L2.tIf, tCB, rRep, List.set, List.cons_append, List.nil_append, cxOf]
    refine' Exists.intro _ ⟨?_, by assumption, ?_⟩
    rotate_left 1
    · (repeat' (first | rfl | exact Dat.int _ | exact Dat.bl _ | (refine (?_ : Dat _ _ _ _); assumption) | (refine (?_ : LD _ _ _ _); assumption) | (refine (?_ : _ ≠ _); assumption) | refine' Exists.intro _ ?_ | refine And.intro ?_ ?_))
      all_goals (first | (first | (rintro _ rfl; exact ⟨_, rfl, by decide, by decide⟩) | (intro ts h; (repeat (obtain ⟨_, _, rfl, _, h⟩ := h)); (try cases h); exact Nat.le_of_ble_eq_true rfl) | (intro ts h; (repeat (obtain ⟨_, _, rfl, _, h⟩ := h)); (try cases h); exact ⟨List.cons_ne_nil _ _, Nat.le_of_ble_eq_true rfl⟩) | (rintro _ _ rfl rfl; exact ⟨_, _, rfl, rfl⟩)) | (rintro _ _ ⟨_, rfl, _, _, rfl, _, rfl⟩ ⟨m, ks, em, rfl, ln, gs⟩; refine ⟨_, _, rfl, rfl, ?_⟩; have em2 := T.int.inj em; rw [encs_len]; show 1 + _ ≤ _; omega) | (exact mk) | (exact lb2) | (exact lb3) | (exact lb) | (exact db) | omega | (show (0 : Nat) + d ≤ 100; omega) | (rintro _ _ rfl ⟨_, _, ⟨⟩, _, _, rfl⟩; exact ⟨_, _, rfl, rfl⟩) | (rintro _ ⟨_, j, ⟨⟩, ⟨_, _, ⟨⟩, q0, q1, ⟨⟩⟩, rfl⟩; exact ⟨(2 + j).toNat, by rw [Int.toNat_of_nonneg (by omega)], by omega⟩) | (rintro _ rfl; exact ⟨1, rfl, by decide⟩) | (rintro _ rfl; exact ⟨2, rfl, by decide⟩) | (rintro _ rfl; exact ⟨3, rfl, by decide⟩))
    rintro _ v H3 ⟨_, _, ⟨_, ⟨⟩, _, _, rfl, rfl, rfl⟩, ⟨m, ks, em, ⟨⟩, ln, gs⟩, rfl⟩ r3 dv
    have em2 := T.int.inj em
    rcases ks with _ | ⟨x0, _ | ⟨x1, rr⟩⟩
    · exfalso; have z : (0 : Nat) = m := ln; omega
    · exact out_t q (.mk false "not" [] [x0] []) (.not (gs x0 (by simp)).1) (by show 1 + hts [x0] ≤ _; have := hts_le fun k h => (gs k h).2; omega) (r2.trans r3) dv
    · exfalso; have z : rr.length + 2 = m := ln; omega
  refine if_no (dn (by omega)) ?_
  try dsimp only [L2.tRet, L2.tRetN, tAndV, tOrV, tNotV, tCB, L2.tCons, L2.tNil, tC, tVar, L2.tOp, L2.tUn, tSeq, tAsg, gName, tIfS, tTest, tNext, tAnd, tOr, tNot, L2.tIf, tFld, sFld, sFldAug, tCall, tTup, tB, tAug, tDrop, L2.tSl, tPart, tNoPart, tBM, tBM0, tChain, gTup, gCons, gNil, tPar, tIs, List.set, L2.start, iTup, L2.iList, L2.iRng1, tUn, tLst, tTest, gSub, tCall, L2.tIf, tCB, rRep, List.set, List.cons_append, List.nil_append, cxOf]
  refine ⟨_, rfl, rfl, _, rfl, ?_⟩
  by_cases k9 : k = 9
  · subst k9
    refine if_yes (decide_eq_true rfl) ?_
    try dsimp only [L2.tRet, L2.tRetN, tAndV, tOrV, tNotV, tCB, L2.tCons, L2.tNil, tC, tVar, L2.tOp, L2.tUn, tSeq, tAsg, gName, tIfS, tTest, tNext, tAnd, tOr, tNot, L2.tIf, tFld, sFld, sFldAug, tCall, tTup, tB, tAug, tDrop, L2.tSl, tPart, tNoPart, tBM, tBM0, tChain, gTup, gCons, gNil, tPar, tIs, List.set, L2.start, iTup, L2.iList, L2.iRng1, tUn, tLst, tTest, gSub, tCall, L2.tIf, tCB, rRep, List.set, List.cons_append, List.nil_append, cxOf]
    refine' Exists.intro _ ⟨?_, by assumption, ?_⟩
    rotate_left 1
    · (repeat' (first | rfl | exact Dat.int _ | exact Dat.bl _ | (refine (?_ : Dat _ _ _ _); assumption) | (refine (?_ : LD _ _ _ _); assumption) | (refine (?_ : _ ≠ _); assumption) | refine' Exists.intro _ ?_ | refine And.intro ?_ ?_))
      all_goals (first | (first | (rintro _ rfl; exact ⟨_, rfl, by decide, by decide⟩) | (intro ts h; (repeat (obtain ⟨_, _, rfl, _, h⟩ := h)); (try cases h); exact Nat.le_of_ble_eq_true rfl) | (intro ts h; (repeat (obtain ⟨_, _, rfl, _, h⟩ := h)); (try cases h); exact ⟨List.cons_ne_nil _ _, Nat.le_of_ble_eq_true rfl⟩) | (rintro _ _ rfl rfl; exact ⟨_, _, rfl, rfl⟩)) | (exact mk) | (exact lb2) | (exact lb3) | (exact lb) | (exact db) | omega | (show (0 : Nat) + d ≤ 100; omega) | (rintro _ _ rfl ⟨_, _, ⟨⟩, _, _, rfl⟩; exact ⟨_, _, rfl, rfl⟩) | (rintro _ ⟨_, j, ⟨⟩, ⟨_, _, ⟨⟩, q0, q1, ⟨⟩⟩, rfl⟩; exact ⟨(2 + j).toNat, by rw [Int.toNat_of_nonneg (by omega)], by omega⟩) | (rintro _ rfl; exact ⟨1, rfl, by decide⟩) | (rintro _ rfl; exact ⟨2, rfl, by decide⟩) | (rintro _ rfl; exact ⟨3, rfl, by decide⟩))
    rintro _ v6 H3 ⟨m, ks, em, rfl, ln, gs⟩ r3 d6
    have em2 := T.int.inj em
    rcases ks with _ | ⟨x0, _ | ⟨x1, _ | ⟨x2, _ | ⟨x3, rr⟩⟩⟩⟩
    · exfalso; have z : (0 : Nat) = m := ln; omega
    · exfalso; have z : (1 : Nat) = m := ln; omega
    · exfalso; have z : (2 : Nat) = m := ln; omega
    · have sr3 := r3.sr
      try dsimp only [L2.tRet, L2.tRetN, tAndV, tOrV, tNotV, tCB, L2.tCons, L2.tNil, tC, tVar, L2.tOp, L2.tUn, tSeq, tAsg, gName, tIfS, tTest, tNext, tAnd, tOr, tNot, L2.tIf, tFld, sFld, sFldAug, tCall, tTup, tB, tAug, tDrop, L2.tSl, tPart, tNoPart, tBM, tBM0, tChain, gTup, gCons, gNil, tPar, tIs, List.set, L2.start, iTup, L2.iList, L2.iRng1, tUn, tLst, tTest, gSub, tCall, L2.tIf, tCB, rRep, List.set, List.cons_append, List.nil_append, cxOf]
      refine' Exists.intro _ ⟨?_, by assumption, ?_⟩
      rotate_left 1
      · (repeat' (first | rfl | exact Dat.int _ | exact Dat.bl _ | (refine (?_ : Dat _ _ _ _); assumption) | (refine (?_ : LD _ _ _ _); assumption) | (refine (?_ : _ ≠ _); assumption) | refine' Exists.intro _ ?_ | refine And.intro ?_ ?_))
        all_goals (first | (first | (rintro _ rfl; exact ⟨_, rfl, by decide, by decide⟩) | (intro ts h; (repeat (obtain ⟨_, _, rfl, _, h⟩ := h)); (try cases h); exact Nat.le_of_ble_eq_true rfl) | (intro ts h; (repeat (obtain ⟨_, _, rfl, _, h⟩ := h)); (try cases h); exact ⟨List.cons_ne_nil _ _, Nat.le_of_ble_eq_true rfl⟩) | (rintro _ _ rfl rfl; exact ⟨_, _, rfl, rfl⟩)) | (rintro _ rfl; exact ⟨_, _, rfl, rfl⟩) | (rintro _ _ ⟨_, _, rfl, _, _, _, rfl, _, rfl⟩ ⟨_, j, ⟨⟩, q0, q1, rfl⟩; obtain rfl | rfl : j = 0 ∨ j = 1 := (by omega); exact ⟨0, _, rfl, rfl⟩; exact ⟨1, _, rfl, rfl⟩))
      rintro _ v H4 ⟨_, rfl, _, _, rfl, rfl, _, _, rfl, ⟨_, ⟨⟩, e0⟩, _, _, rfl, ⟨_, ⟨⟩, e1⟩, _, _, rfl, ⟨_, k2, ⟨_, _, rfl, ⟨_, ⟨⟩, e2⟩, _, _, rfl, rfl, rfl⟩, ⟨_, r, ⟨⟩, q0, q1, ek⟩, eu⟩, rfl⟩ r4 dv
      cases e0
      cases e1
      cases e2
      have ek2 := T.int.inj ek
      obtain rfl | rfl : k2 = 0 ∨ k2 = 1 := by omega
      · cases eu
        exact out_t q (.mk false "if" [] [x0, x1, x2] []) (.ife (gs x0 (by simp)).1 (gs x1 (by simp)).1 (gs x2 (by simp)).1) (by show 1 + hts [x0, x1, x2] ≤ _; have := hts_le fun k h => (gs k h).2; omega) ((r2.trans r3).trans r4) dv
      · cases eu
        exact out_t q (.mk false "if" [] [x0, x1] [.non]) (.if1 (gs x0 (by simp)).1 (gs x1 (by simp)).1) (by show 1 + hts [x0, x1] ≤ _; have := hts_le (ks := [x0, x1]) (n := 2 * d + 1) (all_two (gs x0 (by simp)).2 (gs x1 (by simp)).2); omega) ((r2.trans r3).trans r4) dv
    · exfalso; have z : rr.length + 4 = m := ln; omega
  refine if_no (dn (by omega)) ?_
  try dsimp only [L2.tRet, L2.tRetN, tAndV, tOrV, tNotV, tCB, L2.tCons, L2.tNil, tC, tVar, L2.tOp, L2.tUn, tSeq, tAsg, gName, tIfS, tTest, tNext, tAnd, tOr, tNot, L2.tIf, tFld, sFld, sFldAug, tCall, tTup, tB, tAug, tDrop, L2.tSl, tPart, tNoPart, tBM, tBM0, tChain, gTup, gCons, gNil, tPar, tIs, List.set, L2.start, iTup, L2.iList, L2.iRng1, tUn, tLst, tTest, gSub, tCall, L2.tIf, tCB, rRep, List.set, List.cons_append, List.nil_append, cxOf]
  refine ⟨_, rfl, _, _, rfl, rfl, _, rfl, ?_⟩
  by_cases c12 : (k : Int) < 12
  · refine if_yes (decide_eq_true c12) ?_
    try dsimp only [L2.tRet, L2.tRetN, tAndV, tOrV, tNotV, tCB, L2.tCons, L2.tNil, tC, tVar, L2.tOp, L2.tUn, tSeq, tAsg, gName, tIfS, tTest, tNext, tAnd, tOr, tNot, L2.tIf, tFld, sFld, sFldAug, tCall, tTup, tB, tAug, tDrop, L2.tSl, tPart, tNoPart, tBM, tBM0, tChain, gTup, gCons, gNil, tPar, tIs, List.set, L2.start, iTup, L2.iList, L2.iRng1, tUn, tLst, tTest, gSub, tCall, L2.tIf, tCB, rRep, List.set, List.cons_append, List.nil_append, cxOf]
    refine' Exists.intro _ ⟨?_, by assumption, ?_⟩
    rotate_left 1
    · (repeat' (first | rfl | exact Dat.int _ | exact Dat.bl _ | (refine (?_ : Dat _ _ _ _); assumption) | (refine (?_ : LD _ _ _ _); assumption) | (refine (?_ : _ ≠ _); assumption) | refine' Exists.intro _ ?_ | refine And.intro ?_ ?_))
      all_goals (first | (first | (rintro _ rfl; exact ⟨_, rfl, by decide, by decide⟩) | (intro ts h; (repeat (obtain ⟨_, _, rfl, _, h⟩ := h)); (try cases h); exact Nat.le_of_ble_eq_true rfl) | (intro ts h; (repeat (obtain ⟨_, _, rfl, _, h⟩ := h)); (try cases h); exact ⟨List.cons_ne_nil _ _, Nat.le_of_ble_eq_true rfl⟩) | (rintro _ _ rfl rfl; exact ⟨_, _, rfl, rfl⟩)) | (exact mk) | (exact lb2) | (exact lb3) | (exact lb) | (exact db) | omega | (show (0 : Nat) + d ≤ 100; omega) | (rintro _ _ rfl ⟨_, _, ⟨⟩, _, _, rfl⟩; exact ⟨_, _, rfl, rfl⟩) | (rintro _ ⟨_, j, ⟨⟩, ⟨_, _, ⟨⟩, q0, q1, ⟨⟩⟩, rfl⟩; exact ⟨(2 + j).toNat, by rw [Int.toNat_of_nonneg (by omega)], by omega⟩) | (rintro _ rfl; exact ⟨1, rfl, by decide⟩) | (rintro _ rfl; exact ⟨2, rfl, by decide⟩) | (rintro _ rfl; exact ⟨3, rfl, by decide⟩))
    rintro _ v7 H3 ⟨tr1, rfl, g1⟩ r3 d7
    have sr3 := r3.sr
    have ld3 := ld2.dr r3 nk
    try dsimp only [L2.tRet, L2.tRetN, tAndV, tOrV, tNotV, tCB, L2.tCons, L2.tNil, tC, tVar, L2.tOp, L2.tUn, tSeq, tAsg, gName, tIfS, tTest, tNext, tAnd, tOr, tNot, L2.tIf, tFld, sFld, sFldAug, tCall, tTup, tB, tAug, tDrop, L2.tSl, tPart, tNoPart, tBM, tBM0, tChain, gTup, gCons, gNil, tPar, tIs, List.set, L2.start, iTup, L2.iList, L2.iRng1, tUn, tLst, tTest, gSub, tCall, L2.tIf, tCB, rRep, List.set, List.cons_append, List.nil_append, cxOf]
    refine' Exists.intro _ ⟨?_, by assumption, ?_⟩
    rotate_left 1
    · (repeat' (first | rfl | exact Dat.int _ | exact Dat.bl _ | (refine (?_ : Dat _ _ _ _); assumption) | (refine (?_ : LD _ _ _ _); assumption) | (refine (?_ : _ ≠ _); assumption) | refine' Exists.intro _ ?_ | refine And.intro ?_ ?_))
      all_goals (first | (first | (rintro _ rfl; exact ⟨_, rfl, by decide, by decide⟩) | (intro ts h; (repeat (obtain ⟨_, _, rfl, _, h⟩ := h)); (try cases h); exact Nat.le_of_ble_eq_true rfl) | (intro ts h; (repeat (obtain ⟨_, _, rfl, _, h⟩ := h)); (try cases h); exact ⟨List.cons_ne_nil _ _, Nat.le_of_ble_eq_true rfl⟩) | (rintro _ _ rfl rfl; exact ⟨_, _, rfl, rfl⟩)))
    rintro _ vt H4 ⟨_, r, ⟨⟩, q0, q1, rfl⟩ r4 dt
    cases dat_int dt
    have sr4 := r4.sr
    have ld4 := ld3.dr r4 nk
    have d74 := d7.up r4.st
    refine ⟨_, _, rfl, rfl, _, rfl, ?_⟩
    by_cases cr : r > 0
    · refine if_yes (decide_eq_true cr) ?_
      try dsimp only [L2.tRet, L2.tRetN, tAndV, tOrV, tNotV, tCB, L2.tCons, L2.tNil, tC, tVar, L2.tOp, L2.tUn, tSeq, tAsg, gName, tIfS, tTest, tNext, tAnd, tOr, tNot, L2.tIf, tFld, sFld, sFldAug, tCall, tTup, tB, tAug, tDrop, L2.tSl, tPart, tNoPart, tBM, tBM0, tChain, gTup, gCons, gNil, tPar, tIs, List.set, L2.start, iTup, L2.iList, L2.iRng1, tUn, tLst, tTest, gSub, tCall, L2.tIf, tCB, rRep, List.set, List.cons_append, List.nil_append, cxOf]
      refine' Exists.intro _ ⟨?_, by assumption, ?_⟩
      rotate_left 1
      · (repeat' (first | rfl | exact Dat.int _ | exact Dat.bl _ | (refine (?_ : Dat _ _ _ _); assumption) | (refine (?_ : LD _ _ _ _); assumption) | (refine (?_ : _ ≠ _); assumption) | refine' Exists.intro _ ?_ | refine And.intro ?_ ?_))
        all_goals (first | (first | (rintro _ rfl; exact ⟨_, rfl, by decide, by decide⟩) | (intro ts h; (repeat (obtain ⟨_, _, rfl, _, h⟩ := h)); (try cases h); exact Nat.le_of_ble_eq_true rfl) | (intro ts h; (repeat (obtain ⟨_, _, rfl, _, h⟩ := h)); (try cases h); exact ⟨List.cons_ne_nil _ _, Nat.le_of_ble_eq_true rfl⟩) | (rintro _ _ rfl rfl; exact ⟨_, _, rfl, rfl⟩)) | (exact mk) | (exact lb2) | (exact lb3) | (exact lb) | (exact db) | omega | (show (0 : Nat) + d ≤ 100; omega) | (rintro _ _ rfl ⟨_, _, ⟨⟩, _, _, rfl⟩; exact ⟨_, _, rfl, rfl⟩) | (rintro _ ⟨_, j, ⟨⟩, ⟨_, _, ⟨⟩, q0, q1, ⟨⟩⟩, rfl⟩; exact ⟨(2 + j).toNat, by rw [Int.toNat_of_nonneg (by omega)], by omega⟩) | (rintro _ rfl; exact ⟨1, rfl, by decide⟩) | (rintro _ rfl; exact ⟨2, rfl, by decide⟩) | (rintro _ rfl; exact ⟨3, rfl, by decide⟩))
      rintro _ v7 H5 ⟨_, rfl, _, _, rfl, rfl, _, _, rfl, ⟨_, rfl, _, _, rfl, rfl, _, _, rfl, ⟨_, rfl, _, _, rfl, rfl, _, _, rfl, ⟨_, ⟨_, _, rfl, rfl, _, _, rfl, rfl, rfl⟩, mc⟩, rfl⟩, rfl⟩, rfl⟩ r5 d75
      obtain ⟨c, cm, rfl⟩ := mem_strs (zs := ["a", "e"]) mc
      have cm0 : c ∈ C0 := (by decide : ∀ c ∈ (["a", "e"] : List Str), c ∈ C0) c cm
      have sr5 := r5.sr
      have ld5 := ld4.dr r5 nk
      try dsimp only [L2.tRet, L2.tRetN, tAndV, tOrV, tNotV, tCB, L2.tCons, L2.tNil, tC, tVar, L2.tOp, L2.tUn, tSeq, tAsg, gName, tIfS, tTest, tNext, tAnd, tOr, tNot, L2.tIf, tFld, sFld, sFldAug, tCall, tTup, tB, tAug, tDrop, L2.tSl, tPart, tNoPart, tBM, tBM0, tChain, gTup, gCons, gNil, tPar, tIs, List.set, L2.start, iTup, L2.iList, L2.iRng1, tUn, tLst, tTest, gSub, tCall, L2.tIf, tCB, rRep, List.set, List.cons_append, List.nil_append, cxOf]
      refine' Exists.intro _ ⟨?_, by assumption, ?_⟩
      rotate_left 1
      · (repeat' (first | rfl | exact Dat.int _ | exact Dat.bl _ | (refine (?_ : Dat _ _ _ _); assumption) | (refine (?_ : LD _ _ _ _); assumption) | (refine (?_ : _ ≠ _); assumption) | refine' Exists.intro _ ?_ | refine And.intro ?_ ?_))
        all_goals (first | (first | (rintro _ rfl; exact ⟨_, rfl, by decide, by decide⟩) | (intro ts h; (repeat (obtain ⟨_, _, rfl, _, h⟩ := h)); (try cases h); exact Nat.le_of_ble_eq_true rfl) | (intro ts h; (repeat (obtain ⟨_, _, rfl, _, h⟩ := h)); (try cases h); exact ⟨List.cons_ne_nil _ _, Nat.le_of_ble_eq_true rfl⟩) | (rintro _ _ rfl rfl; exact ⟨_, _, rfl, rfl⟩)) | (exact mk) | (exact lb2) | (exact lb3) | (exact lb) | (exact db) | omega | (show (0 : Nat) + d ≤ 100; omega) | (rintro _ _ rfl ⟨_, _, ⟨⟩, _, _, rfl⟩; exact ⟨_, _, rfl, rfl⟩) | (rintro _ ⟨_, j, ⟨⟩, ⟨_, _, ⟨⟩, q0, q1, ⟨⟩⟩, rfl⟩; exact ⟨(2 + j).toNat, by rw [Int.toNat_of_nonneg (by omega)], by omega⟩) | (rintro _ rfl; exact ⟨1, rfl, by decide⟩) | (rintro _ rfl; exact ⟨2, rfl, by decide⟩) | (rintro _ rfl; exact ⟨3, rfl, by decide⟩))
      rintro _ v8 H6 ⟨tr2, rfl, g2⟩ r6 d8
      have sr6 := r6.sr
      have d76 := d75.up r6.st
      try dsimp only [L2.tRet, L2.tRetN, tAndV, tOrV, tNotV, tCB, L2.tCons, L2.tNil, tC, tVar, L2.tOp, L2.tUn, tSeq, tAsg, gName, tIfS, tTest, tNext, tAnd, tOr, tNot, L2.tIf, tFld, sFld, sFldAug, tCall, tTup, tB, tAug, tDrop, L2.tSl, tPart, tNoPart, tBM, tBM0, tChain, gTup, gCons, gNil, tPar, tIs, List.set, L2.start, iTup, L2.iList, L2.iRng1, tUn, tLst, tTest, gSub, tCall, L2.tIf, tCB, rRep, List.set, List.cons_append, List.nil_append, cxOf]
      refine' Exists.intro _ ⟨?_, by assumption, ?_⟩
      rotate_left 1
      · (repeat' (first | rfl | exact Dat.int _ | exact Dat.bl _ | (refine (?_ : Dat _ _ _ _); assumption) | (refine (?_ : LD _ _ _ _); assumption) | (refine (?_ : _ ≠ _); assumption) | refine' Exists.intro _ ?_ | refine And.intro ?_ ?_))
        all_goals (first | (first | (rintro _ rfl; exact ⟨_, rfl, by decide, by decide⟩) | (intro ts h; (repeat (obtain ⟨_, _, rfl, _, h⟩ := h)); (try cases h); exact Nat.le_of_ble_eq_true rfl) | (intro ts h; (repeat (obtain ⟨_, _, rfl, _, h⟩ := h)); (try cases h); exact ⟨List.cons_ne_nil _ _, Nat.le_of_ble_eq_true rfl⟩) | (rintro _ _ rfl rfl; exact ⟨_, _, rfl, rfl⟩)) | (exact mk) | (exact lb2) | (exact lb3) | (exact lb) | (exact db) | omega | (show (0 : Nat) + d ≤ 100; omega) | (rintro _ _ rfl ⟨_, _, ⟨⟩, _, _, rfl⟩; exact ⟨_, _, rfl, rfl⟩) | (rintro _ ⟨_, j, ⟨⟩, ⟨_, _, ⟨⟩, q0, q1, ⟨⟩⟩, rfl⟩; exact ⟨(2 + j).toNat, by rw [Int.toNat_of_nonneg (by omega)], by omega⟩) | (rintro _ rfl; exact ⟨1, rfl, by decide⟩) | (rintro _ rfl; exact ⟨2, rfl, by decide⟩) | (rintro _ rfl; exact ⟨3, rfl, by decide⟩))
      rintro _ v H7 ⟨_, rfl, _, _, rfl, ⟨_, ⟨_, _, rfl, rfl, _, _, rfl, rfl, rfl⟩, mw⟩, _, _, rfl, rfl, _, _, rfl, rfl, rfl⟩ r7 dv
      obtain ⟨ww, wm, rfl⟩ := mem_strs (zs := ["while", "until"]) mw
      have wo : ww = "while" ∨ ww = "until" := by
        rcases List.mem_cons.mp wm with e | e
        · exact .inl e
        · exact .inr (List.mem_singleton.mp e)
      exact out_t q (.mk false ww [] [(.mk true "seq" [] [tr1, .mk false "run" [.str c] [] []] []), tr2] []) (.whl wo (.seq ⟨by simp, by simp⟩ (all_two g1.1 (.run cm0))) g2.1) (by show 1 + max (ht ((.mk true "seq" [] [tr1, .mk false "run" [.str c] [] []] []))) (max (ht tr2) 0) ≤ _; have h1 : ht ((.mk true "seq" [] [tr1, .mk false "run" [.str c] [] []] [])) ≤ 2 * d + 2 := (by show 1 + max (ht tr1) (max 1 0) ≤ _; have := g1.2; omega); have := g2.2; omega) (((((r2.trans r3).trans r4).trans r5).trans r6).trans r7) dv
    · refine if_no (decide_eq_false cr) ?_
      try dsimp only [L2.tRet, L2.tRetN, tAndV, tOrV, tNotV, tCB, L2.tCons, L2.tNil, tC, tVar, L2.tOp, L2.tUn, tSeq, tAsg, gName, tIfS, tTest, tNext, tAnd, tOr, tNot, L2.tIf, tFld, sFld, sFldAug, tCall, tTup, tB, tAug, tDrop, L2.tSl, tPart, tNoPart, tBM, tBM0, tChain, gTup, gCons, gNil, tPar, tIs, List.set, L2.start, iTup, L2.iList, L2.iRng1, tUn, tLst, tTest, gSub, tCall, L2.tIf, tCB, rRep, List.set, List.cons_append, List.nil_append, cxOf]
      refine' Exists.intro _ ⟨?_, by assumption, ?_⟩
      rotate_left 1
      · (repeat' (first | rfl | exact Dat.int _ | exact Dat.bl _ | (refine (?_ : Dat _ _ _ _); assumption) | (refine (?_ : LD _ _ _ _); assumption) | (refine (?_ : _ ≠ _); assumption) | refine' Exists.intro _ ?_ | refine And.intro ?_ ?_))
        all_goals (first | (first | (rintro _ rfl; exact ⟨_, rfl, by decide, by decide⟩) | (intro ts h; (repeat (obtain ⟨_, _, rfl, _, h⟩ := h)); (try cases h); exact Nat.le_of_ble_eq_true rfl) | (intro ts h; (repeat (obtain ⟨_, _, rfl, _, h⟩ := h)); (try cases h); exact ⟨List.cons_ne_nil _ _, Nat.le_of_ble_eq_true rfl⟩) | (rintro _ _ rfl rfl; exact ⟨_, _, rfl, rfl⟩)) | (exact mk) | (exact lb2) | (exact lb3) | (exact lb) | (exact db) | omega | (show (0 : Nat) + d ≤ 100; omega) | (rintro _ _ rfl ⟨_, _, ⟨⟩, _, _, rfl⟩; exact ⟨_, _, rfl, rfl⟩) | (rintro _ ⟨_, j, ⟨⟩, ⟨_, _, ⟨⟩, q0, q1, ⟨⟩⟩, rfl⟩; exact ⟨(2 + j).toNat, by rw [Int.toNat_of_nonneg (by omega)], by omega⟩) | (rintro _ rfl; exact ⟨1, rfl, by decide⟩) | (rintro _ rfl; exact ⟨2, rfl, by decide⟩) | (rintro _ rfl; exact ⟨3, rfl, by decide⟩))
      rintro _ v8 H6 ⟨tr2, rfl, g2⟩ r6 d8
      have sr6 := r6.sr
      have d76 := d74.up r6.st
      try dsimp only [L2.tRet, L2.tRetN, tAndV, tOrV, tNotV, tCB, L2.tCons, L2.tNil, tC, tVar, L2.tOp, L2.tUn, tSeq, tAsg, gName, tIfS, tTest, tNext, tAnd, tOr, tNot, L2.tIf, tFld, sFld, sFldAug, tCall, tTup, tB, tAug, tDrop, L2.tSl, tPart, tNoPart, tBM, tBM0, tChain, gTup, gCons, gNil, tPar, tIs, List.set, L2.start, iTup, L2.iList, L2.iRng1, tUn, tLst, tTest, gSub, tCall, L2.tIf, tCB, rRep, List.set, List.cons_append, List.nil_append, cxOf]
      refine' Exists.intro _ ⟨?_, by assumption, ?_⟩
      rotate_left 1
      · (repeat' (first | rfl | exact Dat.int _ | exact Dat.bl _ | (refine (?_ : Dat _ _ _ _); assumption) | (refine (?_ : LD _ _ _ _); assumption) | (refine (?_ : _ ≠ _); assumption) | refine' Exists.intro _ ?_ | refine And.intro ?_ ?_))
        all_goals (first | (first | (rintro _ rfl; exact ⟨_, rfl, by decide, by decide⟩) | (intro ts h; (repeat (obtain ⟨_, _, rfl, _, h⟩ := h)); (try cases h); exact Nat.le_of_ble_eq_true rfl) | (intro ts h; (repeat (obtain ⟨_, _, rfl, _, h⟩ := h)); (try cases h); exact ⟨List.cons_ne_nil _ _, Nat.le_of_ble_eq_true rfl⟩) | (rintro _ _ rfl rfl; exact ⟨_, _, rfl, rfl⟩)) | (exact mk) | (exact lb2) | (exact lb3) | (exact lb) | (exact db) | omega | (show (0 : Nat) + d ≤ 100; omega) | (rintro _ _ rfl ⟨_, _, ⟨⟩, _, _, rfl⟩; exact ⟨_, _, rfl, rfl⟩) | (rintro _ ⟨_, j, ⟨⟩, ⟨_, _, ⟨⟩, q0, q1, ⟨⟩⟩, rfl⟩; exact ⟨(2 + j).toNat, by rw [Int.toNat_of_nonneg (by omega)], by omega⟩) | (rintro _ rfl; exact ⟨1, rfl, by decide⟩) | (rintro _ rfl; exact ⟨2, rfl, by decide⟩) | (rintro _ rfl; exact ⟨3, rfl, by decide⟩))
      rintro _ v H7 ⟨_, rfl, _, _, rfl, ⟨_, ⟨_, _, rfl, rfl, _, _, rfl, rfl, rfl⟩, mw⟩, _, _, rfl, rfl, _, _, rfl, rfl, rfl⟩ r7 dv
      obtain ⟨ww, wm, rfl⟩ := mem_strs (zs := ["while", "until"]) mw
      have wo : ww = "while" ∨ ww = "until" := by
        rcases List.mem_cons.mp wm with e | e
        · exact .inl e
        · exact .inr (List.mem_singleton.mp e)
      exact out_t q (.mk false ww [] [tr1, tr2] []) (.whl wo (g1.1) g2.1) (by show 1 + max (ht (tr1)) (max (ht tr2) 0) ≤ _; have h1 : ht (tr1) ≤ 2 * d + 2 := (by have := g1.2; omega); have := g2.2; omega) ((((r2.trans r3).trans r4).trans r6).trans r7) dv
  refine if_no (decide_eq_false c12) ?_
  try dsimp only [L2.tRet, L2.tRetN, tAndV, tOrV, tNotV, tCB, L2.tCons, L2.tNil, tC, tVar, L2.tOp, L2.tUn, tSeq, tAsg, gName, tIfS, tTest, tNext, tAnd, tOr, tNot, L2.tIf, tFld, sFld, sFldAug, tCall, tTup, tB, tAug, tDrop, L2.tSl, tPart, tNoPart, tBM, tBM0, tChain, gTup, gCons, gNil, tPar, tIs, List.set, L2.start, iTup, L2.iList, L2.iRng1, tUn, tLst, tTest, gSub, tCall, L2.tIf, tCB, rRep, List.set, List.cons_append, List.nil_append, cxOf]
  refine ⟨_, rfl, rfl, _, rfl, ?_⟩
  by_cases k12 : k = 12
  · subst k12
    refine if_yes (decide_eq_true rfl) ?_
    try dsimp only [L2.tRet, L2.tRetN, tAndV, tOrV, tNotV, tCB, L2.tCons, L2.tNil, tC, tVar, L2.tOp, L2.tUn, tSeq, tAsg, gName, tIfS, tTest, tNext, tAnd, tOr, tNot, L2.tIf, tFld, sFld, sFldAug, tCall, tTup, tB, tAug, tDrop, L2.tSl, tPart, tNoPart, tBM, tBM0, tChain, gTup, gCons, gNil, tPar, tIs, List.set, L2.start, iTup, L2.iList, L2.iRng1, tUn, tLst, tTest, gSub, tCall, L2.tIf, tCB, rRep, List.set, List.cons_append, List.nil_append, cxOf]
    refine' Exists.intro _ ⟨?_, by assumption, ?_⟩
    rotate_left 1
    · (repeat' (first | rfl | exact Dat.int _ | exact Dat.bl _ | (refine (?_ : Dat _ _ _ _); assumption) | (refine (?_ : LD _ _ _ _); assumption) | (refine (?_ : _ ≠ _); assumption) | refine' Exists.intro _ ?_ | refine And.intro ?_ ?_))
      all_goals (first | (first | (rintro _ rfl; exact ⟨_, rfl, by decide, by decide⟩) | (intro ts h; (repeat (obtain ⟨_, _, rfl, _, h⟩ := h)); (try cases h); exact Nat.le_of_ble_eq_true rfl) | (intro ts h; (repeat (obtain ⟨_, _, rfl, _, h⟩ := h)); (try cases h); exact ⟨List.cons_ne_nil _ _, Nat.le_of_ble_eq_true rfl⟩) | (rintro _ _ rfl rfl; exact ⟨_, _, rfl, rfl⟩)) | (exact mk) | (exact lb2) | (exact lb3) | (exact lb) | (exact db) | omega | (show (0 : Nat) + d ≤ 100; omega) | (rintro _ _ rfl ⟨_, _, ⟨⟩, _, _, rfl⟩; exact ⟨_, _, rfl, rfl⟩) | (rintro _ ⟨_, j, ⟨⟩, ⟨_, _, ⟨⟩, q0, q1, ⟨⟩⟩, rfl⟩; exact ⟨(2 + j).toNat, by rw [Int.toNat_of_nonneg (by omega)], by omega⟩) | (rintro _ rfl; exact ⟨1, rfl, by decide⟩) | (rintro _ rfl; exact ⟨2, rfl, by decide⟩) | (rintro _ rfl; exact ⟨3, rfl, by decide⟩))
    rintro _ v H3 ⟨_, rfl, _, _, rfl, rfl, _, _, rfl, ⟨_, n, ⟨⟩, n0, n1, rfl⟩, _, _, rfl, ⟨tr, rfl, g⟩, rfl⟩ r3 dv
    exact out_t q (.mk false "times" [.int n] [tr] []) (.times n0 (by omega) g.1) (by show 1 + hts [tr] ≤ _; have := hts_le (all_one (p := fun k => ht k ≤ 2 * d + 1) g.2); omega) (r2.trans r3) dv
  refine if_no (dn (by omega)) ?_
  try dsimp only [L2.tRet, L2.tRetN, tAndV, tOrV, tNotV, tCB, L2.tCons, L2.tNil, tC, tVar, L2.tOp, L2.tUn, tSeq, tAsg, gName, tIfS, tTest, tNext, tAnd, tOr, tNot, L2.tIf, tFld, sFld, sFldAug, tCall, tTup, tB, tAug, tDrop, L2.tSl, tPart, tNoPart, tBM, tBM0, tChain, gTup, gCons, gNil, tPar, tIs, List.set, L2.start, iTup, L2.iList, L2.iRng1, tUn, tLst, tTest, gSub, tCall, L2.tIf, tCB, rRep, List.set, List.cons_append, List.nil_append, cxOf]
  refine ⟨_, rfl, rfl, _, rfl, ?_⟩
  by_cases k13 : k = 13
  · subst k13
    refine if_yes (decide_eq_true rfl) ?_
    try dsimp only [L2.tRet, L2.tRetN, tAndV, tOrV, tNotV, tCB, L2.tCons, L2.tNil, tC, tVar, L2.tOp, L2.tUn, tSeq, tAsg, gName, tIfS, tTest, tNext, tAnd, tOr, tNot, L2.tIf, tFld, sFld, sFldAug, tCall, tTup, tB, tAug, tDrop, L2.tSl, tPart, tNoPart, tBM, tBM0, tChain, gTup, gCons, gNil, tPar, tIs, List.set, L2.start, iTup, L2.iList, L2.iRng1, tUn, tLst, tTest, gSub, tCall, L2.tIf, tCB, rRep, List.set, List.cons_append, List.nil_append, cxOf]
    refine' Exists.intro _ ⟨?_, by assumption, ?_⟩
    rotate_left 1
    · (repeat' (first | rfl | exact Dat.int _ | exact Dat.bl _ | (refine (?_ : Dat _ _ _ _); assumption) | (refine (?_ : LD _ _ _ _); assumption) | (refine (?_ : _ ≠ _); assumption) | refine' Exists.intro _ ?_ | refine And.intro ?_ ?_))
      all_goals (first | (first | (rintro _ rfl; exact ⟨_, rfl, by decide, by decide⟩) | (intro ts h; (repeat (obtain ⟨_, _, rfl, _, h⟩ := h)); (try cases h); exact Nat.le_of_ble_eq_true rfl) | (intro ts h; (repeat (obtain ⟨_, _, rfl, _, h⟩ := h)); (try cases h); exact ⟨List.cons_ne_nil _ _, Nat.le_of_ble_eq_true rfl⟩) | (rintro _ _ rfl rfl; exact ⟨_, _, rfl, rfl⟩)) | (rintro _ ks ⟨_, _, rfl, rfl, rfl, ek⟩; cases map_str ek; exact ⟨rfl, mk, _, rfl, by omega, by omega⟩) | (rintro _ rfl; exact ⟨_, rfl⟩))
    rintro _ a6 H3 ⟨_, ks, ⟨_, _, rfl, rfl, rfl, ek⟩, ⟨tr, rfl, g⟩⟩ r3 na6 ld6
    cases map_str ek
    have sr3 := r3.sr
    have g2 : ht tr ≤ 2 * d + 1 := by have := g.2; omega
    try dsimp only [L2.tRet, L2.tRetN, tAndV, tOrV, tNotV, tCB, L2.tCons, L2.tNil, tC, tVar, L2.tOp, L2.tUn, tSeq, tAsg, gName, tIfS, tTest, tNext, tAnd, tOr, tNot, L2.tIf, tFld, sFld, sFldAug, tCall, tTup, tB, tAug, tDrop, L2.tSl, tPart, tNoPart, tBM, tBM0, tChain, gTup, gCons, gNil, tPar, tIs, List.set, L2.start, iTup, L2.iList, L2.iRng1, tUn, tLst, tTest, gSub, tCall, L2.tIf, tCB, rRep, List.set, List.cons_append, List.nil_append, cxOf]
    refine' Exists.intro _ ⟨?_, by assumption, ?_⟩
    rotate_left 1
    · (repeat' (first | rfl | exact Dat.int _ | exact Dat.bl _ | (refine (?_ : Dat _ _ _ _); assumption) | (refine (?_ : LD _ _ _ _); assumption) | (refine (?_ : _ ≠ _); assumption) | refine' Exists.intro _ ?_ | refine And.intro ?_ ?_))
      all_goals (first | (first | (rintro _ rfl; exact ⟨_, rfl, by decide, by decide⟩) | (intro ts h; (repeat (obtain ⟨_, _, rfl, _, h⟩ := h)); (try cases h); exact Nat.le_of_ble_eq_true rfl) | (intro ts h; (repeat (obtain ⟨_, _, rfl, _, h⟩ := h)); (try cases h); exact ⟨List.cons_ne_nil _ _, Nat.le_of_ble_eq_true rfl⟩) | (rintro _ _ rfl rfl; exact ⟨_, _, rfl, rfl⟩)) | (rintro _ rfl; exact ⟨List.cons_ne_nil _ _, Nat.le_of_ble_eq_true rfl⟩) | (exact mk) | (exact lb2) | (exact lb3) | (exact lb) | (exact db) | omega | (show (0 : Nat) + d ≤ 100; omega) | (rintro _ _ rfl ⟨_, _, ⟨⟩, _, _, rfl⟩; exact ⟨_, _, rfl, rfl⟩) | (rintro _ ⟨_, j, ⟨⟩, ⟨_, _, ⟨⟩, q0, q1, ⟨⟩⟩, rfl⟩; exact ⟨(2 + j).toNat, by rw [Int.toNat_of_nonneg (by omega)], by omega⟩) | (rintro _ rfl; exact ⟨1, rfl, by decide⟩) | (rintro _ rfl; exact ⟨2, rfl, by decide⟩) | (rintro _ rfl; exact ⟨3, rfl, by decide⟩))
    rintro _ v H4 ⟨_, rfl, _, _, rfl, rfl, _, _, rfl, ⟨_, ⟨_, _, rfl, rfl, _, _, rfl, rfl, rfl⟩, mw⟩, _, _, rfl, ⟨_, rfl, m2⟩, rfl⟩ r4 dv
    obtain ⟨wt, wm, rfl⟩ := mem_strs (zs := ["end", "fail"]) mw
    have wo : wt = "end" ∨ wt = "fail" := by
      rcases List.mem_cons.mp wm with e | e
      · exact .inl e
      · exact .inr (List.mem_singleton.mp e)
    have hz : Okt C0 W0 3 2 known false 0 (.mk false "run" [.str "z"] [] []) := .run (by decide)
    rcases List.mem_cons.mp m2 with rfl | m2
    · exact out_t q (.mk false "trap" [.str wt] [tr] []) (.trap wo g.1) (by show 1 + hts [tr] ≤ _; have := hts_le (all_one (p := fun k => ht k ≤ 2 * d + 1) g2); omega) ((r2.trans r3).trans r4) dv
    rcases List.mem_cons.mp m2 with rfl | m2
    · exact out_t q (.mk false "trap" [.str wt] [.mk false "run" [.str "z"] [] []] []) (.trap wo hz) (by show 2 ≤ _; omega) ((r2.trans r3).trans r4) dv
    rcases List.mem_cons.mp m2 with rfl | m2
    · exact out_t q (.mk false "trap" [.str wt] [.mk false "run" [.str "z"] [] []] []) (.trap wo hz) (by show 2 ≤ _; omega) ((r2.trans r3).trans r4) dv
    rcases List.mem_cons.mp m2 with rfl | m2
    · exact out_t q (.mk false "trap" [.str wt] [] [.non]) (.trap0 wo) (by show 1 ≤ _; omega) ((r2.trans r3).trans r4) dv
    cases m2
  refine if_no (dn (by omega)) ?_
  try dsimp only [L2.tRet, L2.tRetN, tAndV, tOrV, tNotV, tCB, L2.tCons, L2.tNil, tC, tVar, L2.tOp, L2.tUn, tSeq, tAsg, gName, tIfS, tTest, tNext, tAnd, tOr, tNot, L2.tIf, tFld, sFld, sFldAug, tCall, tTup, tB, tAug, tDrop, L2.tSl, tPart, tNoPart, tBM, tBM0, tChain, gTup, gCons, gNil, tPar, tIs, List.set, L2.start, iTup, L2.iList, L2.iRng1, tUn, tLst, tTest, gSub, tCall, L2.tIf, tCB, rRep, List.set, List.cons_append, List.nil_append, cxOf]
  refine ⟨_, rfl, rfl, _, rfl, ?_⟩
  by_cases k14 : k = 14
  · subst k14
    refine if_yes (decide_eq_true rfl) ?_
    try dsimp only [L2.tRet, L2.tRetN, tAndV, tOrV, tNotV, tCB, L2.tCons, L2.tNil, tC, tVar, L2.tOp, L2.tUn, tSeq, tAsg, gName, tIfS, tTest, tNext, tAnd, tOr, tNot, L2.tIf, tFld, sFld, sFldAug, tCall, tTup, tB, tAug, tDrop, L2.tSl, tPart, tNoPart, tBM, tBM0, tChain, gTup, gCons, gNil, tPar, tIs, List.set, L2.start, iTup, L2.iList, L2.iRng1, tUn, tLst, tTest, gSub, tCall, L2.tIf, tCB, rRep, List.set, List.cons_append, List.nil_append, cxOf]
    refine' Exists.intro _ ⟨?_, by assumption, ?_⟩
    rotate_left 1
    · (repeat' (first | rfl | exact Dat.int _ | exact Dat.bl _ | (refine (?_ : Dat _ _ _ _); assumption) | (refine (?_ : LD _ _ _ _); assumption) | (refine (?_ : _ ≠ _); assumption) | refine' Exists.intro _ ?_ | refine And.intro ?_ ?_))
      all_goals (first | (first | (rintro _ rfl; exact ⟨_, rfl, by decide, by decide⟩) | (intro ts h; (repeat (obtain ⟨_, _, rfl, _, h⟩ := h)); (try cases h); exact Nat.le_of_ble_eq_true rfl) | (intro ts h; (repeat (obtain ⟨_, _, rfl, _, h⟩ := h)); (try cases h); exact ⟨List.cons_ne_nil _ _, Nat.le_of_ble_eq_true rfl⟩) | (rintro _ _ rfl rfl; exact ⟨_, _, rfl, rfl⟩)) | (exact mk) | (exact lb2) | (exact lb3) | (exact lb) | (exact db) | omega | (show (0 : Nat) + d ≤ 100; omega) | (rintro _ _ rfl ⟨_, _, ⟨⟩, _, _, rfl⟩; exact ⟨_, _, rfl, rfl⟩) | (rintro _ ⟨_, j, ⟨⟩, ⟨_, _, ⟨⟩, q0, q1, ⟨⟩⟩, rfl⟩; exact ⟨(2 + j).toNat, by rw [Int.toNat_of_nonneg (by omega)], by omega⟩) | (rintro _ rfl; exact ⟨1, rfl, by decide⟩) | (rintro _ rfl; exact ⟨2, rfl, by decide⟩) | (rintro _ rfl; exact ⟨3, rfl, by decide⟩))
    rintro _ v H3 ⟨_, rfl, _, _, rfl, rfl, _, _, rfl, ⟨tr, rfl, g⟩, rfl⟩ r3 dv
    exact out_t q (.mk false "sub" [] [tr] []) (.sub g.1) (by show 1 + hts [tr] ≤ _; have := hts_le (all_one (p := fun k => ht k ≤ 2 * d + 1) g.2); omega) (r2.trans r3) dv
  refine if_no (dn (by omega)) ?_
  try dsimp only [L2.tRet, L2.tRetN, tAndV, tOrV, tNotV, tCB, L2.tCons, L2.tNil, tC, tVar, L2.tOp, L2.tUn, tSeq, tAsg, gName, tIfS, tTest, tNext, tAnd, tOr, tNot, L2.tIf, tFld, sFld, sFldAug, tCall, tTup, tB, tAug, tDrop, L2.tSl, tPart, tNoPart, tBM, tBM0, tChain, gTup, gCons, gNil, tPar, tIs, List.set, L2.start, iTup, L2.iList, L2.iRng1, tUn, tLst, tTest, gSub, tCall, L2.tIf, tCB, rRep, List.set, List.cons_append, List.nil_append, cxOf]
  refine' Exists.intro _ ⟨?_, by assumption, ?_⟩
  rotate_left 1
  · (repeat' (first | rfl | exact Dat.int _ | exact Dat.bl _ | (refine (?_ : Dat _ _ _ _); assumption) | (refine (?_ : LD _ _ _ _); assumption) | (refine (?_ : _ ≠ _); assumption) | refine' Exists.intro _ ?_ | refine And.intro ?_ ?_))
    all_goals (first | (first | (rintro _ rfl; exact ⟨_, rfl, by decide, by decide⟩) | (intro ts h; (repeat (obtain ⟨_, _, rfl, _, h⟩ := h)); (try cases h); exact Nat.le_of_ble_eq_true rfl) | (intro ts h; (repeat (obtain ⟨_, _, rfl, _, h⟩ := h)); (try cases h); exact ⟨List.cons_ne_nil _ _, Nat.le_of_ble_eq_true rfl⟩) | (rintro _ _ rfl rfl; exact ⟨_, _, rfl, rfl⟩)) | (exact mk) | (exact lb2) | (exact lb3) | (exact lb) | (exact db) | omega | (show (0 : Nat) + d ≤ 100; omega) | (rintro _ _ rfl ⟨_, _, ⟨⟩, _, _, rfl⟩; exact ⟨_, _, rfl, rfl⟩) | (rintro _ ⟨_, j, ⟨⟩, ⟨_, _, ⟨⟩, q0, q1, ⟨⟩⟩, rfl⟩; exact ⟨(2 + j).toNat, by rw [Int.toNat_of_nonneg (by omega)], by omega⟩) | (rintro _ rfl; exact ⟨1, rfl, by decide⟩) | (rintro _ rfl; exact ⟨2, rfl, by decide⟩) | (rintro _ rfl; exact ⟨3, rfl, by decide⟩))
  rintro _ v H3 ⟨_, rfl, _, _, rfl, rfl, _, _, rfl, ⟨m, ks, ⟨_, j, ⟨⟩, ⟨_, _, ⟨⟩, q0, q1, ⟨⟩⟩, em⟩, rfl, ln, gs⟩, rfl⟩ r3 dv
  have em2 := T.int.inj em
  exact out_t q (.mk true "pipe" [] ks []) (.pipe ⟨by omega, by omega⟩ fun k h => (gs k h).1) (by show 1 + hts ks ≤ _; have := hts_le fun k h => (gs k h).2; omega) (r2.trans r3) dv
end
end Ck

/-! The check of a program that is drawn. -/
namespace Ck
open PySem
abbrev Rows := List (Str × Tr)
def encF (r : Str × Tr) : T := .tup [.str r.1, enc r.2]
def encP (rows : Rows) (m : Tr) : T := .tup [.tup (rows.map encF), enc m]
def grown : List (Str × Int) → Rows → List (Str × Int)
  | fs, [] => fs
  | fs, r :: rs => grown (fs ++ [(r.1, unf fs r.2)]) rs
def NN (fs : List (Str × Int)) : Prop := ∀ p ∈ fs, 0 ≤ p.2
def RowsOk (C W : List Str) (N M : Int) : List (Str × Int) → Rows → Prop
  | _, [] => True
  | fs, r :: rs => nameOk r.1 = true ∧ fs.lookup r.1 = none ∧ Okt C W N M (fs.map (·.1)) true 0 r.2 ∧ unf fs r.2 ≤ 3000 ∧ ht r.2 ≤ 30 ∧ RowsOk C W N M (fs ++ [(r.1, unf fs r.2)]) rs
def tot : Rows → Nat
  | [] => 0
  | r :: rs => cnt r.2 + tot rs
def cmr : Rows → List Str
  | [] => []
  | r :: rs => cms r.2 ++ cmr rs
def vrr : Rows → List Str
  | [] => []
  | r :: rs => vrs r.2 ++ vrr rs
theorem look_some {f : Str} : ∀ {fs : List (Str × Int)}, f ∈ fs.map (·.1) → NN fs → ∃ v, fs.lookup f = some v ∧ 0 ≤ v
  | [], h, _ => by cases h
  | p :: fs, h, n => by
    by_cases e : f = p.1
    · refine ⟨p.2, ?_, n p List.mem_cons_self⟩
      rw [List.lookup_cons, e]
      simp
    · have h2 : f ∈ fs.map (·.1) := by
        rcases List.mem_cons.mp h with z | z
        · exact absurd z e
        · exact z
      obtain ⟨v, e2, v0⟩ := look_some h2 fun q m => n q (List.mem_cons_of_mem _ m)
      refine ⟨v, ?_, v0⟩
      rw [List.lookup_cons]
      have z : (f == p.1) = false := by simpa using e
      rw [z]
      exact e2
theorem NN.fns {fs : List (Str × Int)} (n : NN fs) : Fns (fs.map (·.1)) fs := fun f h => look_some h n
theorem NN.snoc {fs : List (Str × Int)} (n : NN fs) {z : Str} {i : Int} (h : 0 ≤ i) : NN (fs ++ [(z, i)]) := fun p m => by
  rcases List.mem_append.mp m with m | m
  · exact n p m
  · rw [List.mem_singleton] at m
    rw [m]
    exact h
section
variable {C W : List Str} {N M : Int}
theorem all_tree (Cd : CondW C W N M) {known : List Str} {i : Bool} {t : Tr} {S : CS} {p : Int} (ok : Okt C W N M known i 0 t) (h : ht t ≤ 58) (lo : S.loops = 0) (re : S.rets = i) (F : Fns known S.fns) (pl : S.places = []) (tr : S.trees + cnt t ≤ 3000) :
    all 59 S [enc t] p 0 = .ok (unf S.fns t, S.plus (cnt t : Nat) (cms t) (vrs t)) := by
  rw [all_eq]
  have z := many_ok (n := 59) [t] S p 0 (all_one ok) (all_one (says_ok Cd ok)) (by show max (ht t) 0 ≤ 60; omega) lo re F (by rw [pl]; rfl) tr
  have e1 : cmss [t] = cms t := List.append_nil _
  have e2 : vrss [t] = vrs t := List.append_nil _
  have e3 : (0 : Int) + unfs S.fns [t] = unf S.fns t := by
    show 0 + (unf S.fns t + 0) = _
    omega
  rw [e1, e2, e3] at z
  exact z
def CS.with (S : CS) (fs : List (Str × Int)) : CS := { S with fns := fs }
theorem with_plus (S : CS) (fs : List (Str × Int)) (n : Int) (c v : List Str) : (S.plus n c v).with fs = (S.with fs).plus n c v := rfl
theorem entries_ok (Cd : CondW C W N M) : ∀ (rows : Rows) (S : CS) (k : Int), RowsOk C W N M S.fns rows → NN S.fns → S.loops = 0 → S.rets = true → S.places = [] → S.trees + tot rows ≤ 3000 →
    entries S (rows.map encF) k = .ok ((S.with (grown S.fns rows)).plus (tot rows : Nat) (cmr rows) (vrr rows)) ∧ NN (grown S.fns rows)
  | [], S, k, _, n, _, _, _, _ => by
    refine ⟨?_, n⟩
    show entries S [] k = .ok ((S.with S.fns).plus 0 [] [])
    rw [entries_nil, plus_zero]
    rfl
  | r :: rs, S, k, ok, n, lo, re, pl, tr => by
    obtain ⟨o1, o2, o3, o4, o5, o6⟩ := ok
    have tr2 : S.trees + ((cnt r.2 + tot rs : Nat) : Int) ≤ 3000 := tr
    have pos := Okt.pos n.fns o3
    have a := all_tree (p := k) Cd o3 (by omega) lo re n.fns pl (by omega)
    have ih := entries_ok Cd rs ((S.plus (cnt r.2 : Nat) (cms r.2) (vrs r.2)).with (S.fns ++ [(r.1, unf S.fns r.2)])) (k + 1) o6 (n.snoc (by omega)) lo re pl (by show S.trees + (cnt r.2 : Nat) + (tot rs : Nat) ≤ 3000; omega)
    refine ⟨?_, ih.2⟩
    show entries S (.tup [.str r.1, enc r.2] :: rs.map encF) k = _
    rw [entries_yes o1 o2, a]
    dsimp only
    rw [if_neg (by omega)]
    refine Eq.trans ih.1 ?_
    show Except.ok ((((S.with (grown (S.fns ++ [(r.1, unf S.fns r.2)]) rs)).plus (cnt r.2 : Nat) (cms r.2) (vrs r.2))).plus (tot rs : Nat) (cmr rs) (vrr rs)) = _
    rw [plus_plus, ← Int.natCast_add]
    rfl
/-! ### few variables -/
theorem add1_sub {W ns : List Str} {z : Str} (h : ∀ x ∈ ns, x ∈ W) (m : z ∈ W) : ∀ x ∈ add1 ns z, x ∈ W := by
  unfold add1
  split
  · exact h
  · intro x hx
    rcases List.mem_append.mp hx with q | q
    · exact h x q
    · rw [List.mem_singleton] at q
      exact q ▸ m
theorem add1_nd {ns : List Str} {z : Str} (h : ns.Nodup) : (add1 ns z).Nodup := by
  unfold add1
  split
  · exact h
  · rename_i c
    rw [List.nodup_append]
    refine ⟨h, by simp, fun a ha b hb e => c ?_⟩
    rw [List.mem_singleton] at hb
    rw [← hb, ← e]
    simpa using ha
theorem adds_sub {W : List Str} : ∀ {zs ns : List Str}, (∀ x ∈ ns, x ∈ W) → (∀ x ∈ zs, x ∈ W) → ∀ x ∈ adds ns zs, x ∈ W
  | [], _, h, _ => h
  | z :: zs, ns, h, g => adds_sub (zs := zs) (ns := add1 ns z) (add1_sub h (g z List.mem_cons_self)) fun x m => g x (List.mem_cons_of_mem _ m)
theorem adds_nd : ∀ {zs ns : List Str}, ns.Nodup → (adds ns zs).Nodup
  | [], _, h => h
  | z :: zs, ns, h => adds_nd (zs := zs) (ns := add1 ns z) (add1_nd h)
theorem nd_len : ∀ {ns W : List Str}, ns.Nodup → (∀ x ∈ ns, x ∈ W) → ns.length ≤ W.length
  | [], W, _, _ => Nat.zero_le _
  | n :: ns, W, d, h => by
    have d2 := List.nodup_cons.mp d
    have m : n ∈ W := h n List.mem_cons_self
    have r := nd_len (ns := ns) (W := W.erase n) d2.2 fun x hx => (List.mem_erase_of_ne (fun e => d2.1 (by rw [← e]; exact hx))).mpr (h x (List.mem_cons_of_mem _ hx))
    rw [List.length_erase_of_mem m] at r
    have z : 0 < W.length := List.length_pos_of_mem m
    show ns.length + 1 ≤ _
    omega
theorem mem_add1 {ns : List Str} {z x : Str} : x ∈ add1 ns z ↔ x ∈ ns ∨ x = z := by
  unfold add1
  split
  · rename_i c
    have c2 : z ∈ ns := by simpa using c
    exact ⟨.inl, fun h => h.elim id fun e => by rw [e]; exact c2⟩
  · rw [List.mem_append, List.mem_singleton]
theorem mem_adds {x : Str} : ∀ {zs ns : List Str}, x ∈ adds ns zs ↔ x ∈ ns ∨ x ∈ zs
  | [], ns => ⟨.inl, fun h => h.elim id fun e => (by cases e)⟩
  | z :: zs, ns => by
    show x ∈ adds (add1 ns z) zs ↔ _
    rw [mem_adds (zs := zs), mem_add1, List.mem_cons]
    exact or_assoc
/-- names stand among those that may be drawn -/
theorem Okt.names {known : List Str} {i : Bool} {l : Nat} {t : Tr} (h : Okt C W N M known i l t) : (∀ x ∈ cms t, x ∈ C) ∧ ∀ x ∈ vrs t, x ∈ W := by
  have none : ∀ {A : List Str}, ∀ x ∈ ([] : List Str), x ∈ A := fun x m => by cases m
  have many : ∀ {ks : List Tr}, (∀ k ∈ ks, (∀ x ∈ cms k, x ∈ C) ∧ ∀ x ∈ vrs k, x ∈ W) → (∀ x ∈ cmss ks, x ∈ C) ∧ ∀ x ∈ vrss ks, x ∈ W := by
    intro ks
    induction ks with
    | nil => exact fun _ => ⟨none, none⟩
    | cons k ks r =>
      intro h
      have a := h k List.mem_cons_self
      have b := r fun k m => h k (List.mem_cons_of_mem _ m)
      exact ⟨fun x m => (List.mem_append.mp m).elim (a.1 x) (b.1 x), fun x m => (List.mem_append.mp m).elim (a.2 x) (b.2 x)⟩
  induction h with
  | run m => exact ⟨fun x q => (List.mem_singleton.mp q) ▸ m, none⟩
  | status _ _ => exact ⟨none, none⟩
  | var e m => rcases e with rfl | rfl | rfl <;> exact ⟨none, fun x q => (List.mem_singleton.mp q) ▸ m⟩
  | put m _ _ => exact ⟨none, fun x q => (List.mem_singleton.mp q) ▸ m⟩
  | option _ => exact ⟨none, none⟩
  | jump e _ _ => rcases e with rfl | rfl <;> exact ⟨none, none⟩
  | ret0 => exact ⟨none, none⟩
  | ret _ _ => exact ⟨none, none⟩
  | exit0 => exact ⟨none, none⟩
  | exit _ _ => exact ⟨none, none⟩
  | call m => exact ⟨none, none⟩
  | seq _ _ ih => exact many ih
  | pipe _ _ ih => exact many ih
  | andor e _ _ ia ib => rcases e with rfl | rfl <;> exact many (all_two ia ib)
  | not _ ia => exact many (all_one ia)
  | ife _ _ _ ic ia ib => exact many (all_three ic ia ib)
  | if1 _ _ ic ia => exact many (all_two ic ia)
  | whl e _ _ ic ib => rcases e with rfl | rfl <;> exact many (all_two ic ib)
  | times _ _ _ ib => exact many (all_one ib)
  | trap0 _ => exact ⟨none, none⟩
  | trap _ _ ib => exact many (all_one ib)
  | sub _ ib => exact many (all_one ib)
theorem RowsOk.names : ∀ {rows : Rows} {fs : List (Str × Int)}, RowsOk C W N M fs rows → (∀ x ∈ cmr rows, x ∈ C) ∧ ∀ x ∈ vrr rows, x ∈ W
  | [], _, _ => ⟨fun x m => (by cases m), fun x m => (by cases m)⟩
  | r :: rs, fs, ok => by
    obtain ⟨_, _, o3, _, _, o6⟩ := ok
    have a := o3.names
    have b := RowsOk.names (rows := rs) o6
    exact ⟨fun x m => (List.mem_append.mp m).elim (a.1 x) (b.1 x), fun x m => (List.mem_append.mp m).elim (a.2 x) (b.2 x)⟩
/-- a program as it may be drawn -/
structure ProgOk (C W : List Str) (N M : Int) (rows : Rows) (m : Tr) : Prop where
  cd : CondW C W N M
  few : rows.length ≤ 20
  fv : W.length ≤ 40
  fc : C.length ≤ 60
  rs : RowsOk C W N M [] rows
  mn : Okt C W N M ((grown [] rows).map (·.1)) false 0 m
  un : unf (grown [] rows) m ≤ 3000
  dp : ht m ≤ 30
  tr : tot rows + cnt m ≤ 3000
theorem finish_ok {S S' : CS} {i : Int} {m : T} (a : all 59 { S with rets := false } [m] (-1) 0 = .ok (i, S')) (c : ¬ (40 < S'.vars.length ∨ 3000 < i)) : finish m (.ok S) = .ok { S' with unf := i } := by
  unfold finish
  dsimp only
  rw [a]
  dsimp only
  rw [if_neg c]
theorem check_ok {rows : Rows} {m : Tr} (h : ProgOk C W N M rows m) : ∃ S, check (encP rows m) = .ok S ∧ S.trees = ((tot rows + cnt m : Nat) : Int) ∧ S.unf = unf (grown [] rows) m ∧ S.cmds = adds [] (cmr rows ++ cms m) ∧ S.vars = adds [] (vrr rows ++ vrs m) := by
  have tr := h.tr
  obtain ⟨e1, n1⟩ := entries_ok h.cd rows start 0 h.rs (fun p q => by cases q) rfl rfl rfl (by show (0 : Int) + (tot rows : Nat) ≤ 3000; omega)
  have a := all_tree (S := { (start.with (grown start.fns rows)).plus (tot rows : Nat) (cmr rows) (vrr rows) with rets := false }) (p := -1) h.cd h.mn (Nat.le_trans h.dp (by decide)) rfl rfl n1.fns rfl (by show (0 : Int) + (tot rows : Nat) + (cnt m : Nat) ≤ 3000; omega)
  have nm := RowsOk.names h.rs
  have nm2 := h.mn.names
  have fv : (adds [] (vrr rows ++ vrs m)).length ≤ 40 := by
    refine Nat.le_trans (nd_len (W := W) (adds_nd List.nodup_nil) (adds_sub (fun x q => by cases q) fun x q => ?_)) h.fv
    exact (List.mem_append.mp q).elim (nm.2 x) (nm2.2 x)
  have un := h.un
  unfold encP
  rw [check_tup, if_pos (by rw [List.length_map]; exact h.few), e1, finish_ok a ?no]
  case no =>
    rintro (z | z)
    · have z2 : 40 < (adds (adds [] (vrr rows)) (vrs m)).length := z
      rw [← adds_app] at z2
      omega
    · have z2 : 3000 < unf (grown [] rows) m := z
      omega
  refine ⟨_, rfl, ?_, rfl, ?_, ?_⟩
  · show (0 : Int) + (tot rows : Nat) + (cnt m : Nat) = _
    omega
  · show adds (adds [] (cmr rows)) (cms m) = _
    rw [← adds_app]
  · show adds (adds [] (vrr rows)) (vrs m) = _
    rw [← adds_app]
end
end Ck

/-! What the law counts: weights. -/
namespace L2
open PySem
theorem lcl_tup {K : PySem.W.Frag} {a : Addr} {xs : List V} {g : TG} {tt : TT} {te : TE} {vs : List Nat} {σ : St} {H1 : Hp} {Q : VK} (Pv : Addr → Nat → Hp → Prop) (h0 : ∀ D, H1 D = none → Pv D 0 (upd H1 D (.lst []))) (hl : ∀ D, H1 D = none → ∀ i H, i ≤ xs.length → Pv D i H → SqT K H a xs)
    (hs : ∀ D, H1 D = none → ∀ i x H, xs[i]? = some x → Pv D i H → g x (wipe σ vs) H fun σ2 H2 => wipe σ2 vs = wipe σ vs ∧ tt σ2 H2 fun b H3 => if b = true then te σ2 H3 fun y H4 => ∃ acc, H4 D = some (.lst acc) ∧ acc.length < sizeLine ∧ Pv D (i + 1) (upd H4 D (.lst (acc ++ [y]))) else Pv D (i + 1) H3)
    (hd : ∀ D, H1 D = none → ∀ H, Pv D xs.length H → Q (.ref D) H) : tLcL g tt te vs σ Q (Itt K a) H1 := fun D nD => lc_tup (D := D) (Pv D) (h0 D nD) (hl D nD) (hs D nD) (hd D nD)
theorem lcl_list {K : PySem.W.Frag} {a : Addr} {xs : List V} {g : TG} {tt : TT} {te : TE} {vs : List Nat} {σ : St} {H1 : Hp} {Q : VK} (Pv : Addr → Nat → Hp → Prop) (h0 : ∀ D, H1 D = none → Pv D 0 (upd H1 D (.lst []))) (hl : ∀ D, H1 D = none → ∀ i H, i ≤ xs.length → Pv D i H → SqL K H a xs)
    (hs : ∀ D, H1 D = none → ∀ i x H, xs[i]? = some x → Pv D i H → g x (wipe σ vs) H fun σ2 H2 => wipe σ2 vs = wipe σ vs ∧ tt σ2 H2 fun b H3 => if b = true then te σ2 H3 fun y H4 => ∃ acc, H4 D = some (.lst acc) ∧ acc.length < sizeLine ∧ Pv D (i + 1) (upd H4 D (.lst (acc ++ [y]))) else Pv D (i + 1) H3)
    (hd : ∀ D, H1 D = none → ∀ H, Pv D xs.length H → Q (.ref D) H) : tLcL g tt te vs σ Q (Itl K a) H1 := fun D nD => lc_list (D := D) (Pv D) (h0 D nD) (hl D nD) (hs D nD) (hd D nD)
end L2
namespace Ck
open PySem PySem.Spec PyProof.Rows L2
def isAtom : T → Bool
  | .tup _ => false
  | .odd _ => false
  | _ => true
def Any (known : List Str) (t : Tr) : Prop := ∃ C W N M i l, Okt C W N M known i l t
theorem Any.look {known : List Str} {b : Bool} {w : Str} {pre post : List T} {ks : List Tr} (h : Any known (.mk b w pre ks post)) :
    (∀ k ∈ ks, Any known k) ∧ (∀ t ∈ pre, isAtom t = true) ∧ (∀ t ∈ post, isAtom t = true) ∧ ((b = true ∧ (w = "seq" ∨ w = "pipe") ∧ pre = [] ∧ post = []) ∨ (b = false ∧ w ≠ "seq" ∧ w ≠ "pipe")) ∧ (w = "call" → ∃ f, pre = [.str f] ∧ f ∈ known ∧ b = false ∧ ks = []) ∧ (w = "times" → ∃ n, pre = [.int n] ∧ 0 ≤ n ∧ n ≤ 1000 ∧ b = false) ∧ w.length ≤ 100 ∧ pre.length + ks.length + post.length ≤ 5003 := by
  obtain ⟨C, W, N, M, i, l, o⟩ := h
  have an : ∀ {k i l}, Okt C W N M known i l k → Any known k := fun o => ⟨C, W, N, M, _, _, o⟩
  cases o with
  | run _ => exact ⟨by simp, by simp [isAtom], by simp, .inr ⟨rfl, by decide, by decide⟩, fun e => absurd e (by decide), fun e => absurd e (by decide), by decide +kernel, by simp⟩
  | status _ _ => exact ⟨by simp, by simp [isAtom], by simp, .inr ⟨rfl, by decide, by decide⟩, fun e => absurd e (by decide), fun e => absurd e (by decide), by decide +kernel, by simp⟩
  | var e _ => rcases e with rfl | rfl | rfl <;> exact ⟨by simp, by simp [isAtom], by simp, .inr ⟨rfl, by decide, by decide⟩, fun e => absurd e (by decide), fun e => absurd e (by decide), by decide +kernel, by simp⟩
  | put _ _ _ => exact ⟨by simp, by simp [isAtom], by simp, .inr ⟨rfl, by decide, by decide⟩, fun e => absurd e (by decide), fun e => absurd e (by decide), by decide +kernel, by simp⟩
  | option _ => exact ⟨by simp, by simp [isAtom], by simp, .inr ⟨rfl, by decide, by decide⟩, fun e => absurd e (by decide), fun e => absurd e (by decide), by decide +kernel, by simp⟩
  | jump e _ _ => rcases e with rfl | rfl <;> exact ⟨by simp, by simp [isAtom], by simp, .inr ⟨rfl, by decide, by decide⟩, fun e => absurd e (by decide), fun e => absurd e (by decide), by decide +kernel, by simp⟩
  | ret0 => exact ⟨by simp, by simp [isAtom], by simp, .inr ⟨rfl, by decide, by decide⟩, fun e => absurd e (by decide), fun e => absurd e (by decide), by decide +kernel, by simp⟩
  | ret _ _ => exact ⟨by simp, by simp [isAtom], by simp, .inr ⟨rfl, by decide, by decide⟩, fun e => absurd e (by decide), fun e => absurd e (by decide), by decide +kernel, by simp⟩
  | exit0 => exact ⟨by simp, by simp [isAtom], by simp, .inr ⟨rfl, by decide, by decide⟩, fun e => absurd e (by decide), fun e => absurd e (by decide), by decide +kernel, by simp⟩
  | exit _ _ => exact ⟨by simp, by simp [isAtom], by simp, .inr ⟨rfl, by decide, by decide⟩, fun e => absurd e (by decide), fun e => absurd e (by decide), by decide +kernel, by simp⟩
  | call m => exact ⟨by simp, by simp [isAtom], by simp, .inr ⟨rfl, by decide, by decide⟩, fun _ => ⟨_, rfl, m, rfl, rfl⟩, fun e => absurd e (by decide), by decide +kernel, by simp⟩
  | seq two ks => exact ⟨fun k m => an (ks k m), by simp, by simp, .inl ⟨rfl, .inl rfl, rfl, rfl⟩, fun e => absurd e (by decide), fun e => absurd e (by decide), by decide +kernel, by have := two.2; simp; omega⟩
  | pipe two ks => exact ⟨fun k m => an (ks k m), by simp, by simp, .inl ⟨rfl, .inr rfl, rfl, rfl⟩, fun e => absurd e (by decide), fun e => absurd e (by decide), by decide +kernel, by have := two.2; simp; omega⟩
  | andor e a b => rcases e with rfl | rfl <;> exact ⟨all_two (an a) (an b), by simp, by simp, .inr ⟨rfl, by decide, by decide⟩, fun e => absurd e (by decide), fun e => absurd e (by decide), by decide +kernel, by simp⟩
  | not a => exact ⟨all_one (an a), by simp, by simp, .inr ⟨rfl, by decide, by decide⟩, fun e => absurd e (by decide), fun e => absurd e (by decide), by decide +kernel, by simp⟩
  | ife c a b => exact ⟨all_three (an c) (an a) (an b), by simp, by simp, .inr ⟨rfl, by decide, by decide⟩, fun e => absurd e (by decide), fun e => absurd e (by decide), by decide +kernel, by simp⟩
  | if1 c a => exact ⟨all_two (an c) (an a), by simp, by simp [isAtom], .inr ⟨rfl, by decide, by decide⟩, fun e => absurd e (by decide), fun e => absurd e (by decide), by decide +kernel, by simp⟩
  | whl e a b => rcases e with rfl | rfl <;> exact ⟨all_two (an a) (an b), by simp, by simp, .inr ⟨rfl, by decide, by decide⟩, fun e => absurd e (by decide), fun e => absurd e (by decide), by decide +kernel, by simp⟩
  | times n0 n1 a => exact ⟨all_one (an a), by simp [isAtom], by simp, .inr ⟨rfl, by decide, by decide⟩, fun e => absurd e (by decide), fun _ => ⟨_, rfl, n0, n1, rfl⟩, by decide +kernel, by simp⟩
  | trap0 _ => exact ⟨by simp, by simp [isAtom], by simp [isAtom], .inr ⟨rfl, by decide, by decide⟩, fun e => absurd e (by decide), fun e => absurd e (by decide), by decide +kernel, by simp⟩
  | trap _ a => exact ⟨all_one (an a), by simp [isAtom], by simp, .inr ⟨rfl, by decide, by decide⟩, fun e => absurd e (by decide), fun e => absurd e (by decide), by decide +kernel, by simp⟩
  | sub a => exact ⟨all_one (an a), by simp, by simp, .inr ⟨rfl, by decide, by decide⟩, fun e => absurd e (by decide), fun e => absurd e (by decide), by decide +kernel, by simp⟩
/-- what a display holds: parts, and others -/
abbrev Its := List (T × Option Tr)
def Right (is : Its) : Prop := ∀ p ∈ is, (p.2 = none ∧ isAtom p.1 = true) ∨ ∃ k, p.2 = some k ∧ p.1 = enc k
def plain (ts : List T) : Its := ts.map fun t => (t, none)
def parted (ks : List Tr) : Its := ks.map fun k => (enc k, some k)
def kidsOf (is : Its) : List Tr := is.filterMap (·.2)
theorem fst_plain (ts : List T) : (plain ts).map (·.1) = ts := by
  unfold plain
  rw [List.map_map]
  exact List.map_id _
theorem fst_parted : ∀ ks : List Tr, (parted ks).map (·.1) = encs ks
  | [] => rfl
  | k :: ks => by
    show enc k :: (parted ks).map (·.1) = enc k :: encs ks
    rw [fst_parted ks]
theorem kids_plain : ∀ ts : List T, kidsOf (plain ts) = []
  | [] => rfl
  | t :: ts => kids_plain ts
theorem kids_parted : ∀ ks : List Tr, kidsOf (parted ks) = ks
  | [] => rfl
  | k :: ks => by
    show k :: kidsOf (parted ks) = k :: ks
    rw [kids_parted ks]
theorem kids_app (a b : Its) : kidsOf (a ++ b) = kidsOf a ++ kidsOf b := List.filterMap_append
theorem right_plain {ts : List T} (h : ∀ t ∈ ts, isAtom t = true) : Right (plain ts) := by
  intro p m
  obtain ⟨t, mt, rfl⟩ := List.mem_map.mp m
  exact .inl ⟨rfl, h t mt⟩
theorem right_parted (ks : List Tr) : Right (parted ks) := by
  intro p m
  obtain ⟨t, mt, rfl⟩ := List.mem_map.mp m
  exact .inr ⟨t, rfl, rfl⟩
theorem Right.app {a b : Its} (h : Right a) (g : Right b) : Right (a ++ b) := fun p m => (List.mem_append.mp m).elim (h p) (g p)
theorem isTu_atom {t : T} (h : isAtom t = true) : isTu t = false := by cases t <;> simp_all [isAtom, isTu]
theorem isTu_enc (t : Tr) : isTu (enc t) = true := by
  obtain ⟨ts, e⟩ := enc_tup t
  rw [e]
  rfl
end Ck

namespace Ck
open PySem PySem.Spec PyProof.Rows L2
/-- what the builtins' names hold here -/
structure Mg (mg : Str → Option Value) : Prop where
  mi : mg "isinstance" = none
  mt : mg "tuple" = none
  ms : mg "sum" = none
  mx : mg "max" = none
  mr : mg "range" = none
  ml : mg "len" = none
  ls : mg "list" = none
  so : mg "sorted" = none
  se : mg "set" = none
section
variable {X : Cx} {P : Program} {w : World} {K : PySem.W.Frag} {mg : Str → Option Value} {base : Heap} {H H1 H2 : Hp} {l : Addr}
abbrev sWei : Stmt := topS 58
abbrev NWe : List Str := ["_law_tree_here", "_law_sizes_here", "_law_parts_here", "_law_inner", "_law_part"]
abbrev PWe : List Str := ["_law_tree_here", "_law_sizes_here"]
theorem scWe : FnScope NWe PWe (defScope sWei) := ⟨rfl, rfl, rfl, by decide +kernel, rfl, by decide +kernel, by decide +kernel⟩
def spWei (K : PySem.W.Frag) : Nat → Sp
  | 0 => fun _ _ _ _ => False
  | h + 1 => fun vs H Q _ => ∃ v sd tr fs, vs = [v, .ref sd] ∧ Dat K H v (enc tr) ∧ ht tr ≤ h + 1 ∧ Any (fs.map (·.1)) tr ∧ NN fs ∧ H sd = some (.dK (ftab fs)) ∧ ∀ H', Same H H' → Q (.int (wei fs tr)) H'
abbrev GWe (P : Program) (w : World) (K : PySem.W.Frag) (mg : Str → Option Value) (base : Heap) (h : Nat) : Prop := Go P w K mg base CX0 (1 + h) "_law_weight" PWe (spWei K h)
theorem ok_wei0 {f : Addr} {fd : FuncData} (F : Fun K "_law_weight" "_law_weight" sWei f fd) : FnOk P w K mg base CX0 1 f fd PWe (spWei K 0) :=
  F.ok scWe (fun vs H Q E h => h.elim) (fun cdv A outer s H vs Q E hr h => h.elim)
/-- the weight of one part -/
def tWei (sd : Addr) (fs : List (Str × Int)) (h : Nat) (K : PySem.W.Frag) : TE := fun σ H Q => ∃ v k, σ[4]? = some (some v) ∧ σ[1]? = some (some (.ref sd)) ∧ Dat K H v (enc k) ∧ 1 ≤ h ∧ ht k ≤ h ∧ Any (fs.map (·.1)) k ∧ NN fs ∧ H sd = some (.dK (ftab fs)) ∧ ∀ H', Same H H' → Q (.int (wei fs k)) H'
theorem tWei_is {sd : Addr} {fs : List (Str × Int)} {h : Nat} {E : XK} (σ : L2.St) (H : Hp) (Q : VK) (z : tWei sd fs h K σ H Q) : tCall (spWei K h) [] E (tCons (tVar 4) (tCons (tVar 1) tNil)) σ H Q := by
  obtain ⟨v, k, s4, s1, d, h1, hk, ak, nn, hd, q⟩ := z
  cases h with
  | zero => omega
  | succ h =>
    try dsimp only [L2.tRet, L2.tRetN, tAndV, tOrV, tNotV, tCB, L2.tCons, L2.tNil, tC, tVar, L2.tOp, L2.tUn, tSeq, tAsg, gName, tIfS, tTest, tNext, tAnd, tOr, tNot, L2.tIf, tFld, sFld, sFldAug, tCall, tTup, tB, tAug, tDrop, L2.tSl, tPart, tNoPart, tBM, tBM0, tChain, gTup, gCons, gNil, tPar, tIs, List.set, L2.start, iTup, L2.iList, L2.iRng1, tUn, tLst, tTest, gSub, tCall, L2.tIf, tCB, rRep, List.set, List.cons_append, List.nil_append, cxOf]
    exact ⟨_, s4, _, s1, v, sd, k, fs, rfl, d, hk, ak, nn, hd, q⟩
theorem fst_at {is : Its} {i : Nat} {t : T} (h : (is.map (·.1))[i]? = some t) : ∃ o, is[i]? = some (t, o) := by
  rw [List.getElem?_map] at h
  cases e : is[i]? with
  | none => rw [e] at h; cases h
  | some p =>
    rw [e] at h
    obtain ⟨a, o⟩ := p
    cases h
    exact ⟨o, rfl⟩
theorem take_kids {is : Its} {i : Nat} {t : T} {o : Option Tr} (h : is[i]? = some (t, o)) : kidsOf (is.take (i + 1)) = kidsOf (is.take i) ++ o.toList := by
  rw [List.take_add_one, h, kids_app]
  cases o <;> rfl
theorem dats_at {vs : List V} {ts : List T} (d : Dats K H vs ts) {i : Nat} {x : V} (h : vs[i]? = some x) : ∃ t, ts[i]? = some t ∧ Dat K H x t := by
  have l := d.len
  have li : i < ts.length := by
    rw [← l]
    exact (List.getElem?_eq_some_iff.mp h).1
  obtain ⟨v, e, dv⟩ := d.at (List.getElem?_eq_getElem li)
  rw [h] at e
  cases e
  exact ⟨_, List.getElem?_eq_getElem li, dv⟩
theorem weis_sum (fs : List (Str × Int)) : ∀ ks : List Tr, (ks.map (wei fs)).sum = weis fs ks
  | [] => rfl
  | k :: ks => by
    rw [List.map_cons, List.sum_cons, weis_sum fs ks]
    rfl
theorem ht_kid {b : Bool} {w : Str} {pre post : List T} {ks : List Tr} {h : Nat} (e : ht (.mk b w pre ks post) ≤ h + 1) {k : Tr} (m : k ∈ ks) : ht k ≤ h := by
  have z : 1 + hts ks ≤ h + 1 := e
  have y : ∀ {ks : List Tr}, k ∈ ks → ht k ≤ hts ks := by
    intro ks
    induction ks with
    | nil => intro m; cases m
    | cons a r ih =>
      intro m
      show ht k ≤ max (ht a) (hts r)
      rcases List.mem_cons.mp m with rfl | m
      · omega
      · have := ih m
        omega
  have := y m
  omega
theorem kids_sub {is : Its} {n : Nat} {k : Tr} (m : k ∈ kidsOf (is.take n)) : k ∈ kidsOf is := by
  obtain ⟨p, mp, e⟩ := List.mem_filterMap.mp m
  exact List.mem_filterMap.mpr ⟨p, List.mem_of_mem_take mp, e⟩
theorem kid_in {is : Its} {i : Nat} {t : T} {k : Tr} (h : is[i]? = some (t, some k)) : k ∈ kidsOf is := List.mem_filterMap.mpr ⟨_, List.mem_of_getElem? h, rfl⟩
theorem sqt_up {a : Addr} {xs : List V} (h : SqT K H a xs) (s : Same H H1) : SqT K H1 a xs := by
  rcases h with (h | ⟨o, h⟩) | h
  · exact .inl (.inl (s _ _ h))
  · exact .inl (.inr ⟨o, s _ _ h⟩)
  · exact .inr h
/-- the list of the weights of all parts -/
theorem lc_wei {p sd : Addr} {xs : List V} {is : Its} {fs : List (Str × Int)} {h : Nat} {v0 v3 : Option V} {Q : VK} (r : Right is) (dx : Dats K H xs (is.map (·.1))) (hx : SqT K H p xs) (hk : ∀ k ∈ kidsOf is, 1 ≤ h ∧ ht k ≤ h ∧ Any (fs.map (·.1)) k) (nn : NN fs) (hd : H sd = some (.dK (ftab fs))) (few : xs.length ≤ 100000)
    (q : ∀ D H', Same H H' → H' D = some (.lst (((kidsOf is).map (wei fs)).map V.int)) → Q (.ref D) H') :
    tLcL (gName 4) (tTest (tIs K "tuple" (tVar 4))) (tWei sd fs h K) [4] [v0, some (.ref sd), some (.ref p), v3, none] Q (Itt K p) H := by
  refine lcl_tup (K := K) (a := p) (xs := xs) (fun D i H' => Same H H' ∧ H' D = some (.lst (((kidsOf (is.take i)).map (wei fs)).map V.int))) (fun D nD => ⟨same_new nD, upd_same⟩) (fun D nD i H' li s => ?_) ?hs ?hd
  · exact sqt_up hx s.1
  case hs =>
    rintro D nD i x H2 hxi ⟨s2, h2⟩
    obtain ⟨t, et, dt⟩ := dats_at dx hxi
    obtain ⟨o, eo⟩ := fst_at et
    try dsimp only [L2.tRet, L2.tRetN, tAndV, tOrV, tNotV, tCB, L2.tCons, L2.tNil, tC, tVar, L2.tOp, L2.tUn, tSeq, tAsg, gName, tIfS, tTest, tNext, tAnd, tOr, tNot, L2.tIf, tFld, sFld, sFldAug, tCall, tTup, tB, tAug, tDrop, L2.tSl, tPart, tNoPart, tBM, tBM0, tChain, gTup, gCons, gNil, tPar, tIs, List.set, L2.start, iTup, L2.iList, L2.iRng1, tUn, tLst, tTest, gSub, tCall, L2.tIf, tCB, rRep, List.set, List.cons_append, List.nil_append, cxOf]
    refine ⟨rfl, ?_⟩
    have dt2 := dt.up (same_stay s2)
    rcases r _ (List.mem_of_getElem? eo) with ⟨e1, e2⟩ | ⟨k, e1, e2⟩
    · dsimp only at e1 e2
      subst e1
      refine ⟨_, rfl, is_tup dt2.im ⟨_, rfl, ?_⟩⟩
      rw [isTu_atom e2]
      refine if_no rfl ⟨s2, ?_⟩
      rw [take_kids eo, Option.toList_none, List.append_nil]
      exact h2
    · dsimp only at e1 e2
      subst e1 e2
      refine ⟨_, rfl, is_tup dt2.im ⟨_, rfl, ?_⟩⟩
      rw [isTu_enc]
      refine if_yes rfl ?_
      obtain ⟨h1, h3, h4⟩ := hk k (kid_in eo)
      refine ⟨x, k, rfl, rfl, dt2, h1, h3, h4, nn, s2 _ _ hd, fun H3 s3 => ?_⟩
      refine ⟨_, s3 _ _ h2, ?_, Ck.Same.up (s2.trans s3) nD, ?_⟩
      · rw [List.length_map, List.length_map]
        have l1 : (kidsOf (is.take i)).length ≤ (is.take i).length := List.length_filterMap_le _ _
        have l2 : (is.take i).length ≤ is.length := by rw [List.length_take]; omega
        have l3 := dx.len
        rw [List.length_map] at l3
        rw [sizeLine_eq]
        omega
      · rw [upd_same, take_kids eo, Option.toList_some, List.map_append, List.map_append]
        rfl
  case hd =>
    rintro D nD H2 ⟨s2, h2⟩
    have l3 := dx.len
    rw [List.length_map] at l3
    rw [l3, List.take_length] at h2
    exact q D H2 s2 h2
end
end Ck

namespace Ck
open PySem PySem.Spec PyProof.Rows L2
section
variable {X : Cx} {P : Program} {w : World} {K : PySem.W.Frag} {mg : Str → Option Value} {base : Heap} {H H1 H2 : Hp} {l : Addr} {dR dS : Addr} {adr : Kind → Addr}
theorem cut_one {xs : List V} {x : V} : cutV (x :: xs) (some 1) none = xs := by
  unfold cutV
  have e : HT.sIx (x :: xs).length 0 (some (1 : Int)) = 1 := by
    show (if (1 : Int) < 0 then ((1 : Int) + ((xs.length + 1 : Nat) : Int)).toNat else min (1 : Int).toNat (xs.length + 1)) = 1
    rw [if_neg (by omega)]
    show min 1 (xs.length + 1) = 1
    omega
  rw [e]
  show (xs.take (xs.length + 1 - 1)) = xs
  rw [Nat.add_sub_cancel, List.take_length]
/-- the entries of a tree that is a tuple, from its word on -/
theorem enc_in {b : Bool} {w : Str} {pre post : List T} {ks : List Tr} {v : V} (hb : b = true → pre = [] ∧ post = []) (d : Dat K H v (enc (.mk b w pre ks post))) :
    ∃ a xs, v = .ref a ∧ H a = some (.tup (.str w :: xs)) ∧ (b = true → ∃ p ys, xs = [.ref p] ∧ H p = some (.tup ys) ∧ Dats K H ys ((parted ks).map (·.1))) ∧ (b = false → Dats K H xs ((plain pre ++ (parted ks ++ plain post)).map (·.1))) := by
  cases b with
  | true =>
    obtain ⟨a, xs, rfl, ha, ds⟩ := dat_tup d
    obtain ⟨v0, us, rfl, d0, ds⟩ := dats_cons ds
    obtain ⟨v1, us, rfl, d1, ds⟩ := dats_cons ds
    cases dats_nil ds
    cases dat_str d0
    obtain ⟨p, ys, rfl, hp, dy⟩ := dat_tup d1
    exact ⟨a, _, rfl, ha, fun _ => ⟨p, ys, rfl, hp, (by rw [fst_parted]; exact dy)⟩, fun e => (by cases e)⟩
  | false =>
    obtain ⟨a, xs, rfl, ha, ds⟩ := dat_tup d
    obtain ⟨v0, us, rfl, d0, ds2⟩ := dats_cons ds
    cases dat_str d0
    exact ⟨a, _, rfl, ha, fun e => (by cases e), fun _ => by rw [List.map_append, List.map_append, fst_plain, fst_parted, fst_plain]; exact ds2⟩
theorem eqV_str (x y : Str) : eqV (.str x) (.str y) = decide (y = x) := by
  show (x == y) = _
  by_cases c : y = x
  · simp [c]
  · simp [c, Ne.symm c]
theorem in_two {p : Addr} {z a b : Str} {Q : VK} (hp : H p = some (.tup [.str a, .str b])) (q : Q (.bl (decide (z = a ∨ z = b))) H) : L2.rIn K false (.str z) (.ref p) H Q := by
  refine ⟨p, _, rfl, .inr (sqt hp), rfl, rfl, ?_⟩
  have e : inV (.str z) [.str a, .str b] = decide (z = a ∨ z = b) := by
    unfold inV
    show (eqV (.str a) (.str z) || (eqV (.str b) (.str z) || false)) = _
    have e1 : ∀ x y : Str, eqV (.str x) (.str y) = decide (y = x) := eqV_str
    rw [e1, e1, Bool.or_false]
    by_cases c1 : z = a
    · simp [c1]
    · simp [c1]
  show Q (.bl (inV (.str z) [.str a, .str b])) H
  rw [e]
  exact q
theorem ok_weiS {f : Addr} {fd : FuncData} {h : Nat} (F : Fun K "_law_weight" "_law_weight" sWei f fd) (M : Mg mg) (G : GWe P w K mg base h) : FnOk P w K mg base CX0 (1 + (h + 1)) f fd PWe (spWei K (h + 1)) := by
  refine F.ok scWe (fun vs H Q E h => ?_) (fun cdv A outer s H vs Q E hr hh => ?_)
  · obtain ⟨_, _, _, _, rfl, _⟩ := h
    rfl
  obtain ⟨v, sd, tr, fs, rfl, d, hb, an, nn, hd, q⟩ := hh
  have hu := hu_of hr
  refine ⟨_, (pss_cons (ps_set (i := 2) scWe.nd rfl (.inl rfl) (pe_ifExp (pt_cmpR op_in_seq (pe_ix ix_tup (pv 0) pe_int fun _ _ => rfl) (pe_tup (pa_cons pe_str (pa_cons pe_str pa_nil))) rfl) (pe_ix ix_tup (pv 0) pe_int fun _ _ => rfl) (pe_slice sl_tup (pv 0) (po_some pe_int) po_none))) (pss_cons (ps_set (i := 3) scWe.nd rfl (.inl rfl) (pe_callB (cr_sum rfl) rfl M.ms (by decide +kernel) (pa_cons (pe_lc (te := tWei sd fs h K) (own := [("_law_part", 4)]) (g := gName 4) (tt := tTest (tIs K "tuple" (tVar 4))) rfl scWe.nd (pi_tup (pv 2)) (blkOk_by (N := NWe) (sc := defScope sWei) (by decide +kernel)) (fun _ _ _ _ _ => pg_name (i := 4) scWe.nd rfl (.inl rfl)) (fun _ _ _ _ _ => pts_one (pt_val (pe_is (n := "tuple") M.mi M.mt (by decide +kernel) rfl rfl (pv 4))))
      (fun _ _ _ _ _ => pe_imp (pe_go (E := fun _ _ _ => False) G hr pass0 rfl (pa_cons (pv 4) (pa_cons (pv 1) pa_nil))) tWei_is)) pa_nil))) (pss_cons (ps_if (pt_cmpR op_eq (pe_ix ix_tup (pv 0) pe_int fun _ _ => rfl) pe_str rfl) (pss_one (ps_ret (pe_op op_add pe_int (pe_op op_mul (pe_callB (call_max2 rfl) rfl M.mx (by decide +kernel) (pa_cons pe_int (pa_cons (pe_ix ix_tup (pv 0) pe_int fun _ _ => rfl) pa_nil))) (pv 3))))) pss_nil) (pss_one (ps_ret (pe_op op_add (pe_op op_add pe_int (pv 3)) (pe_ifExp (pt_cmpR op_eq (pe_ix ix_tup (pv 0) pe_int fun _ _ => rfl) pe_str rfl) (pe_dget hu (pv 1) (pe_ix ix_tup (pv 0) pe_int fun _ _ => rfl) fun _ _ => rfl) pe_int))))))), ?_⟩
  obtain ⟨b, w, pre, ks, post⟩ := tr
  obtain ⟨l1, l2, l3, l4, l5, l6, l7, l8⟩ := an.look
  obtain ⟨a, xs, rfl, ha, hT, hF⟩ := enc_in (fun e => by rcases l4 with ⟨_, _, z, y⟩ | ⟨z, _⟩; exact ⟨z, y⟩; rw [e] at z; cases z) d
  try dsimp only [L2.tRet, L2.tRetN, tAndV, tOrV, tNotV, tCB, L2.tCons, L2.tNil, tC, tVar, L2.tOp, L2.tUn, tSeq, tAsg, gName, tIfS, tTest, tNext, tAnd, tOr, tNot, L2.tIf, tFld, sFld, sFldAug, tCall, tTup, tB, tAug, tDrop, L2.tSl, tPart, tNoPart, tBM, tBM0, tChain, gTup, gCons, gNil, tPar, tIs, List.set, L2.start, iTup, L2.iList, L2.iRng1, tUn, tLst, tTest, gSub, tCall, L2.tIf, tCB, rRep, List.set, List.cons_append, List.nil_append, cxOf]
  refine ⟨_, rfl, a, _, _, _, rfl, rfl, sqt ha, atI_nat (j := 0) rfl, sl (by show 2 ≤ 1000000; decide), fun p np => in_two upd_same ⟨_, rfl, ?_⟩⟩
  have s1 := same_new (o := .tup [V.str "seq", V.str "pipe"]) np
  have hk : ∀ k ∈ ks, 1 ≤ h ∧ ht k ≤ h ∧ Any (fs.map (·.1)) k := fun k m => ⟨Nat.le_trans (ht_pos k) (ht_kid hb m), ht_kid hb m, l1 k m⟩
  rcases l4 with ⟨rfl, wsp, rfl, rfl⟩ | ⟨rfl, nw1, nw2⟩
  · obtain ⟨p2, ys, rfl, hp2, dy⟩ := hT rfl
    refine if_yes (decide_eq_true wsp) ?_
    try dsimp only [L2.tRet, L2.tRetN, tAndV, tOrV, tNotV, tCB, L2.tCons, L2.tNil, tC, tVar, L2.tOp, L2.tUn, tSeq, tAsg, gName, tIfS, tTest, tNext, tAnd, tOr, tNot, L2.tIf, tFld, sFld, sFldAug, tCall, tTup, tB, tAug, tDrop, L2.tSl, tPart, tNoPart, tBM, tBM0, tChain, gTup, gCons, gNil, tPar, tIs, List.set, L2.start, iTup, L2.iList, L2.iRng1, tUn, tLst, tTest, gSub, tCall, L2.tIf, tCB, rRep, List.set, List.cons_append, List.nil_append, cxOf]
    refine ⟨_, rfl, a, _, _, _, rfl, rfl, sqt (s1 _ _ ha), atI_nat (j := 1) rfl, ?_⟩
    refine lc_in ?_
    try dsimp only [L2.tRet, L2.tRetN, tAndV, tOrV, tNotV, tCB, L2.tCons, L2.tNil, tC, tVar, L2.tOp, L2.tUn, tSeq, tAsg, gName, tIfS, tTest, tNext, tAnd, tOr, tNot, L2.tIf, tFld, sFld, sFldAug, tCall, tTup, tB, tAug, tDrop, L2.tSl, tPart, tNoPart, tBM, tBM0, tChain, gTup, gCons, gNil, tPar, tIs, List.set, L2.start, iTup, L2.iList, L2.iRng1, tUn, tLst, tTest, gSub, tCall, L2.tIf, tCB, rRep, List.set, List.cons_append, List.nil_append, cxOf]
    refine ⟨_, rfl, p2, rfl, ⟨_, sqt (s1 _ _ hp2)⟩, lc_wei (is := parted ks) (right_parted ks) (dy.up (same_stay s1)) (sqt (s1 _ _ hp2)) (by rw [kids_parted]; exact hk) nn (s1 _ _ hd) (by have := dy.len; rw [List.length_map] at this; unfold parted at this; rw [List.length_map] at this; omega) fun D H4 s4 h2 => ?_⟩
    replace s4 := s1.trans s4
    refine ⟨D, (kidsOf (parted ks)).map (wei fs), rfl, .inl (.inl h2), ?_⟩
    rw [weis_sum, kids_parted]
    try dsimp only [L2.tRet, L2.tRetN, tAndV, tOrV, tNotV, tCB, L2.tCons, L2.tNil, tC, tVar, L2.tOp, L2.tUn, tSeq, tAsg, gName, tIfS, tTest, tNext, tAnd, tOr, tNot, L2.tIf, tFld, sFld, sFldAug, tCall, tTup, tB, tAug, tDrop, L2.tSl, tPart, tNoPart, tBM, tBM0, tChain, gTup, gCons, gNil, tPar, tIs, List.set, L2.start, iTup, L2.iList, L2.iRng1, tUn, tLst, tTest, gSub, tCall, L2.tIf, tCB, rRep, List.set, List.cons_append, List.nil_append, cxOf]
    have e : wei fs (.mk true w [] ks []) = 1 + weis fs ks + 0 := by rcases wsp with rfl | rfl <;> rfl
    have qq := q H4 s4
    rw [e] at qq
    refine ⟨_, rfl, a, _, _, _, rfl, rfl, sqt (s4 _ _ ha), atI_nat (j := 0) rfl, rfl, _, rfl, if_no (decide_eq_false fun e => ?_) ?_⟩
    · have e := V.str.inj e
      rcases wsp with rfl | rfl <;> exact absurd e (by decide)
    try dsimp only [L2.tRet, L2.tRetN, tAndV, tOrV, tNotV, tCB, L2.tCons, L2.tNil, tC, tVar, L2.tOp, L2.tUn, tSeq, tAsg, gName, tIfS, tTest, tNext, tAnd, tOr, tNot, L2.tIf, tFld, sFld, sFldAug, tCall, tTup, tB, tAug, tDrop, L2.tSl, tPart, tNoPart, tBM, tBM0, tChain, gTup, gCons, gNil, tPar, tIs, List.set, L2.start, iTup, L2.iList, L2.iRng1, tUn, tLst, tTest, gSub, tCall, L2.tIf, tCB, rRep, List.set, List.cons_append, List.nil_append, cxOf]
    refine ⟨_, rfl, _, _, rfl, rfl, _, rfl, a, _, _, _, rfl, rfl, sqt (s4 _ _ ha), atI_nat (j := 0) rfl, rfl, _, rfl, if_no (decide_eq_false fun e => ?_) ?_⟩
    · have e := V.str.inj e
      rcases wsp with rfl | rfl <;> exact absurd e (by decide)
    exact ⟨_, _, rfl, rfl, qq⟩
  · have dxs := hF rfl
    refine if_no (decide_eq_false (by rintro (e | e); exact nw1 e; exact nw2 e)) ?_
    try dsimp only [L2.tRet, L2.tRetN, tAndV, tOrV, tNotV, tCB, L2.tCons, L2.tNil, tC, tVar, L2.tOp, L2.tUn, tSeq, tAsg, gName, tIfS, tTest, tNext, tAnd, tOr, tNot, L2.tIf, tFld, sFld, sFldAug, tCall, tTup, tB, tAug, tDrop, L2.tSl, tPart, tNoPart, tBM, tBM0, tChain, gTup, gCons, gNil, tPar, tIs, List.set, L2.start, iTup, L2.iList, L2.iRng1, tUn, tLst, tTest, gSub, tCall, L2.tIf, tCB, rRep, List.set, List.cons_append, List.nil_append, cxOf]
    have ne : ¬ (HT.sIx (V.str w :: xs).length 0 (some (1 : Int)) = 0 ∧ HT.sIx (V.str w :: xs).length (V.str w :: xs).length none = (V.str w :: xs).length) := by
      rintro ⟨z, _⟩
      have y : HT.sIx (V.str w :: xs).length 0 (some (1 : Int)) = 1 := by
        show (if (1 : Int) < 0 then ((1 : Int) + ((xs.length + 1 : Nat) : Int)).toNat else min (1 : Int).toNat (xs.length + 1)) = 1
        rw [if_neg (by omega)]
        show min 1 (xs.length + 1) = 1
        omega
      rw [y] at z
      cases z
    refine ⟨_, rfl, 1, rfl, a, _, rfl, sqt (s1 _ _ ha), ne, fun p2 np2 => ?_⟩
    rw [cut_one]
    have s2 := s1.trans (same_new (o := .tup xs) np2)
    have hk2 : ∀ k ∈ kidsOf (plain pre ++ (parted ks ++ plain post)), 1 ≤ h ∧ ht k ≤ h ∧ Any (fs.map (·.1)) k := by
      rw [kids_app, kids_app, kids_plain, kids_plain, kids_parted, List.nil_append, List.append_nil]
      exact hk
    have lx := dxs.len
    refine lc_in ?_
    try dsimp only [L2.tRet, L2.tRetN, tAndV, tOrV, tNotV, tCB, L2.tCons, L2.tNil, tC, tVar, L2.tOp, L2.tUn, tSeq, tAsg, gName, tIfS, tTest, tNext, tAnd, tOr, tNot, L2.tIf, tFld, sFld, sFldAug, tCall, tTup, tB, tAug, tDrop, L2.tSl, tPart, tNoPart, tBM, tBM0, tChain, gTup, gCons, gNil, tPar, tIs, List.set, L2.start, iTup, L2.iList, L2.iRng1, tUn, tLst, tTest, gSub, tCall, L2.tIf, tCB, rRep, List.set, List.cons_append, List.nil_append, cxOf]
    refine ⟨_, rfl, p2, rfl, ⟨_, sqt upd_same⟩, lc_wei (is := plain pre ++ (parted ks ++ plain post)) ((right_plain l2).app ((right_parted ks).app (right_plain l3))) (dxs.up (same_stay s2)) (sqt upd_same) hk2 nn (s2 _ _ hd) ?few fun D H4 s4 h2 => ?_⟩
    case few =>
      rw [lx, List.length_map, List.length_append, List.length_append]
      unfold plain parted
      rw [List.length_map, List.length_map, List.length_map]
      omega
    replace s4 := s2.trans s4
    refine ⟨D, (kidsOf (plain pre ++ (parted ks ++ plain post))).map (wei fs), rfl, .inl (.inl h2), ?_⟩
    rw [weis_sum, kids_app, kids_app, kids_plain, kids_plain, kids_parted, List.nil_append, List.append_nil]
    try dsimp only [L2.tRet, L2.tRetN, tAndV, tOrV, tNotV, tCB, L2.tCons, L2.tNil, tC, tVar, L2.tOp, L2.tUn, tSeq, tAsg, gName, tIfS, tTest, tNext, tAnd, tOr, tNot, L2.tIf, tFld, sFld, sFldAug, tCall, tTup, tB, tAug, tDrop, L2.tSl, tPart, tNoPart, tBM, tBM0, tChain, gTup, gCons, gNil, tPar, tIs, List.set, L2.start, iTup, L2.iList, L2.iRng1, tUn, tLst, tTest, gSub, tCall, L2.tIf, tCB, rRep, List.set, List.cons_append, List.nil_append, cxOf]
    refine ⟨_, rfl, a, _, _, _, rfl, rfl, sqt (s4 _ _ ha), atI_nat (j := 0) rfl, rfl, _, rfl, ?_⟩
    have qq := q H4 s4
    by_cases ct : w = "times"
    · subst ct
      obtain ⟨n, rfl, n0, n1, _⟩ := l6 rfl
      obtain ⟨t1, us, rfl, d1, _⟩ := dats_cons dxs
      cases dat_int d1
      refine if_yes (decide_eq_true rfl) ?_
      try dsimp only [L2.tRet, L2.tRetN, tAndV, tOrV, tNotV, tCB, L2.tCons, L2.tNil, tC, tVar, L2.tOp, L2.tUn, tSeq, tAsg, gName, tIfS, tTest, tNext, tAnd, tOr, tNot, L2.tIf, tFld, sFld, sFldAug, tCall, tTup, tB, tAug, tDrop, L2.tSl, tPart, tNoPart, tBM, tBM0, tChain, gTup, gCons, gNil, tPar, tIs, List.set, L2.start, iTup, L2.iList, L2.iRng1, tUn, tLst, tTest, gSub, tCall, L2.tIf, tCB, rRep, List.set, List.cons_append, List.nil_append, cxOf]
      refine ⟨_, rfl, a, _, _, _, rfl, rfl, sqt (s4 _ _ ha), atI_nat (j := 1) rfl, ?_⟩
      have em : (if n > 1 then n else 1) = max 1 n := by
        by_cases c : n > 1
        · rw [if_pos c]
          omega
        · rw [if_neg c]
          omega
      have e : wei fs (.mk false "times" [.int n] ks post) = 1 + max 1 n * weis fs ks := rfl
      rw [e] at qq
      refine ⟨_, _, rfl, _, rfl, _, _, rfl, rfl, mul_left (by rw [em]; omega) (by rw [em]; omega), _, _, rfl, rfl, ?_⟩
      rw [em]
      exact qq
    refine if_no (decide_eq_false fun e => ct (V.str.inj e)) ?_
    try dsimp only [L2.tRet, L2.tRetN, tAndV, tOrV, tNotV, tCB, L2.tCons, L2.tNil, tC, tVar, L2.tOp, L2.tUn, tSeq, tAsg, gName, tIfS, tTest, tNext, tAnd, tOr, tNot, L2.tIf, tFld, sFld, sFldAug, tCall, tTup, tB, tAug, tDrop, L2.tSl, tPart, tNoPart, tBM, tBM0, tChain, gTup, gCons, gNil, tPar, tIs, List.set, L2.start, iTup, L2.iList, L2.iRng1, tUn, tLst, tTest, gSub, tCall, L2.tIf, tCB, rRep, List.set, List.cons_append, List.nil_append, cxOf]
    refine ⟨_, rfl, _, _, rfl, rfl, _, rfl, a, _, _, _, rfl, rfl, sqt (s4 _ _ ha), atI_nat (j := 0) rfl, rfl, _, rfl, ?_⟩
    by_cases cc : w = "call"
    · subst cc
      obtain ⟨f, rfl, fm, _, _⟩ := l5 rfl
      obtain ⟨t1, us, rfl, d1, _⟩ := dats_cons dxs
      cases dat_str d1
      refine if_yes (decide_eq_true rfl) ?_
      dsimp only [tDGet]
      try dsimp only [L2.tRet, L2.tRetN, tAndV, tOrV, tNotV, tCB, L2.tCons, L2.tNil, tC, tVar, L2.tOp, L2.tUn, tSeq, tAsg, gName, tIfS, tTest, tNext, tAnd, tOr, tNot, L2.tIf, tFld, sFld, sFldAug, tCall, tTup, tB, tAug, tDrop, L2.tSl, tPart, tNoPart, tBM, tBM0, tChain, gTup, gCons, gNil, tPar, tIs, List.set, L2.start, iTup, L2.iList, L2.iRng1, tUn, tLst, tTest, gSub, tCall, L2.tIf, tCB, rRep, List.set, List.cons_append, List.nil_append, cxOf]
      obtain ⟨u, eu, u0⟩ := look_some fm nn
      have g : DGet H4 sd (.str f) (valV (ftab fs) (.inr f)) := DGet.k (k := Sum.inr f) (s4 _ _ hd)
      rw [valV_ftab, eu] at g
      refine ⟨_, rfl, _, rfl, a, _, _, _, rfl, rfl, sqt (s4 _ _ ha), atI_nat (j := 1) rfl, sd, _, rfl, g, _, _, rfl, rfl, ?_⟩
      have e : wei fs (.mk false "call" [.str f] ks post) = 1 + weis fs ks + (fs.lookup f).getD 0 := rfl
      rw [e, eu] at qq
      exact qq
    · refine if_no (decide_eq_false fun e => cc (V.str.inj e)) ?_
      have e : wei fs (.mk false w pre ks post) = 1 + weis fs ks + 0 := by
        show ownW fs w pre (weis fs ks) = _
        unfold ownW
        rw [if_neg ct, if_neg cc]
      rw [e] at qq
      exact ⟨_, _, rfl, rfl, qq⟩
end
end Ck

/-! Light trees. -/
namespace Ck
open PySem PySem.Spec PyProof.Rows L2
def grownW : List (Str × Int) → Rows → List (Str × Int)
  | fs, [] => fs
  | fs, r :: rs => grownW (fs ++ [(r.1, wei fs r.2)]) rs
theorem grownW_snoc : ∀ (rs : Rows) (fs : List (Str × Int)) (r : Str × Tr), grownW fs (rs ++ [r]) = grownW fs rs ++ [(r.1, wei (grownW fs rs) r.2)]
  | [], fs, r => rfl
  | q :: rs, fs, r => grownW_snoc rs (fs ++ [(q.1, wei fs q.2)]) r
theorem grownW_fst : ∀ (rs : Rows) (fs : List (Str × Int)), (grownW fs rs).map (·.1) = fs.map (·.1) ++ rs.map (·.1)
  | [], fs => (List.append_nil _).symm
  | r :: rs, fs => by
    show (grownW (fs ++ [(r.1, wei fs r.2)]) rs).map (·.1) = _
    rw [grownW_fst rs, List.map_append, List.append_assoc]
    rfl
/-- rows of a program that is being drawn -/
def RowsAny : List Str → Rows → Prop
  | _, [] => True
  | known, r :: rs => r.1 ∉ known ∧ Any known r.2 ∧ ht r.2 ≤ 20 ∧ RowsAny (known ++ [r.1]) rs
theorem RowsAny.at : ∀ {rs : Rows} {known : List Str} {i : Nat} {r : Str × Tr}, RowsAny known rs → rs[i]? = some r → r.1 ∉ known ++ (rs.take i).map (·.1) ∧ Any (known ++ (rs.take i).map (·.1)) r.2 ∧ ht r.2 ≤ 20
  | [], _, _, _, _, h => by cases h
  | q :: rs, known, 0, r, ok, h => by
    cases h
    obtain ⟨o1, o2, o3, _⟩ := ok
    rw [List.take_zero, List.map_nil, List.append_nil]
    exact ⟨o1, o2, o3⟩
  | q :: rs, known, i + 1, r, ok, h => by
    obtain ⟨_, _, _, o4⟩ := ok
    have z := RowsAny.at (rs := rs) (i := i) o4 h
    rw [List.append_assoc] at z
    exact z
theorem look_none {f : Str} : ∀ {fs : List (Str × Int)}, f ∉ fs.map (·.1) → fs.lookup f = none
  | [], _ => rfl
  | p :: fs, h => by
    have h2 : f ≠ p.1 ∧ f ∉ fs.map (·.1) := by simpa using h
    rw [List.lookup_cons]
    have z : (f == p.1) = false := by simpa using h2.1
    rw [z]
    exact look_none h2.2
theorem look_mem {f : Str} {v : Int} : ∀ {fs : List (Str × Int)}, fs.lookup f = some v → f ∈ fs.map (·.1)
  | [], h => by cases h
  | p :: fs, h => by
    by_cases e : f = p.1
    · rw [e]
      exact List.mem_cons_self
    · rw [List.lookup_cons] at h
      have z : (f == p.1) = false := by simpa using e
      rw [z] at h
      exact List.mem_cons_of_mem _ (look_mem h)
theorem weis_nn {fs : List (Str × Int)} : ∀ {ks : List Tr}, (∀ k ∈ ks, 1 ≤ wei fs k) → 0 ≤ weis fs ks
  | [], _ => Int.le_refl _
  | k :: ks, h => by
    have a := h k List.mem_cons_self
    have b := weis_nn (ks := ks) fun k m => h k (List.mem_cons_of_mem _ m)
    show 0 ≤ wei fs k + weis fs ks
    omega
theorem ownW_ge {fs : List (Str × Int)} (nn : NN fs) (w : Str) (pre : List T) {i : Int} (h : 0 ≤ i) : 1 + i ≤ ownW fs w pre i := by
  unfold ownW
  split
  · refine Int.add_le_add_left (?_ : i ≤ _) 1
    conv => lhs; rw [← Int.one_mul i]
    exact Int.mul_le_mul_of_nonneg_right (Int.le_max_left _ _) h
  · have look : ∀ f : Str, 0 ≤ (fs.lookup f).getD 0 := by
      intro f
      cases e : fs.lookup f with
      | none => exact Int.le_refl _
      | some v =>
        obtain ⟨u, eu, u0⟩ := look_some (look_mem e) nn
        rw [e] at eu
        cases eu
        exact u0
    split
    · split
      · have := look ‹Str›
        omega
      · omega
    · omega
mutual
theorem wei_pos {fs : List (Str × Int)} (nn : NN fs) : ∀ t : Tr, 1 ≤ wei fs t ∧ (cnt t : Int) ≤ wei fs t
  | .mk b w pre ks post => by
    obtain ⟨h0, h1⟩ := weis_pos nn ks
    have z := ownW_ge nn w pre h0
    constructor
    · show 1 ≤ ownW fs w pre (weis fs ks)
      omega
    · show ((1 + cnts ks : Nat) : Int) ≤ ownW fs w pre (weis fs ks)
      omega
theorem weis_pos {fs : List (Str × Int)} (nn : NN fs) : ∀ ks : List Tr, 0 ≤ weis fs ks ∧ (cnts ks : Int) ≤ weis fs ks
  | [] => ⟨Int.le_refl _, Int.le_refl _⟩
  | k :: ks => by
    obtain ⟨a0, a1⟩ := wei_pos nn k
    obtain ⟨b0, b1⟩ := weis_pos nn ks
    constructor
    · show 0 ≤ wei fs k + weis fs ks
      omega
    · show ((cnt k + cnts ks : Nat) : Int) ≤ wei fs k + weis fs ks
      omega
end
theorem NN.grownW : ∀ (rs : Rows) {fs : List (Str × Int)}, NN fs → NN (grownW fs rs)
  | [], _, n => n
  | r :: rs, fs, n => NN.grownW rs (n.snoc (Int.le_trans (by decide) (wei_pos n r.2).1))
section
variable {X : Cx} {P : Program} {w : World} {K : PySem.W.Frag} {mg : Str → Option Value} {base : Heap} {H H1 H2 : Hp} {l : Addr} {dR dS : Addr} {adr : Kind → Addr}
abbrev sLig : Stmt := topS 59
abbrev NLi : List Str := ["_law_tree_here", "_law_rows", "_law_sizes_here", "_law_title", "_law_body"]
abbrev PLi : List Str := ["_law_tree_here", "_law_rows"]
theorem scLi : FnScope NLi PLi (defScope sLig) := ⟨rfl, rfl, rfl, by decide +kernel, rfl, by decide +kernel, by decide +kernel⟩
def rA : Tr := .mk false "run" [.str "a"] [] []
def spLig (K : PySem.W.Frag) : Sp := fun vs H Q _ => ∃ v rl tr rows, vs = [v, .ref rl] ∧ Dat K H v (enc tr) ∧ ht tr ≤ 20 ∧ Any (rows.map (·.1)) tr ∧ RowsAny [] rows ∧ LD K H rl (rows.map encF) ∧ rows.length ≤ 100 ∧
  ∀ v' H' tr', Same H H' → Dat K H' v' (enc tr') → ((tr' = tr ∧ wei (grownW [] rows) tr ≤ 500) ∨ tr' = rA) → Q v' H'
theorem ok_light {f : Addr} {fd : FuncData} (F : Fun K "_law_light" "_law_light" sLig f fd) (G : GWe P w K mg base 20) : FnOk P w K mg base CX0 22 f fd PLi (spLig K) := by
  refine F.ok scLi (fun vs H Q E h => ?_) (fun cdv A outer s H vs Q E hr hh => ?_)
  · obtain ⟨_, _, _, _, rfl, _⟩ := h
    rfl
  obtain ⟨v, rl, tr, rows, rfl, d, hb, an, ra, ⟨rx, er, dr⟩, few, q⟩ := hh
  have hu := hu_of hr
  refine ⟨_, (pss_cons (ps_set (i := 2) scLi.nd rfl (.inl rfl) pe_dnewK) (pss_cons (ps_for PassesOwn.never rfl (pi_list (pv 1)) (pg_tup rfl (L2.pgs_cons (pg_name (i := 3) scLi.nd rfl (.inl rfl)) (L2.pgs_cons (pg_name (i := 4) scLi.nd rfl (.inl rfl)) L2.pgs_nil)))
      (pss_one (ps_dput hu (pv 2) (pv 3) (pe_go (E := fun _ _ _ => False) G hr pass0 rfl (pa_cons (pv 4) (pa_cons (pv 2) pa_nil))) rfl))) (pss_one (ps_ret (pe_ifExp (pt_cmpR op_le (pe_go (E := fun _ _ _ => False) G hr pass0 rfl (pa_cons (pv 0) (pa_cons (pv 2) pa_nil))) pe_int rfl) (pv 0) (pe_tup (pa_cons pe_str (pa_cons pe_str pa_nil)))))))), ?_⟩
  try dsimp only [L2.tRet, L2.tRetN, tAndV, tOrV, tNotV, tCB, L2.tCons, L2.tNil, tC, tVar, L2.tOp, L2.tUn, tSeq, tAsg, gName, tIfS, tTest, tNext, tAnd, tOr, tNot, L2.tIf, tFld, sFld, sFldAug, tCall, tTup, tB, tAug, tDrop, L2.tSl, tPart, tNoPart, tBM, tBM0, tChain, gTup, gCons, gNil, tPar, tIs, List.set, L2.start, iTup, L2.iList, L2.iRng1, tUn, tLst, tTest, gSub, tCall, L2.tIf, tCB, rRep, List.set, List.cons_append, List.nil_append, cxOf]
  intro dd nd
  try dsimp only [L2.tRet, L2.tRetN, tAndV, tOrV, tNotV, tCB, L2.tCons, L2.tNil, tC, tVar, L2.tOp, L2.tUn, tSeq, tAsg, gName, tIfS, tTest, tNext, tAnd, tOr, tNot, L2.tIf, tFld, sFld, sFldAug, tCall, tTup, tB, tAug, tDrop, L2.tSl, tPart, tNoPart, tBM, tBM0, tChain, gTup, gCons, gNil, tPar, tIs, List.set, L2.start, iTup, L2.iList, L2.iRng1, tUn, tLst, tTest, gSub, tCall, L2.tIf, tCB, rRep, List.set, List.cons_append, List.nil_append, cxOf]
  refine loop_in ?_
  try dsimp only [L2.tRet, L2.tRetN, tAndV, tOrV, tNotV, tCB, L2.tCons, L2.tNil, tC, tVar, L2.tOp, L2.tUn, tSeq, tAsg, gName, tIfS, tTest, tNext, tAnd, tOr, tNot, L2.tIf, tFld, sFld, sFldAug, tCall, tTup, tB, tAug, tDrop, L2.tSl, tPart, tNoPart, tBM, tBM0, tChain, gTup, gCons, gNil, tPar, tIs, List.set, L2.start, iTup, L2.iList, L2.iRng1, tUn, tLst, tTest, gSub, tCall, L2.tIf, tCB, rRep, List.set, List.cons_append, List.nil_append, cxOf]
  have s0 := same_new (o := .dK []) nd
  have nlen : rx.length = rows.length := by rw [dr.len, List.length_map]
  refine ⟨_, rfl, rl, rfl, ⟨_, .inl (.inl (s0 _ _ er))⟩, loop_list (K := K) (a := rl) (xs := rx) (fun i σ H' => Same H H' ∧ H' dd = some (.dK (ftab (grownW [] (rows.take i)))) ∧ ∃ v3 v4, σ = [some v, some (.ref rl), some (.ref dd), v3, v4]) ⟨s0, upd_same, _, _, rfl⟩ (fun i σ H' li s => .inl (.inl (s.1 _ _ er))) ?hs ?hd⟩
  case hs =>
    rintro i x σ H2 hx ⟨s2, h2, v3, v4, rfl⟩
    obtain ⟨t, et, dt⟩ := dats_at dr hx
    rw [List.getElem?_map] at et
    cases er2 : rows[i]? with
    | none => rw [er2] at et; cases et
    | some r =>
    rw [er2] at et
    cases et
    obtain ⟨o1, o2, o3⟩ := ra.at er2
    have dt2 := dt.up (same_stay s2)
    obtain ⟨p, xs, rfl, hp, dxs⟩ := dat_tup dt2
    obtain ⟨y0, us, rfl, d0, dxs⟩ := dats_cons dxs
    obtain ⟨y1, us, rfl, d1, dxs⟩ := dats_cons dxs
    cases dats_nil dxs
    cases dat_str d0
    try dsimp only [L2.tRet, L2.tRetN, tAndV, tOrV, tNotV, tCB, L2.tCons, L2.tNil, tC, tVar, L2.tOp, L2.tUn, tSeq, tAsg, gName, tIfS, tTest, tNext, tAnd, tOr, tNot, L2.tIf, tFld, sFld, sFldAug, tCall, tTup, tB, tAug, tDrop, L2.tSl, tPart, tNoPart, tBM, tBM0, tChain, gTup, gCons, gNil, tPar, tIs, List.set, L2.start, iTup, L2.iList, L2.iRng1, tUn, tLst, tTest, gSub, tCall, L2.tIf, tCB, rRep, List.set, List.cons_append, List.nil_append, cxOf]
    refine ⟨p, _, rfl, sqt hp, rfl, _, _, rfl, _, _, rfl, rfl, ?_⟩
    try dsimp only [L2.tRet, L2.tRetN, tAndV, tOrV, tNotV, tCB, L2.tCons, L2.tNil, tC, tVar, L2.tOp, L2.tUn, tSeq, tAsg, gName, tIfS, tTest, tNext, tAnd, tOr, tNot, L2.tIf, tFld, sFld, sFldAug, tCall, tTup, tB, tAug, tDrop, L2.tSl, tPart, tNoPart, tBM, tBM0, tChain, gTup, gCons, gNil, tPar, tIs, List.set, L2.start, iTup, L2.iList, L2.iRng1, tUn, tLst, tTest, gSub, tCall, L2.tIf, tCB, rRep, List.set, List.cons_append, List.nil_append, cxOf]
    dsimp only [sDPut]
    try dsimp only [L2.tRet, L2.tRetN, tAndV, tOrV, tNotV, tCB, L2.tCons, L2.tNil, tC, tVar, L2.tOp, L2.tUn, tSeq, tAsg, gName, tIfS, tTest, tNext, tAnd, tOr, tNot, L2.tIf, tFld, sFld, sFldAug, tCall, tTup, tB, tAug, tDrop, L2.tSl, tPart, tNoPart, tBM, tBM0, tChain, gTup, gCons, gNil, tPar, tIs, List.set, L2.start, iTup, L2.iList, L2.iRng1, tUn, tLst, tTest, gSub, tCall, L2.tIf, tCB, rRep, List.set, List.cons_append, List.nil_append, cxOf]
    have nn := NN.grownW (rows.take i) (fs := []) fun p m => by cases m
    have fs1 := grownW_fst (rows.take i) []
    refine ⟨_, rfl, _, rfl, y1, dd, r.2, grownW [] (rows.take i), rfl, d1, o3, by rw [fs1]; exact o2, nn, h2, fun H3 s3 => ?_⟩
    refine ⟨_, rfl, _, rfl, dd, _, rfl, DPut.k (k := Sum.inr r.1) (s3 _ _ h2) ?_, ?_⟩
    · have ln := congrArg List.length fs1
      rw [List.length_map, List.length_append, List.length_map, List.length_map, List.length_take] at ln
      unfold ftab
      rw [List.length_map, sizeLine_eq]
      have z : ([] : List (Str × Int)).length = 0 := rfl
      omega
    · rw [putK_ftab (look_none (by rw [fs1]; exact o1))]
      refine ⟨Ck.Same.up (s2.trans s3) nd, ?_, _, _, rfl⟩
      rw [upd_same, List.take_add_one, er2, Option.toList_some, grownW_snoc]
  case hd =>
    rintro σ H2 ⟨s2, h2, v3, v4, rfl⟩
    rw [nlen, List.take_length] at h2
    have nn := NN.grownW rows (fs := []) fun p m => by cases m
    have fs1 := grownW_fst rows []
    have d2 := d.up (same_stay s2)
    try dsimp only [L2.tRet, L2.tRetN, tAndV, tOrV, tNotV, tCB, L2.tCons, L2.tNil, tC, tVar, L2.tOp, L2.tUn, tSeq, tAsg, gName, tIfS, tTest, tNext, tAnd, tOr, tNot, L2.tIf, tFld, sFld, sFldAug, tCall, tTup, tB, tAug, tDrop, L2.tSl, tPart, tNoPart, tBM, tBM0, tChain, gTup, gCons, gNil, tPar, tIs, List.set, L2.start, iTup, L2.iList, L2.iRng1, tUn, tLst, tTest, gSub, tCall, L2.tIf, tCB, rRep, List.set, List.cons_append, List.nil_append, cxOf]
    refine ⟨_, rfl, _, rfl, v, dd, tr, grownW [] rows, rfl, d2, hb, by rw [fs1]; exact an, nn, h2, fun H3 s3 => ?_⟩
    refine ⟨_, _, rfl, rfl, _, rfl, ?_⟩
    by_cases c : wei (grownW [] rows) tr ≤ 500
    · refine if_yes (decide_eq_true c) ⟨_, rfl, ?_⟩
      exact q v H3 tr (s2.trans s3) (d2.up (same_stay s3)) (.inl ⟨rfl, c⟩)
    · refine if_no (decide_eq_false c) ⟨sl (by decide), fun p np => ?_⟩
      exact q _ _ rA ((s2.trans s3).trans (same_new np)) (Dats.tup (.cons (.str (by decide +kernel)) (.cons (.str (by decide +kernel)) .nil)) upd_same) (.inr rfl)
end
end Ck

/-! Other words. -/
namespace Ck
open PySem PySem.Spec PyProof.Rows L2
def wcs : List (Str × Str) := [("a", "f"), ("ab", "makeinstall"), ("b", "docker"), ("d", "done"), ("e", "g"), ("z", "iffy")]
def wvs : List (Str × Str) := [("x", "failure"), ("ax", "f")]
def wc (c : Str) : Str := (wcs.lookup c).getD c
def wv (c : Str) : Str := (wvs.lookup c).getD c
def wpre (w : Str) : List T → List T
  | [.str c] => if w = "run" then [.str (wc c)] else if w = "give" ∨ w = "zero" ∨ w = "keep" then [.str (wv c)] else [.str c]
  | [.str c, .int n] => if w = "put" then [.str (wv c), .int (100 * n)] else [.str c, .int n]
  | [.int n] => if w = "status" ∨ w = "return" ∨ w = "exit" then [.int (85 * n)] else [.int n]
  | pre => pre
mutual
def wrd : Tr → Tr
  | .mk b w pre ks post => .mk b w (wpre w pre) (wrds ks) post
def wrds : List Tr → List Tr
  | [] => []
  | k :: ks => wrd k :: wrds ks
end
theorem wrds_map : ∀ ks : List Tr, wrds ks = ks.map wrd
  | [] => rfl
  | k :: ks => by rw [wrds, wrds_map ks]; rfl
abbrev C1 : List Str := ["f", "makeinstall", "docker", "done", "g", "iffy"]
abbrev W1 : List Str := ["failure", "f"]
theorem wc_in {c : Str} (h : c ∈ C0) : wc c ∈ C1 := by
  have z : ∀ c ∈ C0, wc c ∈ C1 := by decide +kernel
  exact z c h
theorem wv_in {c : Str} (h : c ∈ W0) : wv c ∈ W1 := by
  have z : ∀ c ∈ W0, wv c ∈ W1 := by decide +kernel
  exact z c h
theorem all_map {p q : Tr → Prop} {ks : List Tr} (h : ∀ k ∈ ks, q (wrd k)) : ∀ k ∈ wrds ks, q k := by
  rw [wrds_map]
  intro k m
  obtain ⟨k0, m0, rfl⟩ := List.mem_map.mp m
  exact h k0 m0
theorem wrds_len (ks : List Tr) : (wrds ks).length = ks.length := by rw [wrds_map, List.length_map]
theorem wrd_ok {known : List Str} {i : Bool} {l : Nat} {t : Tr} (h : Okt C0 W0 3 2 known i l t) : Okt C1 W1 255 255 known i l (wrd t) := by
  induction h with
  | run m => exact .run (wc_in m)
  | status n0 n1 => exact .status (by omega) (by omega)
  | @var i l w v e m =>
    have z : wrd (.mk false w [.str v] [] []) = .mk false w [.str (wv v)] [] [] := by rcases e with rfl | rfl | rfl <;> rfl
    rw [z]
    exact .var e (wv_in m)
  | put m n0 n1 => exact .put (wv_in m) (by omega) (by omega)
  | option e => exact .option e
  | @jump i l w k e k0 k1 =>
    have z : wrd (.mk false w [.int k] [] []) = .mk false w [.int k] [] [] := by rcases e with rfl | rfl <;> rfl
    rw [z]
    exact .jump e k0 k1
  | ret0 => exact .ret0
  | ret n0 n1 => exact .ret (by omega) (by omega)
  | exit0 => exact .exit0
  | exit n0 n1 => exact .exit (by omega) (by omega)
  | call m => exact .call m
  | @seq i l ks two _ ih => exact .seq (by rw [wrds_len]; exact two) (all_map (p := fun _ => True) ih)
  | @pipe i l ks two _ ih => exact .pipe (by rw [wrds_len]; exact two) (all_map (p := fun _ => True) ih)
  | @andor i l w a b e _ _ ia ib =>
    have z : wrd (.mk false w [] [a, b] []) = .mk false w [] [wrd a, wrd b] [] := rfl
    rw [z]
    exact .andor e ia ib
  | not _ ia => exact .not ia
  | ife _ _ _ ic ia ib => exact .ife ic ia ib
  | if1 _ _ ic ia => exact .if1 ic ia
  | @whl i l w a b e _ _ ia ib =>
    have z : wrd (.mk false w [] [a, b] []) = .mk false w [] [wrd a, wrd b] [] := rfl
    rw [z]
    exact .whl e ia ib
  | times n0 n1 _ ib => exact .times n0 n1 ib
  | trap0 e => exact .trap0 e
  | trap e _ ib => exact .trap e ib
  | sub _ ib => exact .sub ib
mutual
theorem wrd_cnt : ∀ t : Tr, cnt (wrd t) = cnt t
  | .mk b w pre ks post => by
    show 1 + cnts (wrds ks) = 1 + cnts ks
    rw [wrds_cnt ks]
theorem wrds_cnt : ∀ ks : List Tr, cnts (wrds ks) = cnts ks
  | [] => rfl
  | k :: ks => by
    show cnt (wrd k) + cnts (wrds ks) = cnt k + cnts ks
    rw [wrd_cnt k, wrds_cnt ks]
end
mutual
theorem wrd_ht : ∀ t : Tr, ht (wrd t) = ht t
  | .mk b w pre ks post => by
    show 1 + hts (wrds ks) = 1 + hts ks
    rw [wrds_ht ks]
theorem wrds_ht : ∀ ks : List Tr, hts (wrds ks) = hts ks
  | [] => rfl
  | k :: ks => by
    show max (ht (wrd k)) (hts (wrds ks)) = max (ht k) (hts ks)
    rw [wrd_ht k, wrds_ht ks]
end
theorem own_wpre (fs : List (Str × Int)) (w : Str) (pre : List T) (i : Int) : own fs w (wpre w pre) i = own fs w pre i := by
  by_cases c : w = "times"
  · subst c
    unfold wpre
    split <;> rfl
  by_cases c2 : w = "call"
  · subst c2
    unfold wpre
    split <;> rfl
  · unfold own
    rw [if_neg c, if_neg c, if_neg c2, if_neg c2]
mutual
theorem wrd_unf (fs : List (Str × Int)) : ∀ t : Tr, unf fs (wrd t) = unf fs t
  | .mk b w pre ks post => by
    show own fs w (wpre w pre) (unfs fs (wrds ks)) = own fs w pre (unfs fs ks)
    rw [wrds_unf fs ks, own_wpre]
theorem wrds_unf (fs : List (Str × Int)) : ∀ ks : List Tr, unfs fs (wrds ks) = unfs fs ks
  | [] => rfl
  | k :: ks => by
    show unf fs (wrd k) + unfs fs (wrds ks) = unf fs k + unfs fs ks
    rw [wrd_unf fs k, wrds_unf fs ks]
end
/-! ### weights are not less -/
def Le (fs gs : List (Str × Int)) : Prop := ∀ f, (fs.lookup f).getD 0 ≤ (gs.lookup f).getD 0
theorem own_le {fs gs : List (Str × Int)} (l : Le fs gs) (w : Str) {known : List Str} {b : Bool} {pre post : List T} {ks : List Tr} (an : Any known (.mk b w pre ks post)) {i j : Int} (i0 : 0 ≤ i) (ij : i ≤ j) : own fs w pre i ≤ ownW gs w pre j := by
  obtain ⟨_, _, _, _, l5, l6, _⟩ := an.look
  by_cases c : w = "times"
  · obtain ⟨n, rfl, n0, n1, _⟩ := l6 c
    subst c
    show 1 + n * i ≤ 1 + max 1 n * j
    have a : n * i ≤ max 1 n * i := Int.mul_le_mul_of_nonneg_right (Int.le_max_right _ _) i0
    have b : max 1 n * i ≤ max 1 n * j := Int.mul_le_mul_of_nonneg_left ij (by omega)
    omega
  · by_cases c2 : w = "call"
    · obtain ⟨f, rfl, _⟩ := l5 c2
      subst c2
      show 1 + i + (fs.lookup f).getD 0 ≤ 1 + j + (gs.lookup f).getD 0
      have := l f
      omega
    · unfold own ownW
      rw [if_neg c, if_neg c, if_neg c2, if_neg c2]
      omega
mutual
theorem unf_le {fs gs : List (Str × Int)} (l : Le fs gs) (nn : ∀ f, 0 ≤ (fs.lookup f).getD 0) : ∀ (t : Tr) (known : List Str), Any known t → 0 ≤ unf fs t ∧ unf fs t ≤ wei gs t
  | .mk b w pre ks post, known, an => by
    obtain ⟨k0, k1⟩ := unfs_le l nn ks known an.look.1
    obtain ⟨_, _, _, _, l5, l6, _⟩ := an.look
    refine ⟨?_, own_le l w an k0 k1⟩
    show 0 ≤ own fs w pre (unfs fs ks)
    by_cases c : w = "times"
    · obtain ⟨n, rfl, n0, n1, _⟩ := l6 c
      subst c
      show 0 ≤ 1 + n * unfs fs ks
      have := Int.mul_nonneg n0 k0
      omega
    · by_cases c2 : w = "call"
      · obtain ⟨f, rfl, _⟩ := l5 c2
        subst c2
        show 0 ≤ 1 + unfs fs ks + (fs.lookup f).getD 0
        have := nn f
        omega
      · unfold own
        rw [if_neg c, if_neg c2]
        omega
theorem unfs_le {fs gs : List (Str × Int)} (l : Le fs gs) (nn : ∀ f, 0 ≤ (fs.lookup f).getD 0) : ∀ (ks : List Tr) (known : List Str), (∀ k ∈ ks, Any known k) → 0 ≤ unfs fs ks ∧ unfs fs ks ≤ weis gs ks
  | [], _, _ => ⟨Int.le_refl _, Int.le_refl _⟩
  | k :: ks, known, an => by
    obtain ⟨a0, a1⟩ := unf_le l nn k known (an k List.mem_cons_self)
    obtain ⟨b0, b1⟩ := unfs_le l nn ks known fun k m => an k (List.mem_cons_of_mem _ m)
    constructor
    · show 0 ≤ unf fs k + unfs fs ks
      omega
    · show unf fs k + unfs fs ks ≤ wei gs k + weis gs ks
      omega
end
end Ck

namespace Ck
open PySem PySem.Spec PyProof.Rows L2
def Raw (t : Tr) : Prop := ∃ known i l, Okt C0 W0 3 2 known i l t
theorem Raw.any {t : Tr} (h : Raw t) : ∃ known, Any known t := by
  obtain ⟨k, i, l, o⟩ := h
  exact ⟨k, _, _, _, _, i, l, o⟩
def Other (w : Str) : Prop := w ≠ "run" ∧ w ≠ "give" ∧ w ≠ "zero" ∧ w ≠ "keep" ∧ w ≠ "put" ∧ w ≠ "status" ∧ w ≠ "return" ∧ w ≠ "exit" ∧ w ≠ "seq" ∧ w ≠ "pipe"
instance (w : Str) : Decidable (Other w) := by unfold Other; infer_instance
theorem Raw.kind {b : Bool} {w : Str} {pre post : List T} {ks : List Tr} (h : Raw (.mk b w pre ks post)) : (∀ k ∈ ks, Raw k) ∧
    ((∃ c, b = false ∧ w = "run" ∧ pre = [.str c] ∧ ks = [] ∧ post = [] ∧ c ∈ C0) ∨
     (∃ c, b = false ∧ (w = "give" ∨ w = "zero" ∨ w = "keep") ∧ pre = [.str c] ∧ ks = [] ∧ post = [] ∧ c ∈ W0) ∨
     (∃ c n, b = false ∧ w = "put" ∧ pre = [.str c, .int n] ∧ ks = [] ∧ post = [] ∧ c ∈ W0) ∨
     (b = false ∧ (w = "status" ∨ w = "return" ∨ w = "exit") ∧ (pre = [.non] ∨ ∃ n, pre = [.int n]) ∧ ks = [] ∧ post = []) ∨
     (b = true ∧ (w = "seq" ∨ w = "pipe") ∧ pre = [] ∧ post = []) ∨
     (b = false ∧ wpre w pre = pre ∧ Other w)) := by
  obtain ⟨known, i, l, o⟩ := h
  have an : ∀ {k i l}, Okt C0 W0 3 2 known i l k → Raw k := fun o => ⟨known, _, _, o⟩
  cases o with
  | run m => exact ⟨by simp, .inl ⟨_, rfl, rfl, rfl, rfl, rfl, m⟩⟩
  | status _ _ => exact ⟨by simp, .inr (.inr (.inr (.inl ⟨rfl, .inl rfl, .inr ⟨_, rfl⟩, rfl, rfl⟩)))⟩
  | var e m => exact ⟨by simp, .inr (.inl ⟨_, rfl, e, rfl, rfl, rfl, m⟩)⟩
  | put m _ _ => exact ⟨by simp, .inr (.inr (.inl ⟨_, _, rfl, rfl, rfl, rfl, rfl, m⟩))⟩
  | option _ => exact ⟨by simp, .inr (.inr (.inr (.inr (.inr ⟨rfl, rfl, by decide⟩))))⟩
  | jump e _ _ => rcases e with rfl | rfl <;> exact ⟨by simp, .inr (.inr (.inr (.inr (.inr ⟨rfl, rfl, by decide⟩))))⟩
  | ret0 => exact ⟨by simp, .inr (.inr (.inr (.inl ⟨rfl, .inr (.inl rfl), .inl rfl, rfl, rfl⟩)))⟩
  | ret _ _ => exact ⟨by simp, .inr (.inr (.inr (.inl ⟨rfl, .inr (.inl rfl), .inr ⟨_, rfl⟩, rfl, rfl⟩)))⟩
  | exit0 => exact ⟨by simp, .inr (.inr (.inr (.inl ⟨rfl, .inr (.inr rfl), .inl rfl, rfl, rfl⟩)))⟩
  | exit _ _ => exact ⟨by simp, .inr (.inr (.inr (.inl ⟨rfl, .inr (.inr rfl), .inr ⟨_, rfl⟩, rfl, rfl⟩)))⟩
  | call m => exact ⟨by simp, .inr (.inr (.inr (.inr (.inr ⟨rfl, rfl, by decide⟩))))⟩
  | seq _ ks => exact ⟨fun k m => an (ks k m), .inr (.inr (.inr (.inr (.inl ⟨rfl, .inl rfl, rfl, rfl⟩))))⟩
  | pipe _ ks => exact ⟨fun k m => an (ks k m), .inr (.inr (.inr (.inr (.inl ⟨rfl, .inr rfl, rfl, rfl⟩))))⟩
  | andor e a b => rcases e with rfl | rfl <;> exact ⟨all_two (an a) (an b), .inr (.inr (.inr (.inr (.inr ⟨rfl, rfl, by decide⟩))))⟩
  | not a => exact ⟨all_one (an a), .inr (.inr (.inr (.inr (.inr ⟨rfl, rfl, by decide⟩))))⟩
  | ife c a b => exact ⟨all_three (an c) (an a) (an b), .inr (.inr (.inr (.inr (.inr ⟨rfl, rfl, by decide⟩))))⟩
  | if1 c a => exact ⟨all_two (an c) (an a), .inr (.inr (.inr (.inr (.inr ⟨rfl, rfl, by decide⟩))))⟩
  | whl e a b => rcases e with rfl | rfl <;> exact ⟨all_two (an a) (an b), .inr (.inr (.inr (.inr (.inr ⟨rfl, rfl, by decide⟩))))⟩
  | times _ _ a => exact ⟨all_one (an a), .inr (.inr (.inr (.inr (.inr ⟨rfl, rfl, by decide⟩))))⟩
  | trap0 _ => exact ⟨by simp, .inr (.inr (.inr (.inr (.inr ⟨rfl, rfl, by decide⟩))))⟩
  | trap _ a => exact ⟨all_one (an a), .inr (.inr (.inr (.inr (.inr ⟨rfl, rfl, by decide⟩))))⟩
  | sub a => exact ⟨all_one (an a), .inr (.inr (.inr (.inr (.inr ⟨rfl, rfl, by decide⟩))))⟩
def outI (p : T × Option Tr) : T := match p.2 with
  | none => p.1
  | some k => enc (wrd k)
theorem out_plain : ∀ ts : List T, (plain ts).map outI = ts
  | [] => rfl
  | t :: ts => by
    show t :: (plain ts).map outI = t :: ts
    rw [out_plain ts]
theorem out_parted : ∀ ks : List Tr, (parted ks).map outI = encs (wrds ks)
  | [] => rfl
  | k :: ks => by
    show enc (wrd k) :: (parted ks).map outI = enc (wrd k) :: encs (wrds ks)
    rw [out_parted ks]
section
variable {X : Cx} {P : Program} {w : World} {K : PySem.W.Frag} {mg : Str → Option Value} {base : Heap} {H H1 H2 : Hp} {l : Addr} {dR dS : Addr} {adr : Kind → Addr}
theorem lc_dat {p : Addr} {xs : List V} {is : Its} {s0 s1 s2 s3 : Option V} {te : TE} {Q : VK} (hte : ∀ (i : Nat) t o x H2 (R : VK), is[i]? = some (t, o) → Dat K H2 x t → Same H H2 → (∀ v' H', Same H2 H' → Dat K H' v' (outI (t, o)) → R v' H') → te [s0, s1, s2, s3, some x] H2 R)
    (dx : Dats K H xs (is.map (·.1))) (hx : SqT K H p xs) (few : xs.length ≤ 100000) (q : ∀ D H', Same H H' → LD K H' D (is.map outI) → Q (.ref D) H') :
    tLcL (gName 4) tYes te [4] [s0, s1, s2, s3, none] Q (Itt K p) H := by
  refine lcl_tup (K := K) (a := p) (xs := xs) (fun D i H' => Same H H' ∧ LD K H' D ((is.take i).map outI)) (fun D nD => ⟨same_new nD, [], upd_same, .nil⟩) (fun D nD i H' li s => sqt_up hx s.1) ?hs ?hd
  case hs =>
    rintro D nD i x H2 hxi ⟨s2, ld2⟩
    obtain ⟨t, et, dt⟩ := dats_at dx hxi
    obtain ⟨o, eo⟩ := fst_at et
    try dsimp only [L2.tRet, L2.tRetN, tAndV, tOrV, tNotV, tCB, L2.tCons, L2.tNil, tC, tVar, L2.tOp, L2.tUn, tSeq, tAsg, gName, tIfS, tTest, tNext, tAnd, tOr, tNot, L2.tIf, tFld, sFld, sFldAug, tCall, tTup, tB, tAug, tDrop, L2.tSl, tPart, tNoPart, tBM, tBM0, tChain, gTup, gCons, gNil, tPar, tIs, List.set, L2.start, iTup, L2.iList, L2.iRng1, tUn, tLst, tTest, gSub, tCall, L2.tIf, tCB, rRep, List.set, List.cons_append, List.nil_append, cxOf]
    refine ⟨rfl, ?_⟩
    dsimp only [tYes]
    refine if_yes rfl ?_
    refine hte i t o x H2 _ eo (dt.up (same_stay s2)) s2 fun v' H3 s3 d3 => ?_
    obtain ⟨acc, ha, da⟩ := ld2.up s3
    refine ⟨acc, ha, ?_, Ck.Same.up (s2.trans s3) nD, _, upd_same, ?_⟩
    · have l1 := da.len
      have l3 := dx.len
      rw [List.length_map] at l1 l3
      have l2 : (is.take i).length ≤ is.length := by rw [List.length_take]; omega
      rw [sizeLine_eq]
      omega
    · rw [List.take_add_one, eo, Option.toList_some, List.map_append]
      exact (da.app (.cons d3 .nil)).up (stay_lst ha)
  case hd =>
    rintro D nD H2 ⟨s2, ld2⟩
    have l3 := dx.len
    rw [List.length_map] at l3
    rw [l3, List.take_length] at ld2
    exact q D H2 s2 ld2
def kvOf (p : Str × Str) : Key × V := (.inr p.1, .str p.2)
theorem get_c {c : Str} (h : c ∈ C0) : (valV (mergeK [] (wcs.map kvOf)) (.inr c)).getD (.str c) = .str (wc c) := by
  have z : ∀ c ∈ C0, (valV (mergeK [] (wcs.map kvOf)) (.inr c)).getD (.str c) = .str (wc c) := by decide +kernel
  exact z c h
theorem get_v {c : Str} (h : c ∈ W0) : (valV (mergeK [] (wvs.map kvOf)) (.inr c)).getD (.str c) = .str (wv c) := by
  have z : ∀ c ∈ W0, (valV (mergeK [] (wvs.map kvOf)) (.inr c)).getD (.str c) = .str (wv c) := by decide +kernel
  exact z c h
theorem wc_len {c : Str} (h : c ∈ C0) : (wc c).length ≤ 100 := by
  have z : ∀ c ∈ C0, (wc c).length ≤ 100 := by decide +kernel
  exact z c h
theorem wv_len {c : Str} (h : c ∈ W0) : (wv c).length ≤ 100 := by
  have z : ∀ c ∈ W0, (wv c).length ≤ 100 := by decide +kernel
  exact z c h
abbrev sWor : Stmt := topS 60
abbrev NWr : List Str := ["_law_tree_here", "_law_words", "_law_places", "_law_word", "_law_part"]
theorem scWr : FnScope NWr ["_law_tree_here"] (defScope sWor) := ⟨rfl, rfl, rfl, by decide +kernel, rfl, by decide +kernel, by decide +kernel⟩
def spWrd (K : PySem.W.Frag) : Nat → Sp
  | 0 => fun _ _ _ _ => False
  | h + 1 => fun vs H Q _ => ∃ v tr, vs = [v] ∧ Dat K H v (enc tr) ∧ ht tr ≤ h + 1 ∧ Raw tr ∧ ∀ v' H', Same H H' → Dat K H' v' (enc (wrd tr)) → Q v' H'
abbrev GWr (P : Program) (w : World) (K : PySem.W.Frag) (mg : Str → Option Value) (base : Heap) (h : Nat) : Prop := Go P w K mg base CX0 (1 + h) "_law_worded" ["_law_tree_here"] (spWrd K h)
theorem ok_wrd0 {f : Addr} {fd : FuncData} (F : Fun K "_law_worded" "_law_worded" sWor f fd) : FnOk P w K mg base CX0 1 f fd ["_law_tree_here"] (spWrd K 0) :=
  F.ok scWr (fun vs H Q E h => h.elim) (fun cdv A outer s H vs Q E hr h => h.elim)
def tWr1 (h : Nat) (K : PySem.W.Frag) : TE := fun σ H Q => ∃ v k, σ[4]? = some (some v) ∧ Dat K H v (enc k) ∧ Raw k ∧ ht k ≤ h ∧ ∀ v' H', Same H H' → Dat K H' v' (enc (wrd k)) → Q v' H'
theorem tWr1_is {h : Nat} {E : XK} (σ : L2.St) (H : Hp) (Q : VK) (z : tWr1 h K σ H Q) : tCall (spWrd K h) [] E (tCons (tVar 4) tNil) σ H Q := by
  obtain ⟨v, k, s4, d, rk, hk, q⟩ := z
  cases h with
  | zero =>
    have := ht_pos k
    omega
  | succ h =>
    try dsimp only [L2.tRet, L2.tRetN, tAndV, tOrV, tNotV, tCB, L2.tCons, L2.tNil, tC, tVar, L2.tOp, L2.tUn, tSeq, tAsg, gName, tIfS, tTest, tNext, tAnd, tOr, tNot, L2.tIf, tFld, sFld, sFldAug, tCall, tTup, tB, tAug, tDrop, L2.tSl, tPart, tNoPart, tBM, tBM0, tChain, gTup, gCons, gNil, tPar, tIs, List.set, L2.start, iTup, L2.iList, L2.iRng1, tUn, tLst, tTest, gSub, tCall, L2.tIf, tCB, rRep, List.set, List.cons_append, List.nil_append, cxOf]
    exact ⟨_, s4, v, k, rfl, d, hk, rk, q⟩
def tWr2 (h : Nat) (K : PySem.W.Frag) : TE := fun σ H Q => ∃ v t, σ[4]? = some (some v) ∧ Dat K H v t ∧ ((isAtom t = true ∧ Q v H) ∨ ∃ k, t = enc k ∧ Raw k ∧ ht k ≤ h ∧ ∀ v' H', Same H H' → Dat K H' v' (enc (wrd k)) → Q v' H')
theorem tWr2_is {h : Nat} {E : XK} (σ : L2.St) (H : Hp) (Q : VK) (z : tWr2 h K σ H Q) : tIf (tTest (tIs K "tuple" (tVar 4))) (tCall (spWrd K h) [] E (tCons (tVar 4) tNil)) (tVar 4) σ H Q := by
  obtain ⟨v, t, s4, d, z⟩ := z
  try dsimp only [L2.tRet, L2.tRetN, tAndV, tOrV, tNotV, tCB, L2.tCons, L2.tNil, tC, tVar, L2.tOp, L2.tUn, tSeq, tAsg, gName, tIfS, tTest, tNext, tAnd, tOr, tNot, L2.tIf, tFld, sFld, sFldAug, tCall, tTup, tB, tAug, tDrop, L2.tSl, tPart, tNoPart, tBM, tBM0, tChain, gTup, gCons, gNil, tPar, tIs, List.set, L2.start, iTup, L2.iList, L2.iRng1, tUn, tLst, tTest, gSub, tCall, L2.tIf, tCB, rRep, List.set, List.cons_append, List.nil_append, cxOf]
  refine ⟨_, s4, is_tup d.im ⟨_, rfl, ?_⟩⟩
  rcases z with ⟨at', q⟩ | ⟨k, rfl, rk, hk, q⟩
  · rw [isTu_atom at']
    exact if_no rfl ⟨_, s4, q⟩
  · rw [isTu_enc]
    exact if_yes rfl (tWr1_is (E := E) σ H Q ⟨v, k, s4, d, rk, hk, q⟩)
theorem in_three {p : Addr} {z a b c : Str} {Q : VK} (hp : H p = some (.tup [.str a, .str b, .str c])) (q : Q (.bl (decide (z = a ∨ z = b ∨ z = c))) H) : L2.rIn K false (.str z) (.ref p) H Q := by
  refine ⟨p, _, rfl, .inr (sqt hp), rfl, rfl, ?_⟩
  have e : inV (.str z) [.str a, .str b, .str c] = decide (z = a ∨ z = b ∨ z = c) := by
    unfold inV
    show (eqV (.str a) (.str z) || (eqV (.str b) (.str z) || (eqV (.str c) (.str z) || false))) = _
    rw [eqV_str, eqV_str, eqV_str, Bool.or_false]
    by_cases c1 : z = a
    · simp [c1]
    · by_cases c2 : z = b
      · simp [c2]
      · simp [c1, c2]
  show Q (.bl (inV (.str z) [.str a, .str b, .str c])) H
  rw [e]
  exact q
theorem ok_wrdS {f : Addr} {fd : FuncData} {h : Nat} (F : Fun K "_law_worded" "_law_worded" sWor f fd) (M : Mg mg) (G : GWr P w K mg base h) : FnOk P w K mg base CX0 (1 + (h + 1)) f fd ["_law_tree_here"] (spWrd K (h + 1)) := by
  refine F.ok scWr (fun vs H Q E h => ?_) (fun cdv A outer s H vs Q E hr hh => ?_)
  · obtain ⟨_, _, rfl, _⟩ := h
    rfl
  obtain ⟨v, tr, rfl, d, hb, rw0, q⟩ := hh
  have hu := hu_of hr
  refine ⟨_, (pss_cons (ps_set (i := 1) scWr.nd rfl (.inl rfl) (pe_disp (pps_cons pe_str pe_str (pps_cons pe_str pe_str (pps_cons pe_str pe_str (pps_cons pe_str pe_str (pps_cons pe_str pe_str (pps_cons pe_str pe_str pps_nil)))))) rfl rfl (fun z => by cases z) (by decide))) (pss_cons (ps_set (i := 2) scWr.nd rfl (.inl rfl) (pe_disp (pps_cons pe_str pe_str (pps_cons pe_str pe_str pps_nil)) rfl rfl (fun z => by cases z) (by decide))) (pss_cons (ps_set (i := 3) scWr.nd rfl (.inl rfl) (pe_ix ix_tup (pv 0) pe_int fun _ _ => rfl)) (pss_cons (ps_if (pt_cmpR op_eq (pv 3) pe_str rfl) (pss_one (ps_ret (pe_tup (pa_cons pe_str (pa_cons (pe_dget2 hu (pv 1) (pe_ix ix_tup (pv 0) pe_int fun _ _ => rfl) (pe_ix ix_tup (pv 0) pe_int fun _ _ => rfl) ⟨rfl, rfl, rfl, rfl⟩) pa_nil))))) pss_nil) (pss_cons (ps_if (pt_cmpR op_in_seq (pv 3) (pe_tup (pa_cons pe_str (pa_cons pe_str (pa_cons pe_str pa_nil)))) rfl) (pss_one (ps_ret (pe_tup (pa_cons (pv 3) (pa_cons (pe_dget2 hu (pv 2) (pe_ix ix_tup (pv 0) pe_int fun _ _ => rfl) (pe_ix ix_tup (pv 0) pe_int fun _ _ => rfl) ⟨rfl, rfl, rfl, rfl⟩) pa_nil))))) pss_nil) (pss_cons (ps_if (pt_cmpR op_eq (pv 3) pe_str rfl) (pss_one (ps_ret (pe_tup (pa_cons pe_str (pa_cons (pe_dget2 hu (pv 2) (pe_ix ix_tup (pv 0) pe_int fun _ _ => rfl) (pe_ix ix_tup (pv 0) pe_int fun _ _ => rfl) ⟨rfl, rfl, rfl, rfl⟩) (pa_cons (pe_op op_mul pe_int (pe_ix ix_tup (pv 0) pe_int fun _ _ => rfl)) pa_nil)))))) pss_nil) (pss_cons (ps_if (pt_cmpR op_in_seq (pv 3) (pe_tup (pa_cons pe_str (pa_cons pe_str (pa_cons pe_str pa_nil)))) rfl) (pss_one (ps_ret (pe_tup (pa_cons (pv 3) (pa_cons (pe_ifExp (pt_cmpR op_isN (pe_ix ix_tup (pv 0) pe_int fun _ _ => rfl) pe_non (nomark _)) pe_non (pe_op op_mul pe_int (pe_ix ix_tup (pv 0) pe_int fun _ _ => rfl))) pa_nil))))) pss_nil) (pss_cons (ps_if (pt_cmpR op_in_seq (pv 3) (pe_tup (pa_cons pe_str (pa_cons pe_str pa_nil))) rfl) (pss_one (ps_ret (pe_tup (pa_cons (pv 3) (pa_cons (pe_callTy call_tuple_of rfl M.mt (by decide +kernel) (pa_cons (pe_lc (te := tWr1 h K) (own := [("_law_part", 4)]) (g := gName 4) (tt := tYes) rfl scWr.nd (pi_tup (pe_ix ix_tup (pv 0) pe_int fun _ _ => rfl)) (blkOk_by (N := NWr) (sc := defScope sWor) (by decide +kernel)) (fun _ _ _ _ _ => pg_name (i := 4) scWr.nd rfl (.inl rfl)) (fun _ _ _ _ _ => pts_nil)
      (fun _ _ _ _ _ => pe_imp (pe_go (E := fun _ _ _ => False) G hr pass0 rfl (pa_cons (pv 4) pa_nil)) tWr1_is)) pa_nil) (by decide) (by decide)) pa_nil))))) pss_nil) (pss_one (ps_ret (pe_callTy call_tuple_of rfl M.mt (by decide +kernel) (pa_cons (pe_lc (te := tWr2 h K) (own := [("_law_part", 4)]) (g := gName 4) (tt := tYes) rfl scWr.nd (pi_tup (pv 0)) (blkOk_by (N := NWr) (sc := defScope sWor) (by decide +kernel)) (fun _ _ _ _ _ => pg_name (i := 4) scWr.nd rfl (.inl rfl)) (fun _ _ _ _ _ => pts_nil)
      (fun _ _ _ _ _ => pe_imp (pe_ifExp (pt_val (pe_is (n := "tuple") M.mi M.mt (by decide +kernel) rfl rfl (pv 4))) (pe_go (E := fun _ _ _ => False) G hr pass0 rfl (pa_cons (pv 4) pa_nil)) (pv 4)) tWr2_is)) pa_nil) (by decide) (by decide)))))))))))), ?_⟩
  try dsimp only [L2.tRet, L2.tRetN, tAndV, tOrV, tNotV, tCB, L2.tCons, L2.tNil, tC, tVar, L2.tOp, L2.tUn, tSeq, tAsg, gName, tIfS, tTest, tNext, tAnd, tOr, tNot, L2.tIf, tFld, sFld, sFldAug, tCall, tTup, tB, tAug, tDrop, L2.tSl, tPart, tNoPart, tBM, tBM0, tChain, gTup, gCons, gNil, tPar, tIs, List.set, L2.start, iTup, L2.iList, L2.iRng1, tUn, tLst, tTest, gSub, tCall, L2.tIf, tCB, rRep, List.set, List.cons_append, List.nil_append, cxOf]
  dsimp only [tDisp, tPairs]
  try dsimp only [L2.tRet, L2.tRetN, tAndV, tOrV, tNotV, tCB, L2.tCons, L2.tNil, tC, tVar, L2.tOp, L2.tUn, tSeq, tAsg, gName, tIfS, tTest, tNext, tAnd, tOr, tNot, L2.tIf, tFld, sFld, sFldAug, tCall, tTup, tB, tAug, tDrop, L2.tSl, tPart, tNoPart, tBM, tBM0, tChain, gTup, gCons, gNil, tPar, tIs, List.set, L2.start, iTup, L2.iList, L2.iRng1, tUn, tLst, tTest, gSub, tCall, L2.tIf, tCB, rRep, List.set, List.cons_append, List.nil_append, cxOf]
  intro p1 n1
  refine ⟨upd_same, wcs.map kvOf, rfl, by decide, fun p2 n2 => ⟨upd_same, wvs.map kvOf, rfl, by decide, ?_⟩⟩
  have s1 : Same H (upd (upd H p1 (.dK [])) p1 (.dK (mergeK [] (wcs.map kvOf)))) := Ck.Same.up (same_new n1) n1
  have h1 : (upd (upd H p1 (.dK [])) p1 (.dK (mergeK [] (wcs.map kvOf)))) p1 = some (.dK (mergeK [] (wcs.map kvOf))) := upd_same
  generalize upd (upd H p1 (.dK [])) p1 (.dK (mergeK [] (wcs.map kvOf))) = G1 at s1 h1 n2 ⊢
  have s2 : Same G1 (upd (upd G1 p2 (.dK [])) p2 (.dK (mergeK [] (wvs.map kvOf)))) := Ck.Same.up (same_new n2) n2
  have h2 : (upd (upd G1 p2 (.dK [])) p2 (.dK (mergeK [] (wvs.map kvOf)))) p2 = some (.dK (mergeK [] (wvs.map kvOf))) := upd_same
  generalize upd (upd G1 p2 (.dK [])) p2 (.dK (mergeK [] (wvs.map kvOf))) = G2 at s2 h2 ⊢
  replace h1 := s2 _ _ h1
  replace s1 := s1.trans s2
  clear s2 n2 n1
  obtain ⟨b, w, pre, ks, post⟩ := tr
  obtain ⟨rk, kd⟩ := rw0.kind
  obtain ⟨kn0, an⟩ := rw0.any
  obtain ⟨l1, l2, l3, l4, l5, l6, l7, l8⟩ := an.look
  obtain ⟨a, xs, rfl, ha, hT, hF⟩ := enc_in (fun e => by rcases l4 with ⟨_, _, z, y⟩ | ⟨z, _⟩; exact ⟨z, y⟩; rw [e] at z; cases z) d
  replace ha := s1 _ _ ha
  have wl : w.length ≤ 100 := l7
  refine ⟨_, rfl, a, _, _, _, rfl, rfl, sqt ha, atI_nat (j := 0) rfl, ?_⟩
  try dsimp only [L2.tRet, L2.tRetN, tAndV, tOrV, tNotV, tCB, L2.tCons, L2.tNil, tC, tVar, L2.tOp, L2.tUn, tSeq, tAsg, gName, tIfS, tTest, tNext, tAnd, tOr, tNot, L2.tIf, tFld, sFld, sFldAug, tCall, tTup, tB, tAug, tDrop, L2.tSl, tPart, tNoPart, tBM, tBM0, tChain, gTup, gCons, gNil, tPar, tIs, List.set, L2.start, iTup, L2.iList, L2.iRng1, tUn, tLst, tTest, gSub, tCall, L2.tIf, tCB, rRep, List.set, List.cons_append, List.nil_append, cxOf]
  rcases kd with ⟨c, rfl, rfl, rfl, rfl, rfl, cm⟩ | ⟨c, rfl, wo, rfl, rfl, rfl, cm⟩ | ⟨c, n, rfl, rfl, rfl, rfl, rfl, cm⟩ | ⟨rfl, wo, po, rfl, rfl⟩ | ⟨rfl, wo, rfl, rfl⟩ | ⟨rfl, wp, wo⟩
  · -- run
    obtain ⟨y, us, rfl, d1, dn⟩ := dats_cons (hF rfl)
    cases dats_nil dn
    cases dat_str d1
    refine ⟨_, rfl, rfl, _, rfl, if_yes (decide_eq_true rfl) ?_⟩
    dsimp only [tDGet2]
    try dsimp only [L2.tRet, L2.tRetN, tAndV, tOrV, tNotV, tCB, L2.tCons, L2.tNil, tC, tVar, L2.tOp, L2.tUn, tSeq, tAsg, gName, tIfS, tTest, tNext, tAnd, tOr, tNot, L2.tIf, tFld, sFld, sFldAug, tCall, tTup, tB, tAug, tDrop, L2.tSl, tPart, tNoPart, tBM, tBM0, tChain, gTup, gCons, gNil, tPar, tIs, List.set, L2.start, iTup, L2.iList, L2.iRng1, tUn, tLst, tTest, gSub, tCall, L2.tIf, tCB, rRep, List.set, List.cons_append, List.nil_append, cxOf]
    refine ⟨_, rfl, p1, rfl, .inl ⟨_, .inl h1⟩, _, rfl, a, _, _, _, rfl, rfl, sqt ha, atI_nat (j := 1) rfl, _, rfl, a, _, _, _, rfl, rfl, sqt ha, atI_nat (j := 1) rfl, _, DGet.k (k := Sum.inr c) h1, (sl (Nat.le_of_ble_eq_true rfl)), fun p np => ?_⟩
    rw [get_c cm]
    refine q _ _ (s1.trans (same_new np)) ?_
    exact Dats.tup (.cons (.str (by decide +kernel)) (.cons (.str (wc_len cm)) .nil)) upd_same
  · -- give, zero, keep
    obtain ⟨y, us, rfl, d1, dn⟩ := dats_cons (hF rfl)
    cases dats_nil dn
    cases dat_str d1
    refine ⟨_, rfl, rfl, _, rfl, if_no (decide_eq_false fun e => ?_) ?_⟩
    · have e := V.str.inj e
      rcases wo with rfl | rfl | rfl <;> exact absurd e (by decide)
    try dsimp only [L2.tRet, L2.tRetN, tAndV, tOrV, tNotV, tCB, L2.tCons, L2.tNil, tC, tVar, L2.tOp, L2.tUn, tSeq, tAsg, gName, tIfS, tTest, tNext, tAnd, tOr, tNot, L2.tIf, tFld, sFld, sFldAug, tCall, tTup, tB, tAug, tDrop, L2.tSl, tPart, tNoPart, tBM, tBM0, tChain, gTup, gCons, gNil, tPar, tIs, List.set, L2.start, iTup, L2.iList, L2.iRng1, tUn, tLst, tTest, gSub, tCall, L2.tIf, tCB, rRep, List.set, List.cons_append, List.nil_append, cxOf]
    refine ⟨_, rfl, (sl (Nat.le_of_ble_eq_true rfl)), fun p3 n3 => in_three upd_same ⟨_, rfl, if_yes (decide_eq_true wo) ?_⟩⟩
    have s3 := same_new (o := .tup [V.str "give", V.str "zero", V.str "keep"]) n3
    have ha3 := s3 _ _ ha
    have h23 := s3 _ _ h2
    dsimp only [tDGet2]
    try dsimp only [L2.tRet, L2.tRetN, tAndV, tOrV, tNotV, tCB, L2.tCons, L2.tNil, tC, tVar, L2.tOp, L2.tUn, tSeq, tAsg, gName, tIfS, tTest, tNext, tAnd, tOr, tNot, L2.tIf, tFld, sFld, sFldAug, tCall, tTup, tB, tAug, tDrop, L2.tSl, tPart, tNoPart, tBM, tBM0, tChain, gTup, gCons, gNil, tPar, tIs, List.set, L2.start, iTup, L2.iList, L2.iRng1, tUn, tLst, tTest, gSub, tCall, L2.tIf, tCB, rRep, List.set, List.cons_append, List.nil_append, cxOf]
    refine ⟨_, rfl, _, rfl, p2, rfl, .inl ⟨_, .inl h23⟩, _, rfl, a, _, _, _, rfl, rfl, sqt ha3, atI_nat (j := 1) rfl, _, rfl, a, _, _, _, rfl, rfl, sqt ha3, atI_nat (j := 1) rfl, _, DGet.k (k := Sum.inr c) h23, (sl (Nat.le_of_ble_eq_true rfl)), fun p np => ?_⟩
    rw [get_v cm]
    refine q _ _ ((s1.trans s3).trans (same_new np)) ?_
    have z : wrd (.mk false w [.str c] [] []) = .mk false w [.str (wv c)] [] [] := by rcases wo with rfl | rfl | rfl <;> rfl
    rw [z]
    exact Dats.tup (.cons (.str wl) (.cons (.str (wv_len cm)) .nil)) upd_same
  · -- put
    obtain ⟨y, us, rfl, d1, dn⟩ := dats_cons (hF rfl)
    obtain ⟨y2, us, rfl, d2, dn⟩ := dats_cons dn
    cases dats_nil dn
    cases dat_str d1
    cases dat_int d2
    refine ⟨_, rfl, rfl, _, rfl, if_no (decide_eq_false (by decide)) ?_⟩
    try dsimp only [L2.tRet, L2.tRetN, tAndV, tOrV, tNotV, tCB, L2.tCons, L2.tNil, tC, tVar, L2.tOp, L2.tUn, tSeq, tAsg, gName, tIfS, tTest, tNext, tAnd, tOr, tNot, L2.tIf, tFld, sFld, sFldAug, tCall, tTup, tB, tAug, tDrop, L2.tSl, tPart, tNoPart, tBM, tBM0, tChain, gTup, gCons, gNil, tPar, tIs, List.set, L2.start, iTup, L2.iList, L2.iRng1, tUn, tLst, tTest, gSub, tCall, L2.tIf, tCB, rRep, List.set, List.cons_append, List.nil_append, cxOf]
    refine ⟨_, rfl, (sl (Nat.le_of_ble_eq_true rfl)), fun p3 n3 => in_three upd_same ⟨_, rfl, if_no (decide_eq_false (by decide)) ?_⟩⟩
    have s3 := same_new (o := .tup [V.str "give", V.str "zero", V.str "keep"]) n3
    have ha3 := s3 _ _ ha
    have h23 := s3 _ _ h2
    try dsimp only [L2.tRet, L2.tRetN, tAndV, tOrV, tNotV, tCB, L2.tCons, L2.tNil, tC, tVar, L2.tOp, L2.tUn, tSeq, tAsg, gName, tIfS, tTest, tNext, tAnd, tOr, tNot, L2.tIf, tFld, sFld, sFldAug, tCall, tTup, tB, tAug, tDrop, L2.tSl, tPart, tNoPart, tBM, tBM0, tChain, gTup, gCons, gNil, tPar, tIs, List.set, L2.start, iTup, L2.iList, L2.iRng1, tUn, tLst, tTest, gSub, tCall, L2.tIf, tCB, rRep, List.set, List.cons_append, List.nil_append, cxOf]
    refine ⟨_, rfl, rfl, _, rfl, if_yes (decide_eq_true rfl) ?_⟩
    dsimp only [tDGet2]
    try dsimp only [L2.tRet, L2.tRetN, tAndV, tOrV, tNotV, tCB, L2.tCons, L2.tNil, tC, tVar, L2.tOp, L2.tUn, tSeq, tAsg, gName, tIfS, tTest, tNext, tAnd, tOr, tNot, L2.tIf, tFld, sFld, sFldAug, tCall, tTup, tB, tAug, tDrop, L2.tSl, tPart, tNoPart, tBM, tBM0, tChain, gTup, gCons, gNil, tPar, tIs, List.set, L2.start, iTup, L2.iList, L2.iRng1, tUn, tLst, tTest, gSub, tCall, L2.tIf, tCB, rRep, List.set, List.cons_append, List.nil_append, cxOf]
    refine ⟨_, rfl, p2, rfl, .inl ⟨_, .inl h23⟩, _, rfl, a, _, _, _, rfl, rfl, sqt ha3, atI_nat (j := 1) rfl, _, rfl, a, _, _, _, rfl, rfl, sqt ha3, atI_nat (j := 1) rfl, _, DGet.k (k := Sum.inr c) h23, ?_⟩
    rw [get_v cm]
    refine ⟨_, rfl, a, _, _, _, rfl, rfl, sqt ha3, atI_nat (j := 2) rfl, _, _, rfl, rfl, mul_left (by decide) (by decide), (sl (Nat.le_of_ble_eq_true rfl)), fun p np => ?_⟩
    refine q _ _ ((s1.trans s3).trans (same_new np)) ?_
    exact Dats.tup (.cons (.str (by decide +kernel)) (.cons (.str (wv_len cm)) (.cons (.int _) .nil))) upd_same
  · -- status, return, exit
    refine ⟨_, rfl, rfl, _, rfl, if_no (decide_eq_false fun e => ?_) ?_⟩
    · have e := V.str.inj e
      rcases wo with rfl | rfl | rfl <;> exact absurd e (by decide)
    try dsimp only [L2.tRet, L2.tRetN, tAndV, tOrV, tNotV, tCB, L2.tCons, L2.tNil, tC, tVar, L2.tOp, L2.tUn, tSeq, tAsg, gName, tIfS, tTest, tNext, tAnd, tOr, tNot, L2.tIf, tFld, sFld, sFldAug, tCall, tTup, tB, tAug, tDrop, L2.tSl, tPart, tNoPart, tBM, tBM0, tChain, gTup, gCons, gNil, tPar, tIs, List.set, L2.start, iTup, L2.iList, L2.iRng1, tUn, tLst, tTest, gSub, tCall, L2.tIf, tCB, rRep, List.set, List.cons_append, List.nil_append, cxOf]
    refine ⟨_, rfl, (sl (Nat.le_of_ble_eq_true rfl)), fun p3 n3 => in_three upd_same ⟨_, rfl, if_no (decide_eq_false (by rcases wo with rfl | rfl | rfl <;> decide)) ?_⟩⟩
    have s3 := same_new (o := .tup [V.str "give", V.str "zero", V.str "keep"]) n3
    have ha3 := s3 _ _ ha
    try dsimp only [L2.tRet, L2.tRetN, tAndV, tOrV, tNotV, tCB, L2.tCons, L2.tNil, tC, tVar, L2.tOp, L2.tUn, tSeq, tAsg, gName, tIfS, tTest, tNext, tAnd, tOr, tNot, L2.tIf, tFld, sFld, sFldAug, tCall, tTup, tB, tAug, tDrop, L2.tSl, tPart, tNoPart, tBM, tBM0, tChain, gTup, gCons, gNil, tPar, tIs, List.set, L2.start, iTup, L2.iList, L2.iRng1, tUn, tLst, tTest, gSub, tCall, L2.tIf, tCB, rRep, List.set, List.cons_append, List.nil_append, cxOf]
    refine ⟨_, rfl, rfl, _, rfl, if_no (decide_eq_false fun e => ?_) ?_⟩
    · have e := V.str.inj e
      rcases wo with rfl | rfl | rfl <;> exact absurd e (by decide)
    try dsimp only [L2.tRet, L2.tRetN, tAndV, tOrV, tNotV, tCB, L2.tCons, L2.tNil, tC, tVar, L2.tOp, L2.tUn, tSeq, tAsg, gName, tIfS, tTest, tNext, tAnd, tOr, tNot, L2.tIf, tFld, sFld, sFldAug, tCall, tTup, tB, tAug, tDrop, L2.tSl, tPart, tNoPart, tBM, tBM0, tChain, gTup, gCons, gNil, tPar, tIs, List.set, L2.start, iTup, L2.iList, L2.iRng1, tUn, tLst, tTest, gSub, tCall, L2.tIf, tCB, rRep, List.set, List.cons_append, List.nil_append, cxOf]
    refine ⟨_, rfl, (sl (Nat.le_of_ble_eq_true rfl)), fun p4 n4 => in_three upd_same ⟨_, rfl, if_yes (decide_eq_true wo) ?_⟩⟩
    have s4 := s3.trans (same_new (o := .tup [V.str "status", V.str "return", V.str "exit"]) n4)
    have ha4 := s4 _ _ ha
    try dsimp only [L2.tRet, L2.tRetN, tAndV, tOrV, tNotV, tCB, L2.tCons, L2.tNil, tC, tVar, L2.tOp, L2.tUn, tSeq, tAsg, gName, tIfS, tTest, tNext, tAnd, tOr, tNot, L2.tIf, tFld, sFld, sFldAug, tCall, tTup, tB, tAug, tDrop, L2.tSl, tPart, tNoPart, tBM, tBM0, tChain, gTup, gCons, gNil, tPar, tIs, List.set, L2.start, iTup, L2.iList, L2.iRng1, tUn, tLst, tTest, gSub, tCall, L2.tIf, tCB, rRep, List.set, List.cons_append, List.nil_append, cxOf]
    rcases po with rfl | ⟨n, rfl⟩
    · obtain ⟨y, us, rfl, d1, dn⟩ := dats_cons (hF rfl)
      cases dats_nil dn
      cases dat_non d1
      refine ⟨_, rfl, _, rfl, a, _, _, _, rfl, rfl, sqt ha4, atI_nat (j := 1) rfl, rfl, _, rfl, if_yes rfl ⟨(sl (Nat.le_of_ble_eq_true rfl)), fun p np => ?_⟩⟩
      refine q _ _ ((s1.trans s4).trans (same_new np)) ?_
      have z : wrd (.mk false w [.non] [] []) = .mk false w [.non] [] [] := rfl
      rw [z]
      exact Dats.tup (.cons (.str wl) (.cons .non .nil)) upd_same
    · obtain ⟨y, us, rfl, d1, dn⟩ := dats_cons (hF rfl)
      cases dats_nil dn
      cases dat_int d1
      refine ⟨_, rfl, _, rfl, a, _, _, _, rfl, rfl, sqt ha4, atI_nat (j := 1) rfl, rfl, _, rfl, if_no rfl ?_⟩
      try dsimp only [L2.tRet, L2.tRetN, tAndV, tOrV, tNotV, tCB, L2.tCons, L2.tNil, tC, tVar, L2.tOp, L2.tUn, tSeq, tAsg, gName, tIfS, tTest, tNext, tAnd, tOr, tNot, L2.tIf, tFld, sFld, sFldAug, tCall, tTup, tB, tAug, tDrop, L2.tSl, tPart, tNoPart, tBM, tBM0, tChain, gTup, gCons, gNil, tPar, tIs, List.set, L2.start, iTup, L2.iList, L2.iRng1, tUn, tLst, tTest, gSub, tCall, L2.tIf, tCB, rRep, List.set, List.cons_append, List.nil_append, cxOf]
      refine ⟨_, rfl, a, _, _, _, rfl, rfl, sqt ha4, atI_nat (j := 1) rfl, _, _, rfl, rfl, mul_left (by decide) (by decide), (sl (Nat.le_of_ble_eq_true rfl)), fun p np => ?_⟩
      refine q _ _ ((s1.trans s4).trans (same_new np)) ?_
      have z : wrd (.mk false w [.int n] [] []) = .mk false w [.int (85 * n)] [] [] := by rcases wo with rfl | rfl | rfl <;> rfl
      rw [z]
      exact Dats.tup (.cons (.str wl) (.cons (.int _) .nil)) upd_same
  · -- seq, pipe
    obtain ⟨p5, ys, rfl, hp5, dy⟩ := hT rfl
    refine ⟨_, rfl, rfl, _, rfl, if_no (decide_eq_false fun e => ?_) ?_⟩
    · have e := V.str.inj e
      rcases wo with rfl | rfl <;> exact absurd e (by decide)
    try dsimp only [L2.tRet, L2.tRetN, tAndV, tOrV, tNotV, tCB, L2.tCons, L2.tNil, tC, tVar, L2.tOp, L2.tUn, tSeq, tAsg, gName, tIfS, tTest, tNext, tAnd, tOr, tNot, L2.tIf, tFld, sFld, sFldAug, tCall, tTup, tB, tAug, tDrop, L2.tSl, tPart, tNoPart, tBM, tBM0, tChain, gTup, gCons, gNil, tPar, tIs, List.set, L2.start, iTup, L2.iList, L2.iRng1, tUn, tLst, tTest, gSub, tCall, L2.tIf, tCB, rRep, List.set, List.cons_append, List.nil_append, cxOf]
    refine ⟨_, rfl, (sl (Nat.le_of_ble_eq_true rfl)), fun p3 n3 => in_three upd_same ⟨_, rfl, if_no (decide_eq_false (by rcases wo with rfl | rfl <;> decide)) ?_⟩⟩
    have s3 := same_new (o := .tup [V.str "give", V.str "zero", V.str "keep"]) n3
    have ha3 := s3 _ _ ha
    try dsimp only [L2.tRet, L2.tRetN, tAndV, tOrV, tNotV, tCB, L2.tCons, L2.tNil, tC, tVar, L2.tOp, L2.tUn, tSeq, tAsg, gName, tIfS, tTest, tNext, tAnd, tOr, tNot, L2.tIf, tFld, sFld, sFldAug, tCall, tTup, tB, tAug, tDrop, L2.tSl, tPart, tNoPart, tBM, tBM0, tChain, gTup, gCons, gNil, tPar, tIs, List.set, L2.start, iTup, L2.iList, L2.iRng1, tUn, tLst, tTest, gSub, tCall, L2.tIf, tCB, rRep, List.set, List.cons_append, List.nil_append, cxOf]
    refine ⟨_, rfl, rfl, _, rfl, if_no (decide_eq_false fun e => ?_) ?_⟩
    · have e := V.str.inj e
      rcases wo with rfl | rfl <;> exact absurd e (by decide)
    try dsimp only [L2.tRet, L2.tRetN, tAndV, tOrV, tNotV, tCB, L2.tCons, L2.tNil, tC, tVar, L2.tOp, L2.tUn, tSeq, tAsg, gName, tIfS, tTest, tNext, tAnd, tOr, tNot, L2.tIf, tFld, sFld, sFldAug, tCall, tTup, tB, tAug, tDrop, L2.tSl, tPart, tNoPart, tBM, tBM0, tChain, gTup, gCons, gNil, tPar, tIs, List.set, L2.start, iTup, L2.iList, L2.iRng1, tUn, tLst, tTest, gSub, tCall, L2.tIf, tCB, rRep, List.set, List.cons_append, List.nil_append, cxOf]
    refine ⟨_, rfl, (sl (Nat.le_of_ble_eq_true rfl)), fun p4 n4 => in_three upd_same ⟨_, rfl, if_no (decide_eq_false (by rcases wo with rfl | rfl <;> decide)) ?_⟩⟩
    have s4 := s3.trans (same_new (o := .tup [V.str "status", V.str "return", V.str "exit"]) n4)
    try dsimp only [L2.tRet, L2.tRetN, tAndV, tOrV, tNotV, tCB, L2.tCons, L2.tNil, tC, tVar, L2.tOp, L2.tUn, tSeq, tAsg, gName, tIfS, tTest, tNext, tAnd, tOr, tNot, L2.tIf, tFld, sFld, sFldAug, tCall, tTup, tB, tAug, tDrop, L2.tSl, tPart, tNoPart, tBM, tBM0, tChain, gTup, gCons, gNil, tPar, tIs, List.set, L2.start, iTup, L2.iList, L2.iRng1, tUn, tLst, tTest, gSub, tCall, L2.tIf, tCB, rRep, List.set, List.cons_append, List.nil_append, cxOf]
    refine ⟨_, rfl, (sl (Nat.le_of_ble_eq_true rfl)), fun p6 n6 => in_two upd_same ⟨_, rfl, if_yes (decide_eq_true wo) ?_⟩⟩
    have s6 := s4.trans (same_new (o := .tup [V.str "seq", V.str "pipe"]) n6)
    have ha6 := s6 _ _ ha
    have hp6 := (s1.trans s6) _ _ hp5
    have dy6 := dy.up (same_stay (s1.trans s6))
    try dsimp only [L2.tRet, L2.tRetN, tAndV, tOrV, tNotV, tCB, L2.tCons, L2.tNil, tC, tVar, L2.tOp, L2.tUn, tSeq, tAsg, gName, tIfS, tTest, tNext, tAnd, tOr, tNot, L2.tIf, tFld, sFld, sFldAug, tCall, tTup, tB, tAug, tDrop, L2.tSl, tPart, tNoPart, tBM, tBM0, tChain, gTup, gCons, gNil, tPar, tIs, List.set, L2.start, iTup, L2.iList, L2.iRng1, tUn, tLst, tTest, gSub, tCall, L2.tIf, tCB, rRep, List.set, List.cons_append, List.nil_append, cxOf]
    refine ⟨_, rfl, lc_in ?_⟩
    try dsimp only [L2.tRet, L2.tRetN, tAndV, tOrV, tNotV, tCB, L2.tCons, L2.tNil, tC, tVar, L2.tOp, L2.tUn, tSeq, tAsg, gName, tIfS, tTest, tNext, tAnd, tOr, tNot, L2.tIf, tFld, sFld, sFldAug, tCall, tTup, tB, tAug, tDrop, L2.tSl, tPart, tNoPart, tBM, tBM0, tChain, gTup, gCons, gNil, tPar, tIs, List.set, L2.start, iTup, L2.iList, L2.iRng1, tUn, tLst, tTest, gSub, tCall, L2.tIf, tCB, rRep, List.set, List.cons_append, List.nil_append, cxOf]
    refine ⟨_, rfl, a, _, _, _, rfl, rfl, sqt ha6, atI_nat (j := 1) rfl, p5, rfl, ⟨_, sqt hp6⟩, lc_dat (is := parted ks) ?te dy6 (sqt hp6) ?few fun D H3 s7 ld => ?_⟩
    case te =>
      intro i t o x H3 R eo dt s7 k
      obtain ⟨k0, mk0, ek⟩ := List.mem_map.mp (List.mem_of_getElem? eo)
      cases ek
      exact ⟨x, k0, rfl, dt, rk k0 mk0, ht_kid hb mk0, k⟩
    case few =>
      have := dy.len
      rw [List.length_map] at this
      unfold parted at this
      rw [List.length_map] at this
      omega
    obtain ⟨zs, ez, dz⟩ := ld
    refine ⟨D, zs, rfl, .inl ⟨.inl (.inl ez), fun p8 n8 => ⟨(sl (Nat.le_of_ble_eq_true rfl)), fun p9 n9 => ?_⟩⟩⟩
    have s8 := same_new (o := .tup zs) n8
    have s9 := same_new (o := .tup [V.str w, V.ref p8]) n9
    refine q _ _ (((((s1.trans s6).trans s7).trans s8).trans s9)) ?_
    have z : enc (wrd (.mk true w [] ks [])) = .tup [.str w, .tup ((parted ks).map outI)] := by rw [out_parted]; rfl
    rw [z]
    refine Dats.tup (.cons (.str wl) (.cons ?_ .nil)) upd_same
    exact ((dz.up (same_stay s8)).tup upd_same).up (same_stay s9)
  · -- others
    obtain ⟨o1, o2, o3, o4, o5, o6, o7, o8, o9, o10⟩ := wo
    have dxs := hF rfl
    refine ⟨_, rfl, rfl, _, rfl, if_no (decide_eq_false fun e => ?_) ?_⟩
    · have e := V.str.inj e
      exact o1 e
    try dsimp only [L2.tRet, L2.tRetN, tAndV, tOrV, tNotV, tCB, L2.tCons, L2.tNil, tC, tVar, L2.tOp, L2.tUn, tSeq, tAsg, gName, tIfS, tTest, tNext, tAnd, tOr, tNot, L2.tIf, tFld, sFld, sFldAug, tCall, tTup, tB, tAug, tDrop, L2.tSl, tPart, tNoPart, tBM, tBM0, tChain, gTup, gCons, gNil, tPar, tIs, List.set, L2.start, iTup, L2.iList, L2.iRng1, tUn, tLst, tTest, gSub, tCall, L2.tIf, tCB, rRep, List.set, List.cons_append, List.nil_append, cxOf]
    refine ⟨_, rfl, (sl (Nat.le_of_ble_eq_true rfl)), fun p3 n3 => in_three upd_same ⟨_, rfl, if_no (decide_eq_false (by rintro (e | e | e); exact o2 e; exact o3 e; exact o4 e)) ?_⟩⟩
    have s3 := same_new (o := .tup [V.str "give", V.str "zero", V.str "keep"]) n3
    have ha3 := s3 _ _ ha
    try dsimp only [L2.tRet, L2.tRetN, tAndV, tOrV, tNotV, tCB, L2.tCons, L2.tNil, tC, tVar, L2.tOp, L2.tUn, tSeq, tAsg, gName, tIfS, tTest, tNext, tAnd, tOr, tNot, L2.tIf, tFld, sFld, sFldAug, tCall, tTup, tB, tAug, tDrop, L2.tSl, tPart, tNoPart, tBM, tBM0, tChain, gTup, gCons, gNil, tPar, tIs, List.set, L2.start, iTup, L2.iList, L2.iRng1, tUn, tLst, tTest, gSub, tCall, L2.tIf, tCB, rRep, List.set, List.cons_append, List.nil_append, cxOf]
    refine ⟨_, rfl, rfl, _, rfl, if_no (decide_eq_false fun e => ?_) ?_⟩
    · have e := V.str.inj e
      exact o5 e
    try dsimp only [L2.tRet, L2.tRetN, tAndV, tOrV, tNotV, tCB, L2.tCons, L2.tNil, tC, tVar, L2.tOp, L2.tUn, tSeq, tAsg, gName, tIfS, tTest, tNext, tAnd, tOr, tNot, L2.tIf, tFld, sFld, sFldAug, tCall, tTup, tB, tAug, tDrop, L2.tSl, tPart, tNoPart, tBM, tBM0, tChain, gTup, gCons, gNil, tPar, tIs, List.set, L2.start, iTup, L2.iList, L2.iRng1, tUn, tLst, tTest, gSub, tCall, L2.tIf, tCB, rRep, List.set, List.cons_append, List.nil_append, cxOf]
    refine ⟨_, rfl, (sl (Nat.le_of_ble_eq_true rfl)), fun p4 n4 => in_three upd_same ⟨_, rfl, if_no (decide_eq_false (by rintro (e | e | e); exact o6 e; exact o7 e; exact o8 e)) ?_⟩⟩
    have s4 := s3.trans (same_new (o := .tup [V.str "status", V.str "return", V.str "exit"]) n4)
    try dsimp only [L2.tRet, L2.tRetN, tAndV, tOrV, tNotV, tCB, L2.tCons, L2.tNil, tC, tVar, L2.tOp, L2.tUn, tSeq, tAsg, gName, tIfS, tTest, tNext, tAnd, tOr, tNot, L2.tIf, tFld, sFld, sFldAug, tCall, tTup, tB, tAug, tDrop, L2.tSl, tPart, tNoPart, tBM, tBM0, tChain, gTup, gCons, gNil, tPar, tIs, List.set, L2.start, iTup, L2.iList, L2.iRng1, tUn, tLst, tTest, gSub, tCall, L2.tIf, tCB, rRep, List.set, List.cons_append, List.nil_append, cxOf]
    refine ⟨_, rfl, (sl (Nat.le_of_ble_eq_true rfl)), fun p6 n6 => in_two upd_same ⟨_, rfl, if_no (decide_eq_false (by rintro (e | e); exact o9 e; exact o10 e)) ?_⟩⟩
    have s6 := s4.trans (same_new (o := .tup [V.str "seq", V.str "pipe"]) n6)
    have ha6 := s6 _ _ ha
    have dall : Dats K H (.str w :: xs) (((T.str w, none) :: (plain pre ++ (parted ks ++ plain post)) : Its).map (·.1)) := Dats.cons (.str wl) dxs
    have d6 := dall.up (same_stay (s1.trans s6))
    try dsimp only [L2.tRet, L2.tRetN, tAndV, tOrV, tNotV, tCB, L2.tCons, L2.tNil, tC, tVar, L2.tOp, L2.tUn, tSeq, tAsg, gName, tIfS, tTest, tNext, tAnd, tOr, tNot, L2.tIf, tFld, sFld, sFldAug, tCall, tTup, tB, tAug, tDrop, L2.tSl, tPart, tNoPart, tBM, tBM0, tChain, gTup, gCons, gNil, tPar, tIs, List.set, L2.start, iTup, L2.iList, L2.iRng1, tUn, tLst, tTest, gSub, tCall, L2.tIf, tCB, rRep, List.set, List.cons_append, List.nil_append, cxOf]
    refine lc_in ?_
    try dsimp only [L2.tRet, L2.tRetN, tAndV, tOrV, tNotV, tCB, L2.tCons, L2.tNil, tC, tVar, L2.tOp, L2.tUn, tSeq, tAsg, gName, tIfS, tTest, tNext, tAnd, tOr, tNot, L2.tIf, tFld, sFld, sFldAug, tCall, tTup, tB, tAug, tDrop, L2.tSl, tPart, tNoPart, tBM, tBM0, tChain, gTup, gCons, gNil, tPar, tIs, List.set, L2.start, iTup, L2.iList, L2.iRng1, tUn, tLst, tTest, gSub, tCall, L2.tIf, tCB, rRep, List.set, List.cons_append, List.nil_append, cxOf]
    refine ⟨_, rfl, a, rfl, ⟨_, sqt ha6⟩, lc_dat (is := (T.str w, none) :: (plain pre ++ (parted ks ++ plain post))) ?te d6 (sqt ha6) ?few fun D H3 s7 ld => ?_⟩
    case te =>
      intro i t o x H3 R eo dt s7 k
      have r : Right ((T.str w, none) :: (plain pre ++ (parted ks ++ plain post))) := by
        intro p m
        rcases List.mem_cons.mp m with rfl | m
        · exact .inl ⟨rfl, rfl⟩
        · exact ((right_plain l2).app ((right_parted ks).app (right_plain l3))) p m
      rcases r _ (List.mem_of_getElem? eo) with ⟨e1, e2⟩ | ⟨k0, e1, e2⟩
      · dsimp only at e1 e2
        subst e1
        exact ⟨x, t, rfl, dt, .inl ⟨e2, k x H3 same_id dt⟩⟩
      · dsimp only at e1 e2
        subst e1 e2
        have mk0 : k0 ∈ ks := by
          have z := kid_in eo
          have e : kidsOf ((T.str w, none) :: (plain pre ++ (parted ks ++ plain post))) = kidsOf (plain pre ++ (parted ks ++ plain post)) := rfl
          rw [e, kids_app, kids_app, kids_plain, kids_plain, kids_parted, List.nil_append, List.append_nil] at z
          exact z
        exact ⟨x, _, rfl, dt, .inr ⟨k0, rfl, rk k0 mk0, ht_kid hb mk0, k⟩⟩
    case few =>
      have lx := dxs.len
      rw [List.length_map, List.length_append, List.length_append] at lx
      unfold plain parted at lx
      rw [List.length_map, List.length_map, List.length_map] at lx
      rw [List.length_cons]
      omega
    obtain ⟨zs, ez, dz⟩ := ld
    refine ⟨D, zs, rfl, .inl ⟨.inl (.inl ez), fun p8 n8 => ?_⟩⟩
    have s8 := same_new (o := .tup zs) n8
    refine q _ _ ((((s1.trans s6).trans s7).trans s8)) ?_
    have z : enc (wrd (.mk false w pre ks post)) = .tup (((T.str w, none) :: (plain pre ++ (parted ks ++ plain post)) : Its).map outI) := by
      rw [List.map_cons, List.map_append, List.map_append, out_plain, out_parted, out_plain]
      show T.tup (T.str w :: (wpre w pre ++ (encs (wrds ks) ++ post))) = _
      rw [wp]
      rfl
    rw [z]
    exact (dz.up (same_stay s8)).tup upd_same
end
end Ck

/-! A plan that is drawn is a program. -/
namespace Ck
open PySem PySem.Spec PyProof.Rows L2
def RowsG : List (Str × Int) → Rows → Prop
  | _, [] => True
  | fs, r :: rs => r.1 ∉ fs.map (·.1) ∧ nameOk r.1 = true ∧ Okt C0 W0 3 2 (fs.map (·.1)) true 0 r.2 ∧ wei fs r.2 ≤ 500 ∧ ht r.2 ≤ 13 ∧ RowsG (fs ++ [(r.1, wei fs r.2)]) rs
theorem RowsG.snoc : ∀ {rs : Rows} {fs : List (Str × Int)} {r : Str × Tr}, RowsG fs rs → r.1 ∉ (grownW fs rs).map (·.1) → nameOk r.1 = true → Okt C0 W0 3 2 ((grownW fs rs).map (·.1)) true 0 r.2 → wei (grownW fs rs) r.2 ≤ 500 → ht r.2 ≤ 13 → RowsG fs (rs ++ [r])
  | [], fs, r, _, a, b, c, d, e => ⟨a, b, c, d, e, True.intro⟩
  | q :: rs, fs, r, g, a, b, c, d, e => by
    obtain ⟨g1, g2, g3, g4, g5, g6⟩ := g
    exact ⟨g1, g2, g3, g4, g5, RowsG.snoc (rs := rs) g6 a b c d e⟩
theorem RowsG.any : ∀ {rs : Rows} {fs : List (Str × Int)}, RowsG fs rs → RowsAny (fs.map (·.1)) rs
  | [], fs, _ => True.intro
  | q :: rs, fs, g => by
    obtain ⟨g1, g2, g3, g4, g5, g6⟩ := g
    have z := RowsG.any (rs := rs) g6
    rw [List.map_append] at z
    exact ⟨g1, ⟨_, _, _, _, _, _, g3⟩, by omega, z⟩
theorem look_app {f : Str} {v : Int} {z : Str} : ∀ {fs : List (Str × Int)}, ((fs ++ [(z, v)]).lookup f).getD 0 = if f ∈ fs.map (·.1) then (fs.lookup f).getD 0 else if f = z then v else 0
  | [] => by
    show (List.lookup f [(z, v)]).getD 0 = _
    by_cases c : f = z
    · subst c
      rw [List.lookup_cons]
      simp
    · have e : (f == z) = false := by simpa using c
      rw [List.lookup_cons, e]
      simp [c]
  | p :: fs => by
    by_cases c : f = p.1
    · subst c
      rw [List.cons_append, List.lookup_cons, List.lookup_cons]
      simp
    · have e : (f == p.1) = false := by simpa using c
      rw [List.cons_append, List.lookup_cons, List.lookup_cons, e]
      dsimp only
      rw [look_app (fs := fs)]
      simp only [List.map_cons, List.mem_cons, c, false_or]
theorem Le.snoc {fs gs : List (Str × Int)} {z : Str} {i j : Int} (l : Le gs fs) (n : gs.map (·.1) = fs.map (·.1)) (h : i ≤ j) (h0 : 0 ≤ j) : Le (gs ++ [(z, i)]) (fs ++ [(z, j)]) := by
  intro f
  rw [look_app, look_app, n]
  split
  · exact l f
  · split
    · exact h
    · exact Int.le_refl _
theorem NN.get {fs : List (Str × Int)} (n : NN fs) (f : Str) : 0 ≤ (fs.lookup f).getD 0 := by
  cases e : fs.lookup f with
  | none => exact Int.le_refl _
  | some v =>
    obtain ⟨u, eu, u0⟩ := look_some (look_mem e) n
    rw [e] at eu
    cases eu
    exact u0
/-- what becomes of a row -/
structure Turn (g : Tr → Tr) (C W : List Str) (N M : Int) : Prop where
  ok : ∀ {known i l t}, Okt C0 W0 3 2 known i l t → Okt C W N M known i l (g t)
  unf : ∀ fs t, unf fs (g t) = unf fs t
  ht : ∀ t, ht (g t) = ht t
  cnt : ∀ t, cnt (g t) = cnt t
def turned (g : Tr → Tr) (rs : Rows) : Rows := rs.map fun r => (r.1, g r.2)
section
variable {g : Tr → Tr} {C W : List Str} {N M : Int}
theorem RowsG.ok (U : Turn g C W N M) : ∀ {rs : Rows} {fs gs : List (Str × Int)}, RowsG fs rs → NN fs → Le gs fs → NN gs → gs.map (·.1) = fs.map (·.1) → RowsOk C W N M gs (turned g rs) ∧ Le (grown gs (turned g rs)) (grownW fs rs) ∧ NN (grown gs (turned g rs)) ∧ (grown gs (turned g rs)).map (·.1) = (grownW fs rs).map (·.1) ∧ tot (turned g rs) ≤ 500 * rs.length
  | [], fs, gs, _, _, l, nn, e => ⟨True.intro, l, nn, e, Nat.le_refl _⟩
  | r :: rs, fs, gs, gg, nf, l, nn, e => by
    obtain ⟨g1, g2, g3, g4, g5, g6⟩ := gg
    obtain ⟨u0, u1⟩ := unf_le l nn.get r.2 _ ⟨_, _, _, _, _, _, g3⟩
    have w1 := wei_pos nf r.2
    have nf2 : NN (fs ++ [(r.1, wei fs r.2)]) := nf.snoc (by omega)
    have l2 : Le (gs ++ [(r.1, unf gs (g r.2))]) (fs ++ [(r.1, wei fs r.2)]) := l.snoc e (by rw [U.unf]; exact u1) (by omega)
    have nn2 : NN (gs ++ [(r.1, unf gs (g r.2))]) := nn.snoc (by rw [U.unf]; exact u0)
    have e2 : (gs ++ [(r.1, unf gs (g r.2))]).map (·.1) = (fs ++ [(r.1, wei fs r.2)]).map (·.1) := by
      rw [List.map_append, List.map_append, e]
      rfl
    obtain ⟨h1, h2, h3, h4, h5⟩ := RowsG.ok U (rs := rs) g6 nf2 l2 nn2 e2
    refine ⟨⟨g2, look_none (by rw [e]; exact g1), ?_, ?_, ?_, h1⟩, h2, h3, h4, ?_⟩
    · show Okt C W N M (gs.map (·.1)) true 0 (g r.2)
      rw [e]
      exact U.ok g3
    · show unf gs (g r.2) ≤ 3000
      rw [U.unf]
      omega
    · show ht (g r.2) ≤ 30
      rw [U.ht]
      omega
    · show cnt (g r.2) + tot (turned g rs) ≤ 500 * (rs.length + 1)
      rw [U.cnt]
      omega
theorem prog_of (U : Turn g C W N M) (cd : CondW C W N M) (fw : W.length ≤ 40) (fc : C.length ≤ 60) {rs : Rows} {m : Tr} (gr : RowsG [] rs) (few : rs.length ≤ 3) (mo : Okt C0 W0 3 2 ((grownW [] rs).map (·.1)) false 0 m) (mw : wei (grownW [] rs) m ≤ 502) (mh : ht m ≤ 20) : ProgOk C W N M (turned g rs) (g m) := by
  have nil : NN [] := fun p q => by cases q
  obtain ⟨h1, h2, h3, h4, h5⟩ := RowsG.ok U gr nil (fun f => Int.le_refl _) nil rfl
  obtain ⟨u0, u1⟩ := unf_le h2 h3.get m _ ⟨_, _, _, _, _, _, mo⟩
  have w1 := wei_pos (NN.grownW rs nil) m
  refine ⟨cd, ?_, fw, fc, h1, ?_, ?_, ?_, ?_⟩
  · unfold turned
    rw [List.length_map]
    omega
  · rw [h4]
    exact U.ok mo
  · rw [U.unf]
    omega
  · rw [U.ht]
    omega
  · rw [U.cnt]
    omega
end
theorem turn_id : Turn id C0 W0 3 2 := ⟨fun o => o, fun _ _ => rfl, fun _ => rfl, fun _ => rfl⟩
theorem turn_wrd : Turn wrd C1 W1 255 255 := ⟨wrd_ok, wrd_unf, wrd_ht, wrd_cnt⟩
theorem cond0 : CondW C0 W0 3 2 := ⟨by decide +kernel, by decide +kernel, by decide, by decide⟩
theorem cond1 : CondW C1 W1 255 255 := ⟨by decide +kernel, by decide +kernel, by decide, by decide⟩
theorem turned_id (rs : Rows) : turned id rs = rs := by
  unfold turned
  have e : (fun r : Str × Tr => (r.1, id r.2)) = id := by
    funext r
    rfl
  rw [e, List.map_id]
/-- some program that is right -/
def IsProg (rs : Rows) (m : Tr) : Prop := ∃ C W N M, ProgOk C W N M rs m
theorem prog_plain {rs : Rows} {m : Tr} (gr : RowsG [] rs) (few : rs.length ≤ 3) (mo : Okt C0 W0 3 2 ((grownW [] rs).map (·.1)) false 0 m) (mw : wei (grownW [] rs) m ≤ 502) (mh : ht m ≤ 20) : IsProg rs m := by
  have z := prog_of turn_id cond0 (by decide) (by decide) gr few mo mw mh
  rw [turned_id] at z
  exact ⟨_, _, _, _, z⟩
theorem prog_worded {rs : Rows} {m : Tr} (gr : RowsG [] rs) (few : rs.length ≤ 3) (mo : Okt C0 W0 3 2 ((grownW [] rs).map (·.1)) false 0 m) (mw : wei (grownW [] rs) m ≤ 502) (mh : ht m ≤ 20) : IsProg (turned wrd rs) (wrd m) :=
  ⟨_, _, _, _, prog_of turn_wrd cond1 (by decide) (by decide) gr few mo mw mh⟩
end Ck

namespace Ck
open PySem PySem.Spec PyProof.Rows L2
section
variable {X : Cx} {P : Program} {w : World} {K : PySem.W.Frag} {mg : Str → Option Value} {base : Heap} {H H1 H2 : Hp} {l : Addr} {dR dS : Addr} {adr : Kind → Addr}
/-- list(a list) -/
theorem prl_list {e : Expr} {p pos : Pos} {C : L2.St → Hp → TsSet → Prop} (mt : X.mg "list" = none) (hg : Gl X "list") (ha : PRl X l e C) (h1 : starEach [e] X.env = (false, eval e X.env) :: starEach [] X.env := by rfl) (h2 : ((backTo pos (starEach [] X.env)).any fun x => x.1) = false := by rfl) :
    PRl X l (.Call (.Name "list" p) [e] [] pos) C :=
  ⟨pe_imp (pe_callTy call_list_of hg mt (by decide +kernel) (pa_cons ha.pe pa_nil h1) (by decide) (by decide) h1 h2) fun σ H Q ⟨D, c, s, q⟩ =>
    ⟨D, c, s, fun ts a H1 d1 r1 na ⟨xs, ex, dx⟩ => ⟨a, xs, rfl, .inl (.inl (.inl ex)), fun p n => q _ _ _ d1 (r1.new n) (r1.sr.ne n) ⟨xs, upd_same, dx.up (same_stay (same_new n))⟩⟩⟩, ha.up⟩
abbrev fgh : List Str := ["f", "g", "h"]
theorem take_known {i : Nat} (h : i ≤ 3) : fgh.take i ∈ knowns := by
  obtain rfl | rfl | rfl | rfl : i = 0 ∨ i = 1 ∨ i = 2 ∨ i = 3 := by omega
  all_goals decide
theorem fgh_facts {i : Nat} {z : Str} (h : fgh[i]? = some z) : nameOk z = true ∧ z.length ≤ 100 := by
  have m : ∀ z ∈ fgh, nameOk z = true ∧ z.length ≤ 100 := by decide +kernel
  exact m z (List.mem_of_getElem? h)
theorem fgh_new {i : Nat} {z : Str} (l : i < 3) (h : fgh[i]? = some z) : z ∉ fgh.take i := by
  obtain rfl | rfl | rfl : i = 0 ∨ i = 1 ∨ i = 2 := by omega
  all_goals (cases h; decide)
theorem RowsG.at : ∀ {rs : Rows} {fs : List (Str × Int)} {i : Nat} {r : Str × Tr}, RowsG fs rs → rs[i]? = some r → Raw r.2 ∧ ht r.2 ≤ 20
  | [], _, _, _, _, h => by cases h
  | q :: rs, fs, 0, r, g, h => by
    cases h
    obtain ⟨_, _, g3, _, g5, _⟩ := g
    exact ⟨⟨_, _, _, g3⟩, by omega⟩
  | q :: rs, fs, i + 1, r, g, h => RowsG.at (rs := rs) (i := i) g.2.2.2.2.2 h
abbrev sPlan : Stmt := topS 61
abbrev NPl : List Str := ["_law_source_here", "_law_many", "_law_deep", "_law_rows", "_law_known", "_law_k", "_law_body", "_law_main", "_law_title"]
abbrev PPl : List Str := ["_law_source_here", "_law_many", "_law_deep"]
theorem scPl : FnScope NPl PPl (defScope sPlan) := ⟨rfl, rfl, rfl, by decide +kernel, rfl, by decide +kernel, by decide +kernel⟩
def spPlan (K : PySem.W.Frag) : Sp := fun vs H Q _ => ∃ l, vs = [.ref l, .int 3, .int 6] ∧ Sr l H ∧ ∀ v H' rs m, IsProg rs m → Dr l H H' → Dat K H' v (encP rs m) → Q v H'
abbrev GLi (P : Program) (w : World) (K : PySem.W.Frag) (mg : Str → Option Value) (base : Heap) : Prop := Go P w K mg base CX0 22 "_law_light" PLi (spLig K)
def tRowW (K : PySem.W.Frag) : TE := fun σ H Q => ∃ (r : Str × Tr) (v : V), σ[8]? = some (some (.str r.1)) ∧ σ[6]? = some (some v) ∧ Dat K H v (enc r.2) ∧ Raw r.2 ∧ ht r.2 ≤ 20 ∧ r.1.length ≤ 100 ∧ ∀ p H', Same H H' → Dat K H' (.ref p) (encF (r.1, wrd r.2)) → Q (.ref p) H'
theorem tRowW_is {E : XK} (σ : L2.St) (H : Hp) (Q : VK) (z : tRowW K σ H Q) : tTup (tCons (tVar 8) (tCons (tCall (spWrd K 20) [] E (tCons (tVar 6) tNil)) tNil)) σ H Q := by
  obtain ⟨r, v, s8, s6, d, rk, hk, wl, q⟩ := z
  try dsimp only [L2.tRet, L2.tRetN, tAndV, tOrV, tNotV, tCB, L2.tCons, L2.tNil, tC, tVar, L2.tOp, L2.tUn, tSeq, tAsg, gName, tIfS, tTest, tNext, tAnd, tOr, tNot, L2.tIf, tFld, sFld, sFldAug, tCall, tTup, tB, tAug, tDrop, L2.tSl, tPart, tNoPart, tBM, tBM0, tChain, gTup, gCons, gNil, tPar, tIs, List.set, L2.start, iTup, L2.iList, L2.iRng1, tUn, tLst, tTest, gSub, tCall, L2.tIf, tCB, rRep, List.set, List.cons_append, List.nil_append, cxOf]
  refine ⟨_, s8, _, s6, v, r.2, rfl, d, hk, rk, fun v' H' s1 d1 => ⟨sl (Nat.le_of_ble_eq_true rfl), fun p np => ?_⟩⟩
  exact q p _ (s1.trans (same_new np)) (Dats.tup (.cons (.str wl) (.cons (d1.up (same_stay (same_new np))) .nil)) upd_same)
theorem ok_plan {f : Addr} {fd : FuncData} (F : Fun K "_law_plan" "_law_plan" sPlan f fd) (M : Mg mg) (GT : GTk P w K mg base) (GR : GTr P w K mg base 6) (GL : GLi P w K mg base) (GW : GWr P w K mg base 20) : FnOk P w K mg base CX0 104 f fd PPl (spPlan K) := by
  refine F.ok scPl (fun vs H Q E h => ?_) (fun cdv A outer s H vs Q E hr hh => ?_)
  · obtain ⟨_, rfl, _⟩ := h
    rfl
  obtain ⟨l, rfl, sr, q⟩ := hh
  have hr8 := hr.mono (j := 88) (by decide)
  have hrL := hr.mono (j := 22) (by decide)
  have hrW := hr.mono (j := 21) (by decide)
  refine ⟨_, (pss_cons (ps_par rfl scPl.nd (i := 3) (j := 4) rfl rfl (by decide) rfl rfl (pa_cons (pe_lst pa_nil) (pa_cons (pe_lst pa_nil) pa_nil)) (by rfl)) (pss_cons (ps_for PassesOwn.never rfl (pi_range1 rfl M.mr (pa_cons (pe_r (pr_take (l := l) GT hr8 rfl (pv 0) (pr_binD op_add (pr_var 1 (pv 1)) pr_int))) pa_nil)) (pg_name (i := 5) scPl.nd rfl (.inl rfl))
      (pss_cons (ps_set (i := 6) scPl.nd rfl (.inl rfl) (pe_r (pr_tree (l := l) GR hr rfl (pv 0) (pr_binD op_sub (pr_var 2 (pv 2)) pr_int) pr_int pr_bool (prl_list M.ls rfl (prl_var 4 (pv 4)))))) (pss_cons (ps_expr (pe_bm PySem.F.plainAttrs_list PySem.F.slot_list_append PySem.F.type_list_append mt_append (pv 3) (pa_cons (pe_tup (pa_cons (pe_ix ix_list (pe_lst (pa_cons pe_str (pa_cons pe_str (pa_cons pe_str pa_nil)))) (pv 5) fun _ _ => rfl) (pa_cons (pe_go (E := fun _ _ _ => False) GL hrL pass0 rfl (pa_cons (pv 6) (pa_cons (pv 3) pa_nil))) pa_nil))) pa_nil))) (pss_one (ps_expr (pe_bm PySem.F.plainAttrs_list PySem.F.slot_list_append PySem.F.type_list_append mt_append (pv 4) (pa_cons (pe_ix ix_tup (pe_ix ix_list (pv 3) (pe_un un_neg pe_int) fun _ _ => rfl) pe_int fun _ _ => rfl) pa_nil))))))) (pss_cons (ps_set (i := 7) scPl.nd rfl (.inl rfl) (pe_go (E := fun _ _ _ => False) GL hrL pass0 rfl (pa_cons (pe_r (pr_tree (l := l) GR hr rfl (pv 0) (pr_var 2 (pv 2)) pr_int pr_bool (prl_list M.ls rfl (prl_var 4 (pv 4))))) (pa_cons (pv 3) pa_nil)))) (pss_cons (ps_set (i := 7) scPl.nd rfl (.inl rfl) (pe_ifExp (pt_cmpR op_eq (pe_r (pr_take (l := l) GT hr8 rfl (pv 0) pr_int)) pe_int rfl) (pe_r (pr_tup (l := l) (prs_cons pr_str (prs_cons (pr_tup (prs_cons (pr_var 7 (pv 7)) (prs_cons (pr_tup (prs_cons pr_str (prs_cons pr_str prs_nil))) prs_nil))) prs_nil)))) (pv 7))) (pss_cons (ps_if (pt_cmpR op_eq (pe_r (pr_take (l := l) GT hr8 rfl (pv 0) pr_int)) pe_int rfl) (pss_one (ps_ret (pe_tup (pa_cons (pe_callTy call_tuple_of rfl M.mt (by decide +kernel) (pa_cons (pe_lc (te := tRowW K) (own := [("_law_title", 8), ("_law_body", 6)]) (g := gTup K 2 (gCons (gName 8) (gCons (gName 6) gNil))) (tt := tYes) rfl scPl.nd (pi_list (pv 3)) (blkOk_by (N := NPl) (sc := defScope sPlan) (by decide +kernel)) (fun _ _ _ _ _ => pg_tup rfl (L2.pgs_cons (pg_name (i := 8) scPl.nd rfl (.inl rfl)) (L2.pgs_cons (pg_name (i := 6) scPl.nd rfl (.inl rfl)) L2.pgs_nil))) (fun _ _ _ _ _ => pts_nil)
      (fun _ _ _ _ _ => pe_imp (pe_tup (pa_cons (pv 8) (pa_cons (pe_go (E := fun _ _ _ => False) GW hrW pass0 rfl (pa_cons (pv 6) pa_nil)) pa_nil))) tRowW_is)) pa_nil) (by decide) (by decide)) (pa_cons (pe_go (E := fun _ _ _ => False) GW hrW pass0 rfl (pa_cons (pv 7) pa_nil)) pa_nil))))) pss_nil) (pss_one (ps_ret (pe_tup (pa_cons (pe_callTy call_tuple_of rfl M.mt (by decide +kernel) (pa_cons (pv 3) pa_nil) (by decide) (by decide)) (pa_cons (pv 7) pa_nil)))))))))), ?_⟩
  try dsimp only [L2.tRet, L2.tRetN, tAndV, tOrV, tNotV, tCB, L2.tCons, L2.tNil, tC, tVar, L2.tOp, L2.tUn, tSeq, tAsg, gName, tIfS, tTest, tNext, tAnd, tOr, tNot, L2.tIf, tFld, sFld, sFldAug, tCall, tTup, tB, tAug, tDrop, L2.tSl, tPart, tNoPart, tBM, tBM0, tChain, gTup, gCons, gNil, tPar, tIs, List.set, L2.start, iTup, L2.iList, L2.iRng1, tUn, tLst, tTest, gSub, tCall, L2.tIf, tCB, rRep, List.set, List.cons_append, List.nil_append, cxOf]
  refine ⟨sl (Nat.zero_le _), fun rl nrl => ⟨sl (Nat.zero_le _), fun kl nkl => ⟨_, _, rfl, ?_⟩⟩⟩
  have nk : kl ≠ rl := Ne.symm (ne_of_none (upd_same (H := H) (o := .lst [])) nkl)
  have hkl : H kl = none := by
    rw [upd_ne nk] at nkl
    exact nkl
  have rnl := sr.ne nrl
  have knl := sr.ne hkl
  have r0 := ((Dr.refl sr).new (o := .lst []) nrl).new (o := .lst []) nkl
  have e1 : upd (upd H rl (.lst [])) kl (.lst []) rl = some (.lst []) := by rw [upd_ne (Ne.symm nk)]; exact upd_same
  have e2 : upd (upd H rl (.lst [])) kl (.lst []) kl = some (.lst []) := upd_same
  generalize upd (upd H rl (.lst [])) kl (.lst []) = G0 at r0 e1 e2 ⊢
  have sr0 := r0.sr
  refine loop_in ?_
  try dsimp only [L2.tRet, L2.tRetN, tAndV, tOrV, tNotV, tCB, L2.tCons, L2.tNil, tC, tVar, L2.tOp, L2.tUn, tSeq, tAsg, gName, tIfS, tTest, tNext, tAnd, tOr, tNot, L2.tIf, tFld, sFld, sFldAug, tCall, tTup, tB, tAug, tDrop, L2.tSl, tPart, tNoPart, tBM, tBM0, tChain, gTup, gCons, gNil, tPar, tIs, List.set, L2.start, iTup, L2.iList, L2.iRng1, tUn, tLst, tTest, gSub, tCall, L2.tIf, tCB, rRep, List.set, List.cons_append, List.nil_append, cxOf]
  refine' Exists.intro _ ⟨?_, by assumption, ?_⟩
  rotate_left 1
  · (repeat' (first | rfl | exact Dat.int _ | exact Dat.bl _ | (refine (?_ : Dat _ _ _ _); assumption) | (refine (?_ : LD _ _ _ _); assumption) | (refine (?_ : _ ≠ _); assumption) | refine' Exists.intro _ ?_ | refine And.intro ?_ ?_))
    all_goals (first | (first | (rintro _ rfl; exact ⟨_, rfl, by decide, by decide⟩) | (intro ts h; (repeat (obtain ⟨_, _, rfl, _, h⟩ := h)); (try cases h); exact Nat.le_of_ble_eq_true rfl) | (intro ts h; (repeat (obtain ⟨_, _, rfl, _, h⟩ := h)); (try cases h); exact ⟨List.cons_ne_nil _ _, Nat.le_of_ble_eq_true rfl⟩) | (rintro _ _ rfl rfl; exact ⟨_, _, rfl, rfl⟩)))
  rintro _ vn H1 ⟨_, r, ⟨⟩, q0, q1, rfl⟩ r1 dn
  cases dat_int dn
  obtain ⟨n, rfl⟩ := Int.eq_ofNat_of_zero_le q0
  have ld1 : LD K H1 rl ([].map encF) := ⟨[], r1.keep _ _ rnl e1, .nil⟩
  have ld2 : LD K H1 kl (([].map (·.1 : Str × Tr → Str)).map T.str) := ⟨[], r1.keep _ _ knl e2, .nil⟩
  refine ⟨(n : Nat), rfl, by omega, by omega, loop_range (lo := 0) (n := n) (fun i σ H' => ∃ rs v5 v6, σ = [some (.ref l), some (.int 3), some (.int 6), some (.ref rl), some (.ref kl), v5, v6, none, none] ∧ rs.length = i ∧ LD K H' rl (rs.map encF) ∧ LD K H' kl ((rs.map (·.1)).map T.str) ∧ rs.map (·.1) = fgh.take i ∧ RowsG [] rs ∧ Dr l H H') ⟨[], _, _, rfl, rfl, ld1, ld2, rfl, True.intro, r0.trans r1⟩ ?hs ?hd⟩
  case hs =>
    rintro i σ H2 li ⟨rs, v5, v6, rfl, len, lr, lk, nm, gr, r2⟩
    have i3 : i < 3 := by omega
    have sr2 := r2.sr
    have mk : rs.map (·.1) ∈ knowns := by
      rw [nm]
      exact take_known (by omega)
    try dsimp only [L2.tRet, L2.tRetN, tAndV, tOrV, tNotV, tCB, L2.tCons, L2.tNil, tC, tVar, L2.tOp, L2.tUn, tSeq, tAsg, gName, tIfS, tTest, tNext, tAnd, tOr, tNot, L2.tIf, tFld, sFld, sFldAug, tCall, tTup, tB, tAug, tDrop, L2.tSl, tPart, tNoPart, tBM, tBM0, tChain, gTup, gCons, gNil, tPar, tIs, List.set, L2.start, iTup, L2.iList, L2.iRng1, tUn, tLst, tTest, gSub, tCall, L2.tIf, tCB, rRep, List.set, List.cons_append, List.nil_append, cxOf]
    refine' Exists.intro _ ⟨?_, by assumption, ?_⟩
    rotate_left 1
    · (repeat' (first | rfl | exact Dat.int _ | exact Dat.bl _ | (refine (?_ : Dat _ _ _ _); assumption) | (refine (?_ : LD _ _ _ _); assumption) | (refine (?_ : _ ≠ _); assumption) | refine' Exists.intro _ ?_ | refine And.intro ?_ ?_))
      all_goals (first | (first | (rintro _ rfl; exact ⟨_, rfl, by decide, by decide⟩) | (intro ts h; (repeat (obtain ⟨_, _, rfl, _, h⟩ := h)); (try cases h); exact Nat.le_of_ble_eq_true rfl) | (intro ts h; (repeat (obtain ⟨_, _, rfl, _, h⟩ := h)); (try cases h); exact ⟨List.cons_ne_nil _ _, Nat.le_of_ble_eq_true rfl⟩) | (rintro _ _ rfl rfl; exact ⟨_, _, rfl, rfl⟩)) | (exact mk) | (show (0 : Nat) + 6 ≤ 100; omega) | (show (6 : Int) - 1 ≤ ((6 : Nat) : Int); omega))
    rintro _ v6 H3 ⟨tr, rfl, g⟩ r3 d6
    have sr3 := r3.sr
    replace lr := lr.dr r3 rnl
    replace lk := lk.dr r3 knl
    try dsimp only [L2.tRet, L2.tRetN, tAndV, tOrV, tNotV, tCB, L2.tCons, L2.tNil, tC, tVar, L2.tOp, L2.tUn, tSeq, tAsg, gName, tIfS, tTest, tNext, tAnd, tOr, tNot, L2.tIf, tFld, sFld, sFldAug, tCall, tTup, tB, tAug, tDrop, L2.tSl, tPart, tNoPart, tBM, tBM0, tChain, gTup, gCons, gNil, tPar, tIs, List.set, L2.start, iTup, L2.iList, L2.iRng1, tUn, tLst, tTest, gSub, tCall, L2.tIf, tCB, rRep, List.set, List.cons_append, List.nil_append, cxOf]
    obtain ⟨xr, er, dr⟩ := lr
    refine ⟨_, rfl, .inl ⟨rfl, _, .inl (.inl er)⟩, ?_⟩
    obtain ⟨z, ez⟩ : ∃ z, fgh[i]? = some z := ⟨_, List.getElem?_eq_getElem (by show i < 3; exact i3)⟩
    have zn := fgh_facts ez
    refine ⟨sl (Nat.le_of_ble_eq_true rfl), fun p np => ⟨_, rfl, p, _, _, .str z, rfl, rfl, .inl (.inl upd_same), ?_, ?_⟩⟩
    · rw [Int.zero_add]
      refine atI_nat ?_
      show (fgh.map V.str)[i]? = _
      rw [List.getElem?_map, ez]
      rfl
    have s4 := same_new (o := .lst [V.str "f", V.str "g", V.str "h"]) np
    have fs1 := grownW_fst rs []
    rw [List.map_nil, List.nil_append] at fs1
    refine ⟨_, rfl, _, rfl, v6, rl, tr, rs, rfl, d6.up (same_stay s4), by have := g.2; omega, ⟨_, _, _, _, _, _, g.1⟩, gr.any, ⟨xr, s4 _ _ er, dr.up (same_stay s4)⟩, by omega, fun v8 H5 tr2 s5 d8 lig => ?_⟩
    refine ⟨sl (Nat.le_of_ble_eq_true rfl), fun p2 np2 => ?_⟩
    have s6 := same_new (o := .tup [V.str z, v8]) np2
    have s36 := (s4.trans s5).trans s6
    have er6 := s36 _ _ er
    have g6 : ∀ xs, (upd H5 p2 (.tup [V.str z, v8])) rl ≠ some (.tup xs) := fun xs e => by rw [er6] at e; cases e
    have r6 := ((r2.trans r3).trans (.same sr3 s36))
    have lk6 := lk.up s36
    have dp : Dat K (upd H5 p2 (.tup [V.str z, v8])) (.ref p2) (encF (z, tr2)) := Dats.tup (.cons (.str zn.2) (.cons (d8.up (same_stay s6)) .nil)) upd_same
    have dr6 := dr.up (same_stay s36)
    have xl := dr.len
    rw [List.length_map, len] at xl
    refine ⟨rl, xr, _, rfl, rfl, er6, Nat.lt_of_lt_of_le (show xr.length < 1000 by omega) (sl (by decide)), ?_⟩
    generalize upd H5 p2 (.tup [V.str z, v8]) = G6 at er6 g6 r6 lk6 dp dr6 ⊢
    obtain ⟨xk, ek, dk⟩ := lk6
    have ek7 : upd G6 rl (.lst (xr ++ [.ref p2])) kl = some (.lst xk) := by rw [upd_ne nk]; exact ek
    have st7 : Stay G6 (upd G6 rl (.lst (xr ++ [.ref p2]))) := stay_lst er6
    have r7 : Dr l H (upd G6 rl (.lst (xr ++ [.ref p2]))) := r6.put nrl rnl g6
    have er7 : upd G6 rl (.lst (xr ++ [.ref p2])) rl = some (.lst (xr ++ [.ref p2])) := upd_same
    have dp7 := dp.up st7
    have dr7 := dr6.up st7
    have dk7 := dk.up st7
    generalize upd G6 rl (.lst (xr ++ [.ref p2])) = G7 at ek7 r7 er7 dp7 dr7 dk7 ⊢
    obtain ⟨a, ys, ea, ha, dys⟩ := dat_tup dp7
    cases ea
    obtain ⟨y0, us, rfl, dz, _⟩ := dats_cons dys
    cases dat_str dz
    have kl2 := dk.len
    rw [List.length_map, List.length_map, len] at kl2
    try dsimp only [L2.tRet, L2.tRetN, tAndV, tOrV, tNotV, tCB, L2.tCons, L2.tNil, tC, tVar, L2.tOp, L2.tUn, tSeq, tAsg, gName, tIfS, tTest, tNext, tAnd, tOr, tNot, L2.tIf, tFld, sFld, sFldAug, tCall, tTup, tB, tAug, tDrop, L2.tSl, tPart, tNoPart, tBM, tBM0, tChain, gTup, gCons, gNil, tPar, tIs, List.set, L2.start, iTup, L2.iList, L2.iRng1, tUn, tLst, tTest, gSub, tCall, L2.tIf, tCB, rRep, List.set, List.cons_append, List.nil_append, cxOf]
    refine ⟨_, rfl, .inl ⟨rfl, _, .inl (.inl ek7)⟩, _, rfl, _, rfl, rl, _, _, _, rfl, rfl, .inl (.inl er7), L2.atI_last _ _, p2, _, _, _, rfl, rfl, sqt ha, atI_nat (j := 0) rfl, kl, xk, _, rfl, rfl, ek7, Nat.lt_of_lt_of_le (show xk.length < 1000 by omega) (sl (by decide)), ?_⟩
    have st8 : Stay G7 (upd G7 kl (.lst (xk ++ [.str z]))) := stay_lst ek7
    have nm2 : (rs ++ [(z, tr2)]).map (·.1) = fgh.take (i + 1) := by
      rw [List.map_append, nm, List.take_add_one, ez]
      rfl
    refine ⟨rs ++ [(z, tr2)], _, _, rfl, by rw [List.length_append, len]; rfl, ?_, ?_, nm2, ?_, r7.put hkl knl (fun xs e => by rw [ek7] at e; cases e)⟩
    · refine ⟨xr ++ [.ref p2], by rw [upd_ne (Ne.symm nk)]; exact er7, ?_⟩
      rw [List.map_append]
      exact (dr7.app (.cons dp7 .nil)).up st8
    · refine ⟨xk ++ [.str z], upd_same, ?_⟩
      rw [List.map_append, List.map_append]
      exact (dk7.app (.cons (.str zn.2) .nil)).up st8
    · have nz : z ∉ rs.map (·.1) := by
        rw [nm]
        exact fgh_new i3 ez
      rcases lig with ⟨rfl, w5⟩ | rfl
      · exact gr.snoc (by rw [fs1]; exact nz) zn.1 (by rw [fs1]; exact g.1) w5 (by have := g.2; show ht _ ≤ 13; omega)
      · exact gr.snoc (by rw [fs1]; exact nz) zn.1 (.run (by decide)) (by show (1 : Int) + 0 + 0 ≤ 500; decide) (by show 1 ≤ 13; decide)
  case hd =>
    rintro σ H2 ⟨rs, v5, v6, rfl, len, lr, lk, nm, gr, r2⟩
    have sr2 := r2.sr
    have mk : rs.map (·.1) ∈ knowns := by
      rw [nm]
      exact take_known (by omega)
    have fs1 := grownW_fst rs []
    rw [List.map_nil, List.nil_append] at fs1
    try dsimp only [L2.tRet, L2.tRetN, tAndV, tOrV, tNotV, tCB, L2.tCons, L2.tNil, tC, tVar, L2.tOp, L2.tUn, tSeq, tAsg, gName, tIfS, tTest, tNext, tAnd, tOr, tNot, L2.tIf, tFld, sFld, sFldAug, tCall, tTup, tB, tAug, tDrop, L2.tSl, tPart, tNoPart, tBM, tBM0, tChain, gTup, gCons, gNil, tPar, tIs, List.set, L2.start, iTup, L2.iList, L2.iRng1, tUn, tLst, tTest, gSub, tCall, L2.tIf, tCB, rRep, List.set, List.cons_append, List.nil_append, cxOf]
    refine' Exists.intro _ ⟨?_, by assumption, ?_⟩
    rotate_left 1
    · (repeat' (first | rfl | exact Dat.int _ | exact Dat.bl _ | (refine (?_ : Dat _ _ _ _); assumption) | (refine (?_ : LD _ _ _ _); assumption) | (refine (?_ : _ ≠ _); assumption) | refine' Exists.intro _ ?_ | refine And.intro ?_ ?_))
      all_goals (first | (first | (rintro _ rfl; exact ⟨_, rfl, by decide, by decide⟩) | (intro ts h; (repeat (obtain ⟨_, _, rfl, _, h⟩ := h)); (try cases h); exact Nat.le_of_ble_eq_true rfl) | (intro ts h; (repeat (obtain ⟨_, _, rfl, _, h⟩ := h)); (try cases h); exact ⟨List.cons_ne_nil _ _, Nat.le_of_ble_eq_true rfl⟩) | (rintro _ _ rfl rfl; exact ⟨_, _, rfl, rfl⟩)) | (exact mk) | (show (0 : Nat) + 6 ≤ 100; omega) | (show (6 : Int) ≤ ((6 : Nat) : Int); omega))
    rintro _ vt H3 ⟨tr, rfl, g⟩ r3 dt
    have sr3 := r3.sr
    replace lr := lr.dr r3 rnl
    refine ⟨_, rfl, vt, rl, tr, rs, rfl, dt, by have := g.2; omega, ⟨_, _, _, _, _, _, g.1⟩, gr.any, lr, by omega, fun v7 H5 tr2 s5 d7 lig => ?_⟩
    have r5 := (r2.trans r3).trans (.same sr3 s5)
    have sr5 := r5.sr
    have lr5 := lr.up s5
    have mo0 : Okt C0 W0 3 2 (rs.map (·.1)) false 0 tr2 := by
      rcases lig with ⟨rfl, _⟩ | rfl
      · exact g.1
      · exact .run (by decide)
    have mw0 : wei (grownW [] rs) tr2 ≤ 500 := by
      rcases lig with ⟨rfl, w5⟩ | rfl
      · exact w5
      · show (1 : Int) + 0 + 0 ≤ 500
        decide
    have mh0 : ht tr2 ≤ 13 := by
      rcases lig with ⟨rfl, w5⟩ | rfl
      · have := g.2
        omega
      · show 1 ≤ 13
        decide
    try dsimp only [L2.tRet, L2.tRetN, tAndV, tOrV, tNotV, tCB, L2.tCons, L2.tNil, tC, tVar, L2.tOp, L2.tUn, tSeq, tAsg, gName, tIfS, tTest, tNext, tAnd, tOr, tNot, L2.tIf, tFld, sFld, sFldAug, tCall, tTup, tB, tAug, tDrop, L2.tSl, tPart, tNoPart, tBM, tBM0, tChain, gTup, gCons, gNil, tPar, tIs, List.set, L2.start, iTup, L2.iList, L2.iRng1, tUn, tLst, tTest, gSub, tCall, L2.tIf, tCB, rRep, List.set, List.cons_append, List.nil_append, cxOf]
    refine' Exists.intro _ ⟨?_, by assumption, ?_⟩
    rotate_left 1
    · (repeat' (first | rfl | exact Dat.int _ | exact Dat.bl _ | (refine (?_ : Dat _ _ _ _); assumption) | (refine (?_ : LD _ _ _ _); assumption) | (refine (?_ : _ ≠ _); assumption) | refine' Exists.intro _ ?_ | refine And.intro ?_ ?_))
      all_goals (first | (first | (rintro _ rfl; exact ⟨_, rfl, by decide, by decide⟩) | (intro ts h; (repeat (obtain ⟨_, _, rfl, _, h⟩ := h)); (try cases h); exact Nat.le_of_ble_eq_true rfl) | (intro ts h; (repeat (obtain ⟨_, _, rfl, _, h⟩ := h)); (try cases h); exact ⟨List.cons_ne_nil _ _, Nat.le_of_ble_eq_true rfl⟩) | (rintro _ _ rfl rfl; exact ⟨_, _, rfl, rfl⟩)))
    rintro _ vq H6 ⟨_, r, ⟨⟩, q0, q1, rfl⟩ r6 dq
    cases dat_int dq
    have r56 := r5.trans r6
    have sr6 := r6.sr
    have d7b := d7.up r6.st
    have lr6 := lr5.dr r6 rnl
    refine ⟨rfl, _, rfl, ?_⟩
    by_cases c1 : V.int r = V.int 0
    · refine if_yes (decide_eq_true c1) ?_
      try dsimp only [L2.tRet, L2.tRetN, tAndV, tOrV, tNotV, tCB, L2.tCons, L2.tNil, tC, tVar, L2.tOp, L2.tUn, tSeq, tAsg, gName, tIfS, tTest, tNext, tAnd, tOr, tNot, L2.tIf, tFld, sFld, sFldAug, tCall, tTup, tB, tAug, tDrop, L2.tSl, tPart, tNoPart, tBM, tBM0, tChain, gTup, gCons, gNil, tPar, tIs, List.set, L2.start, iTup, L2.iList, L2.iRng1, tUn, tLst, tTest, gSub, tCall, L2.tIf, tCB, rRep, List.set, List.cons_append, List.nil_append, cxOf]
      refine' Exists.intro _ ⟨?_, by assumption, ?_⟩
      rotate_left 1
      · (repeat' (first | rfl | exact Dat.int _ | exact Dat.bl _ | (refine (?_ : Dat _ _ _ _); assumption) | (refine (?_ : LD _ _ _ _); assumption) | (refine (?_ : _ ≠ _); assumption) | refine' Exists.intro _ ?_ | refine And.intro ?_ ?_))
        all_goals (first | (first | (rintro _ rfl; exact ⟨_, rfl, by decide, by decide⟩) | (intro ts h; (repeat (obtain ⟨_, _, rfl, _, h⟩ := h)); (try cases h); exact Nat.le_of_ble_eq_true rfl) | (intro ts h; (repeat (obtain ⟨_, _, rfl, _, h⟩ := h)); (try cases h); exact ⟨List.cons_ne_nil _ _, Nat.le_of_ble_eq_true rfl⟩) | (rintro _ _ rfl rfl; exact ⟨_, _, rfl, rfl⟩)))
      rintro _ v8 H7 ⟨_, rfl, _, _, rfl, rfl, _, _, rfl, ⟨_, rfl, _, _, rfl, rfl, _, _, rfl, ⟨_, rfl, _, _, rfl, rfl, _, _, rfl, rfl, rfl⟩, rfl⟩, rfl⟩ r7 d8
      have r567 := r56.trans r7
      have lr7 := lr6.dr r7 rnl
      have mo : Okt C0 W0 3 2 (rs.map (·.1)) false 0 (.mk true "seq" [] [tr2, rA] []) := .seq ⟨by simp, by simp⟩ (all_two mo0 (.run (by decide)))
      have mw : wei (grownW [] rs) (.mk true "seq" [] [tr2, rA] []) ≤ 502 := by
        show 1 + (wei (grownW [] rs) tr2 + (1 + 0 + 0 + 0)) + 0 ≤ 502
        omega
      have mh : ht (.mk true "seq" [] [tr2, rA] []) ≤ 14 := by
        show 1 + max (ht tr2) (max 1 0) ≤ 14
        omega
      try dsimp only [L2.tRet, L2.tRetN, tAndV, tOrV, tNotV, tCB, L2.tCons, L2.tNil, tC, tVar, L2.tOp, L2.tUn, tSeq, tAsg, gName, tIfS, tTest, tNext, tAnd, tOr, tNot, L2.tIf, tFld, sFld, sFldAug, tCall, tTup, tB, tAug, tDrop, L2.tSl, tPart, tNoPart, tBM, tBM0, tChain, gTup, gCons, gNil, tPar, tIs, List.set, L2.start, iTup, L2.iList, L2.iRng1, tUn, tLst, tTest, gSub, tCall, L2.tIf, tCB, rRep, List.set, List.cons_append, List.nil_append, cxOf]
      have srS := r567.sr
      have lrS := lr7
      refine' Exists.intro _ ⟨?_, by assumption, ?_⟩
      rotate_left 1
      · (repeat' (first | rfl | exact Dat.int _ | exact Dat.bl _ | (refine (?_ : Dat _ _ _ _); assumption) | (refine (?_ : LD _ _ _ _); assumption) | (refine (?_ : _ ≠ _); assumption) | refine' Exists.intro _ ?_ | refine And.intro ?_ ?_))
        all_goals (first | (first | (rintro _ rfl; exact ⟨_, rfl, by decide, by decide⟩) | (intro ts h; (repeat (obtain ⟨_, _, rfl, _, h⟩ := h)); (try cases h); exact Nat.le_of_ble_eq_true rfl) | (intro ts h; (repeat (obtain ⟨_, _, rfl, _, h⟩ := h)); (try cases h); exact ⟨List.cons_ne_nil _ _, Nat.le_of_ble_eq_true rfl⟩) | (rintro _ _ rfl rfl; exact ⟨_, _, rfl, rfl⟩)))
      rintro _ vq2 H8 ⟨_, r, ⟨⟩, q0, q1, rfl⟩ r8 dq2
      cases dat_int dq2
      obtain ⟨xr, er, dr⟩ := lrS.dr r8 rnl
      have d8b := d8.up r8.st
      have rr8 := r567.trans r8
      have dlen := dr.len
      rw [List.length_map] at dlen
      refine ⟨rfl, _, rfl, ?_⟩
      by_cases c2 : V.int r = V.int 0
      · refine if_yes (decide_eq_true c2) ?_
        try dsimp only [L2.tRet, L2.tRetN, tAndV, tOrV, tNotV, tCB, L2.tCons, L2.tNil, tC, tVar, L2.tOp, L2.tUn, tSeq, tAsg, gName, tIfS, tTest, tNext, tAnd, tOr, tNot, L2.tIf, tFld, sFld, sFldAug, tCall, tTup, tB, tAug, tDrop, L2.tSl, tPart, tNoPart, tBM, tBM0, tChain, gTup, gCons, gNil, tPar, tIs, List.set, L2.start, iTup, L2.iList, L2.iRng1, tUn, tLst, tTest, gSub, tCall, L2.tIf, tCB, rRep, List.set, List.cons_append, List.nil_append, cxOf]
        refine lc_in ?_
        try dsimp only [L2.tRet, L2.tRetN, tAndV, tOrV, tNotV, tCB, L2.tCons, L2.tNil, tC, tVar, L2.tOp, L2.tUn, tSeq, tAsg, gName, tIfS, tTest, tNext, tAnd, tOr, tNot, L2.tIf, tFld, sFld, sFldAug, tCall, tTup, tB, tAug, tDrop, L2.tSl, tPart, tNoPart, tBM, tBM0, tChain, gTup, gCons, gNil, tPar, tIs, List.set, L2.start, iTup, L2.iList, L2.iRng1, tUn, tLst, tTest, gSub, tCall, L2.tIf, tCB, rRep, List.set, List.cons_append, List.nil_append, cxOf]
        refine ⟨_, rfl, rl, rfl, ⟨_, .inl (.inl er)⟩, lcl_list (K := K) (a := rl) (xs := xr) (fun D i H' => Same H8 H' ∧ LD K H' D ((turned wrd (rs.take i)).map encF)) (fun D nD => ⟨same_new nD, [], upd_same, .nil⟩) (fun D nD i H' li s => .inl (.inl (s.1 _ _ er))) ?hs2 ?hd2⟩
        case hs2 =>
          rintro D nD i x H9 hx ⟨s9, ld9⟩
          obtain ⟨t, et, dt⟩ := dats_at dr hx
          rw [List.getElem?_map] at et
          cases er2 : rs[i]? with
          | none => rw [er2] at et; cases et
          | some rw1 =>
          rw [er2] at et
          cases et
          obtain ⟨a1, a2⟩ := gr.at er2
          have nl : rw1.1 ∈ fgh.take n := by
            rw [← nm]
            exact List.mem_map.mpr ⟨rw1, List.mem_of_getElem? er2, rfl⟩
          have nl2 : rw1.1.length ≤ 100 := (by decide +kernel : ∀ z ∈ fgh, z.length ≤ 100) _ (List.mem_of_mem_take nl)
          obtain ⟨p, xs, rfl, hp, dxs⟩ := dat_tup (dt.up (same_stay s9))
          obtain ⟨y0, us, rfl, dz, dxs⟩ := dats_cons dxs
          obtain ⟨y1, us, rfl, dy, dxs⟩ := dats_cons dxs
          cases dats_nil dxs
          cases dat_str dz
          try dsimp only [L2.tRet, L2.tRetN, tAndV, tOrV, tNotV, tCB, L2.tCons, L2.tNil, tC, tVar, L2.tOp, L2.tUn, tSeq, tAsg, gName, tIfS, tTest, tNext, tAnd, tOr, tNot, L2.tIf, tFld, sFld, sFldAug, tCall, tTup, tB, tAug, tDrop, L2.tSl, tPart, tNoPart, tBM, tBM0, tChain, gTup, gCons, gNil, tPar, tIs, List.set, L2.start, iTup, L2.iList, L2.iRng1, tUn, tLst, tTest, gSub, tCall, L2.tIf, tCB, rRep, List.set, List.cons_append, List.nil_append, cxOf]
          refine ⟨p, _, rfl, sqt hp, rfl, _, _, rfl, _, _, rfl, rfl, rfl, ?_⟩
          dsimp only [tYes]
          refine if_yes rfl ⟨rw1, y1, rfl, rfl, dy, a1, a2, nl2, fun p2 H10 s10 d10 => ?_⟩
          obtain ⟨acc, ha, da⟩ := ld9.up s10
          refine ⟨acc, ha, ?_, Ck.Same.up (s9.trans s10) nD, _, upd_same, ?_⟩
          · have l1 := da.len
            unfold turned at l1
            rw [List.length_map, List.length_map, List.length_take] at l1
            exact Nat.lt_of_lt_of_le (show acc.length < 1000 by omega) (sl (by decide))
          · have e : (turned wrd (rs.take (i + 1))).map encF = (turned wrd (rs.take i)).map encF ++ [encF (rw1.1, wrd rw1.2)] := by
              unfold turned
              rw [List.take_add_one, er2, Option.toList_some, List.map_append, List.map_append]
              rfl
            rw [e]
            exact (da.app (.cons d10 .nil)).up (stay_lst ha)
        case hd2 =>
          rintro D nD H9 ⟨s9, ld9⟩
          rw [dlen, List.take_length] at ld9
          obtain ⟨zs, ez, dz⟩ := ld9
          refine ⟨D, zs, rfl, .inl ⟨.inl (.inl ez), fun p8 n8 => ?_⟩⟩
          have s10 := same_new (o := .tup zs) n8
          try dsimp only [L2.tRet, L2.tRetN, tAndV, tOrV, tNotV, tCB, L2.tCons, L2.tNil, tC, tVar, L2.tOp, L2.tUn, tSeq, tAsg, gName, tIfS, tTest, tNext, tAnd, tOr, tNot, L2.tIf, tFld, sFld, sFldAug, tCall, tTup, tB, tAug, tDrop, L2.tSl, tPart, tNoPart, tBM, tBM0, tChain, gTup, gCons, gNil, tPar, tIs, List.set, L2.start, iTup, L2.iList, L2.iRng1, tUn, tLst, tTest, gSub, tCall, L2.tIf, tCB, rRep, List.set, List.cons_append, List.nil_append, cxOf]
          refine ⟨_, rfl, v8, (.mk true "seq" [] [tr2, rA] []), rfl, d8b.up (same_stay (s9.trans s10)), Nat.le_trans mh (by decide), ⟨_, _, _, mo⟩, fun v9 H10 s11 d11 => ⟨sl (Nat.le_of_ble_eq_true rfl), fun p9 n9 => ?_⟩⟩
          have s12 := same_new (o := .tup [V.ref p8, v9]) n9
          refine q _ _ (turned wrd rs) (wrd (.mk true "seq" [] [tr2, rA] [])) (prog_worded gr (by omega) (by rw [fs1]; exact mo) mw (by omega)) (rr8.trans (.same rr8.sr (((s9.trans s10).trans s11).trans s12))) ?_
          exact Dats.tup (.cons (((dz.up (same_stay s10)).tup upd_same).up (same_stay (s11.trans s12))) (.cons (d11.up (same_stay s12)) .nil)) upd_same
      · refine if_no (decide_eq_false c2) ?_
        try dsimp only [L2.tRet, L2.tRetN, tAndV, tOrV, tNotV, tCB, L2.tCons, L2.tNil, tC, tVar, L2.tOp, L2.tUn, tSeq, tAsg, gName, tIfS, tTest, tNext, tAnd, tOr, tNot, L2.tIf, tFld, sFld, sFldAug, tCall, tTup, tB, tAug, tDrop, L2.tSl, tPart, tNoPart, tBM, tBM0, tChain, gTup, gCons, gNil, tPar, tIs, List.set, L2.start, iTup, L2.iList, L2.iRng1, tUn, tLst, tTest, gSub, tCall, L2.tIf, tCB, rRep, List.set, List.cons_append, List.nil_append, cxOf]
        refine ⟨_, rfl, rl, xr, rfl, .inl ⟨.inl (.inl er), fun p8 n8 => ?_⟩⟩
        have s10 := same_new (o := .tup xr) n8
        refine ⟨_, rfl, sl (Nat.le_of_ble_eq_true rfl), fun p9 n9 => ?_⟩
        have s12 := same_new (o := .tup [V.ref p8, v8]) n9
        refine q _ _ rs (.mk true "seq" [] [tr2, rA] []) (prog_plain gr (by omega) (by rw [fs1]; exact mo) mw (by omega)) (rr8.trans (.same rr8.sr (s10.trans s12))) ?_
        exact Dats.tup (.cons (((dr.up (same_stay s10)).tup upd_same).up (same_stay s12)) (.cons (d8b.up (same_stay (s10.trans s12))) .nil)) upd_same
    · refine if_no (decide_eq_false c1) ?_
      have mo := mo0
      have mw : wei (grownW [] rs) tr2 ≤ 502 := by omega
      have mh : ht tr2 ≤ 14 := by omega
      refine ⟨_, rfl, ?_⟩
      try dsimp only [L2.tRet, L2.tRetN, tAndV, tOrV, tNotV, tCB, L2.tCons, L2.tNil, tC, tVar, L2.tOp, L2.tUn, tSeq, tAsg, gName, tIfS, tTest, tNext, tAnd, tOr, tNot, L2.tIf, tFld, sFld, sFldAug, tCall, tTup, tB, tAug, tDrop, L2.tSl, tPart, tNoPart, tBM, tBM0, tChain, gTup, gCons, gNil, tPar, tIs, List.set, L2.start, iTup, L2.iList, L2.iRng1, tUn, tLst, tTest, gSub, tCall, L2.tIf, tCB, rRep, List.set, List.cons_append, List.nil_append, cxOf]
      have srS := r56.sr
      have lrS := lr6
      refine' Exists.intro _ ⟨?_, by assumption, ?_⟩
      rotate_left 1
      · (repeat' (first | rfl | exact Dat.int _ | exact Dat.bl _ | (refine (?_ : Dat _ _ _ _); assumption) | (refine (?_ : LD _ _ _ _); assumption) | (refine (?_ : _ ≠ _); assumption) | refine' Exists.intro _ ?_ | refine And.intro ?_ ?_))
        all_goals (first | (first | (rintro _ rfl; exact ⟨_, rfl, by decide, by decide⟩) | (intro ts h; (repeat (obtain ⟨_, _, rfl, _, h⟩ := h)); (try cases h); exact Nat.le_of_ble_eq_true rfl) | (intro ts h; (repeat (obtain ⟨_, _, rfl, _, h⟩ := h)); (try cases h); exact ⟨List.cons_ne_nil _ _, Nat.le_of_ble_eq_true rfl⟩) | (rintro _ _ rfl rfl; exact ⟨_, _, rfl, rfl⟩)))
      rintro _ vq2 H8 ⟨_, r, ⟨⟩, q0, q1, rfl⟩ r8 dq2
      cases dat_int dq2
      obtain ⟨xr, er, dr⟩ := lrS.dr r8 rnl
      have d8b := d7b.up r8.st
      have rr8 := r56.trans r8
      have dlen := dr.len
      rw [List.length_map] at dlen
      refine ⟨rfl, _, rfl, ?_⟩
      by_cases c2 : V.int r = V.int 0
      · refine if_yes (decide_eq_true c2) ?_
        try dsimp only [L2.tRet, L2.tRetN, tAndV, tOrV, tNotV, tCB, L2.tCons, L2.tNil, tC, tVar, L2.tOp, L2.tUn, tSeq, tAsg, gName, tIfS, tTest, tNext, tAnd, tOr, tNot, L2.tIf, tFld, sFld, sFldAug, tCall, tTup, tB, tAug, tDrop, L2.tSl, tPart, tNoPart, tBM, tBM0, tChain, gTup, gCons, gNil, tPar, tIs, List.set, L2.start, iTup, L2.iList, L2.iRng1, tUn, tLst, tTest, gSub, tCall, L2.tIf, tCB, rRep, List.set, List.cons_append, List.nil_append, cxOf]
        refine lc_in ?_
        try dsimp only [L2.tRet, L2.tRetN, tAndV, tOrV, tNotV, tCB, L2.tCons, L2.tNil, tC, tVar, L2.tOp, L2.tUn, tSeq, tAsg, gName, tIfS, tTest, tNext, tAnd, tOr, tNot, L2.tIf, tFld, sFld, sFldAug, tCall, tTup, tB, tAug, tDrop, L2.tSl, tPart, tNoPart, tBM, tBM0, tChain, gTup, gCons, gNil, tPar, tIs, List.set, L2.start, iTup, L2.iList, L2.iRng1, tUn, tLst, tTest, gSub, tCall, L2.tIf, tCB, rRep, List.set, List.cons_append, List.nil_append, cxOf]
        refine ⟨_, rfl, rl, rfl, ⟨_, .inl (.inl er)⟩, lcl_list (K := K) (a := rl) (xs := xr) (fun D i H' => Same H8 H' ∧ LD K H' D ((turned wrd (rs.take i)).map encF)) (fun D nD => ⟨same_new nD, [], upd_same, .nil⟩) (fun D nD i H' li s => .inl (.inl (s.1 _ _ er))) ?hs2 ?hd2⟩
        case hs2 =>
          rintro D nD i x H9 hx ⟨s9, ld9⟩
          obtain ⟨t, et, dt⟩ := dats_at dr hx
          rw [List.getElem?_map] at et
          cases er2 : rs[i]? with
          | none => rw [er2] at et; cases et
          | some rw1 =>
          rw [er2] at et
          cases et
          obtain ⟨a1, a2⟩ := gr.at er2
          have nl : rw1.1 ∈ fgh.take n := by
            rw [← nm]
            exact List.mem_map.mpr ⟨rw1, List.mem_of_getElem? er2, rfl⟩
          have nl2 : rw1.1.length ≤ 100 := (by decide +kernel : ∀ z ∈ fgh, z.length ≤ 100) _ (List.mem_of_mem_take nl)
          obtain ⟨p, xs, rfl, hp, dxs⟩ := dat_tup (dt.up (same_stay s9))
          obtain ⟨y0, us, rfl, dz, dxs⟩ := dats_cons dxs
          obtain ⟨y1, us, rfl, dy, dxs⟩ := dats_cons dxs
          cases dats_nil dxs
          cases dat_str dz
          try dsimp only [L2.tRet, L2.tRetN, tAndV, tOrV, tNotV, tCB, L2.tCons, L2.tNil, tC, tVar, L2.tOp, L2.tUn, tSeq, tAsg, gName, tIfS, tTest, tNext, tAnd, tOr, tNot, L2.tIf, tFld, sFld, sFldAug, tCall, tTup, tB, tAug, tDrop, L2.tSl, tPart, tNoPart, tBM, tBM0, tChain, gTup, gCons, gNil, tPar, tIs, List.set, L2.start, iTup, L2.iList, L2.iRng1, tUn, tLst, tTest, gSub, tCall, L2.tIf, tCB, rRep, List.set, List.cons_append, List.nil_append, cxOf]
          refine ⟨p, _, rfl, sqt hp, rfl, _, _, rfl, _, _, rfl, rfl, rfl, ?_⟩
          dsimp only [tYes]
          refine if_yes rfl ⟨rw1, y1, rfl, rfl, dy, a1, a2, nl2, fun p2 H10 s10 d10 => ?_⟩
          obtain ⟨acc, ha, da⟩ := ld9.up s10
          refine ⟨acc, ha, ?_, Ck.Same.up (s9.trans s10) nD, _, upd_same, ?_⟩
          · have l1 := da.len
            unfold turned at l1
            rw [List.length_map, List.length_map, List.length_take] at l1
            exact Nat.lt_of_lt_of_le (show acc.length < 1000 by omega) (sl (by decide))
          · have e : (turned wrd (rs.take (i + 1))).map encF = (turned wrd (rs.take i)).map encF ++ [encF (rw1.1, wrd rw1.2)] := by
              unfold turned
              rw [List.take_add_one, er2, Option.toList_some, List.map_append, List.map_append]
              rfl
            rw [e]
            exact (da.app (.cons d10 .nil)).up (stay_lst ha)
        case hd2 =>
          rintro D nD H9 ⟨s9, ld9⟩
          rw [dlen, List.take_length] at ld9
          obtain ⟨zs, ez, dz⟩ := ld9
          refine ⟨D, zs, rfl, .inl ⟨.inl (.inl ez), fun p8 n8 => ?_⟩⟩
          have s10 := same_new (o := .tup zs) n8
          try dsimp only [L2.tRet, L2.tRetN, tAndV, tOrV, tNotV, tCB, L2.tCons, L2.tNil, tC, tVar, L2.tOp, L2.tUn, tSeq, tAsg, gName, tIfS, tTest, tNext, tAnd, tOr, tNot, L2.tIf, tFld, sFld, sFldAug, tCall, tTup, tB, tAug, tDrop, L2.tSl, tPart, tNoPart, tBM, tBM0, tChain, gTup, gCons, gNil, tPar, tIs, List.set, L2.start, iTup, L2.iList, L2.iRng1, tUn, tLst, tTest, gSub, tCall, L2.tIf, tCB, rRep, List.set, List.cons_append, List.nil_append, cxOf]
          refine ⟨_, rfl, v7, tr2, rfl, d8b.up (same_stay (s9.trans s10)), Nat.le_trans mh (by decide), ⟨_, _, _, mo⟩, fun v9 H10 s11 d11 => ⟨sl (Nat.le_of_ble_eq_true rfl), fun p9 n9 => ?_⟩⟩
          have s12 := same_new (o := .tup [V.ref p8, v9]) n9
          refine q _ _ (turned wrd rs) (wrd (tr2)) (prog_worded gr (by omega) (by rw [fs1]; exact mo) mw (by omega)) (rr8.trans (.same rr8.sr (((s9.trans s10).trans s11).trans s12))) ?_
          exact Dats.tup (.cons (((dz.up (same_stay s10)).tup upd_same).up (same_stay (s11.trans s12))) (.cons (d11.up (same_stay s12)) .nil)) upd_same
      · refine if_no (decide_eq_false c2) ?_
        try dsimp only [L2.tRet, L2.tRetN, tAndV, tOrV, tNotV, tCB, L2.tCons, L2.tNil, tC, tVar, L2.tOp, L2.tUn, tSeq, tAsg, gName, tIfS, tTest, tNext, tAnd, tOr, tNot, L2.tIf, tFld, sFld, sFldAug, tCall, tTup, tB, tAug, tDrop, L2.tSl, tPart, tNoPart, tBM, tBM0, tChain, gTup, gCons, gNil, tPar, tIs, List.set, L2.start, iTup, L2.iList, L2.iRng1, tUn, tLst, tTest, gSub, tCall, L2.tIf, tCB, rRep, List.set, List.cons_append, List.nil_append, cxOf]
        refine ⟨_, rfl, rl, xr, rfl, .inl ⟨.inl (.inl er), fun p8 n8 => ?_⟩⟩
        have s10 := same_new (o := .tup xr) n8
        refine ⟨_, rfl, sl (Nat.le_of_ble_eq_true rfl), fun p9 n9 => ?_⟩
        have s12 := same_new (o := .tup [V.ref p8, v7]) n9
        refine q _ _ rs (tr2) (prog_plain gr (by omega) (by rw [fs1]; exact mo) mw (by omega)) (rr8.trans (.same rr8.sr (s10.trans s12))) ?_
        exact Dats.tup (.cons (((dr.up (same_stay s10)).tup upd_same).up (same_stay s12)) (.cons (d8b.up (same_stay (s10.trans s12))) .nil)) upd_same
end
end Ck

/-! Parts of trees; trees as data that can be compared. -/
namespace Ck
open PySem PySem.Spec PyProof.Rows L2
structure Strs (C W known : List Str) : Prop where
  c : ∀ z ∈ C, PyData.strOk z = true
  w : ∀ z ∈ W, PyData.strOk z = true
  k : ∀ z ∈ known, PyData.strOk z = true
def Nm (C W known : List Str) (t : Tr) : Prop := ∃ N M i l, Okt C W N M known i l t
theorem Nm.any {C W known : List Str} {t : Tr} (h : Nm C W known t) : Any known t := by
  obtain ⟨N, M, i, l, o⟩ := h
  exact ⟨_, _, _, _, _, _, o⟩
theorem Nm.kids {C W known : List Str} {b : Bool} {w : Str} {pre post : List T} {ks : List Tr} (h : Nm C W known (.mk b w pre ks post)) : ∀ k ∈ ks, Nm C W known k := by
  obtain ⟨N, M, i, l, o⟩ := h
  have an : ∀ {k i l}, Okt C W N M known i l k → Nm C W known k := fun o => ⟨_, _, _, _, o⟩
  have no : ∀ k ∈ ([] : List Tr), Nm C W known k := fun k m => (by cases m)
  cases o with
  | seq _ ks => exact fun k m => an (ks k m)
  | pipe _ ks => exact fun k m => an (ks k m)
  | andor e a b => exact all_two (an a) (an b)
  | not a => exact all_one (an a)
  | ife c a b => exact all_three (an c) (an a) (an b)
  | if1 c a => exact all_two (an c) (an a)
  | whl e a b => exact all_two (an a) (an b)
  | times _ _ a => exact all_one (an a)
  | trap _ a => exact all_one (an a)
  | sub a => exact all_one (an a)
  | _ => exact no
theorem strs_name {z : Str} (h : nameOk z = true) : PyData.strOk z = true := by
  unfold nameOk at h
  simp only [Bool.and_eq_true] at h
  have a := h.2.1
  have a2 : (z.cps.all fun x => decide (x < 128)) = true := a
  unfold PyData.strOk
  rw [Array.all_eq_true] at a2 ⊢
  intro i hi
  have := of_decide_eq_true (a2 i hi)
  exact decide_eq_true (by omega)
def LayT (t : T) (n : Nat) : Prop := (toD t).canLay0 = true ∧ (toD t).depth ≤ n
def LayTs (ts : List T) (n : Nat) : Prop := PyData.canLayAll0 (toDs ts) = true ∧ PyData.depthAll (toDs ts) ≤ n
theorem LayTs.nil {n : Nat} : LayTs [] n := ⟨rfl, Nat.zero_le _⟩
theorem LayTs.cons {t : T} {ts : List T} {n : Nat} (h : LayT t n) (g : LayTs ts n) : LayTs (t :: ts) n := by
  constructor
  · show ((toD t).canLay0 && PyData.canLayAll0 (toDs ts)) = true
    rw [h.1, g.1]
    rfl
  · show max (toD t).depth (PyData.depthAll (toDs ts)) ≤ n
    have := h.2
    have := g.2
    omega
theorem LayTs.tup {ts : List T} {n : Nat} (h : LayTs ts n) : LayT (.tup ts) (n + 1) := ⟨by show PyData.canLay0 (.tuple (toDs ts)) = true; rw [PyData.canLay0]; exact h.1, by show PyData.depth (.tuple (toDs ts)) ≤ n + 1; rw [PyData.depth]; exact Nat.succ_le_succ h.2⟩
theorem LayT.str {z : Str} {n : Nat} (h : PyData.strOk z = true) : LayT (.str z) n := ⟨by show PyData.canLay0 (.str z) = true; rw [PyData.canLay0]; exact h, Nat.zero_le _⟩
theorem LayT.int {i : Int} {n : Nat} : LayT (.int i) n := ⟨rfl, Nat.zero_le _⟩
theorem LayT.bl {i : Bool} {n : Nat} : LayT (.bl i) n := ⟨rfl, Nat.zero_le _⟩
theorem LayT.non {n : Nat} : LayT .non n := ⟨rfl, Nat.zero_le _⟩
theorem LayT.up {t : T} {n m : Nat} (h : LayT t n) (l : n ≤ m) : LayT t m := ⟨h.1, Nat.le_trans h.2 l⟩
theorem LayTs.ks : ∀ {ks : List Tr}, (∀ k ∈ ks, LayT (enc k) (2 * ht k)) → LayTs (encs ks) (2 * hts ks)
  | [], _ => LayTs.nil
  | k :: ks, h => by
    have a := h k List.mem_cons_self
    have b := LayTs.ks (ks := ks) fun k m => h k (List.mem_cons_of_mem _ m)
    have e : 2 * hts (k :: ks) = 2 * max (ht k) (hts ks) := rfl
    rw [e]
    exact .cons (a.up (by omega)) ⟨b.1, Nat.le_trans b.2 (by omega)⟩
theorem so_run : PyData.strOk "run" = true := by decide +kernel
theorem lay_of {C W known : List Str} {N M : Int} (S : Strs C W known) {i : Bool} {l : Nat} {t : Tr} (h : Okt C W N M known i l t) : LayT (enc t) (2 * ht t) := by
  have kd1 : ∀ {a : Tr}, LayT (enc a) (2 * ht a) → LayT (enc a) (2 * hts [a] + 1) := fun {a} h => h.up (by show 2 * ht a ≤ 2 * max (ht a) 0 + 1; omega)
  induction h with
  | @run i l c m => (show LayT (T.tup [_, _]) (1 + 1); exact LayTs.tup (.cons (.str (by decide +kernel)) (.cons (.str (S.c c m)) .nil)))
  | status _ _ => (show LayT (T.tup [_, _]) (1 + 1); exact LayTs.tup (.cons (.str (by decide +kernel)) (.cons .int .nil)))
  | @var i l w v e m => rcases e with rfl | rfl | rfl <;> (show LayT (T.tup [_, _]) (1 + 1); exact LayTs.tup (.cons (.str (by decide +kernel)) (.cons (.str (S.w v m)) .nil)))
  | @put i l v n m _ _ => (show LayT (T.tup [_, _, _]) (1 + 1); exact LayTs.tup (.cons (.str (by decide +kernel)) (.cons (.str (S.w v m)) (.cons .int .nil))))
  | @option i l z b e => rcases e with rfl | rfl <;> (show LayT (T.tup [_, _, _]) (1 + 1); exact LayTs.tup (.cons (.str (by decide +kernel)) (.cons (.str (by decide +kernel)) (.cons .bl .nil))))
  | jump e _ _ => rcases e with rfl | rfl <;> (show LayT (T.tup [_, _]) (1 + 1); exact LayTs.tup (.cons (.str (by decide +kernel)) (.cons .int .nil)))
  | ret0 => (show LayT (T.tup [_, _]) (1 + 1); exact LayTs.tup (.cons (.str (by decide +kernel)) (.cons .non .nil)))
  | ret _ _ => (show LayT (T.tup [_, _]) (1 + 1); exact LayTs.tup (.cons (.str (by decide +kernel)) (.cons .int .nil)))
  | exit0 => (show LayT (T.tup [_, _]) (1 + 1); exact LayTs.tup (.cons (.str (by decide +kernel)) (.cons .non .nil)))
  | exit _ _ => (show LayT (T.tup [_, _]) (1 + 1); exact LayTs.tup (.cons (.str (by decide +kernel)) (.cons .int .nil)))
  | @call i l f m => (show LayT (T.tup [_, _]) (1 + 1); exact LayTs.tup (.cons (.str (by decide +kernel)) (.cons (.str (S.k f m)) .nil)))
  | @seq i l ks _ _ ih =>
    have z : LayT (enc (.mk true "seq" [] ks [])) (2 * hts ks + 1 + 1) := LayTs.tup (.cons (.str (by decide +kernel)) (.cons (LayTs.ks ih).tup .nil))
    exact z.up (by show 2 * hts ks + 1 + 1 ≤ 2 * (1 + hts ks); omega)
  | @pipe i l ks _ _ ih =>
    have z : LayT (enc (.mk true "pipe" [] ks [])) (2 * hts ks + 1 + 1) := LayTs.tup (.cons (.str (by decide +kernel)) (.cons (LayTs.ks ih).tup .nil))
    exact z.up (by show 2 * hts ks + 1 + 1 ≤ 2 * (1 + hts ks); omega)
  | @andor i l w a b e _ _ ia ib =>
    have z : LayTs (encs [a, b]) (2 * hts [a, b]) := LayTs.ks (all_two (p := fun k => LayT (enc k) (2 * ht k)) ia ib)
    have so : PyData.strOk w = true := by rcases e with rfl | rfl <;> decide +kernel
    exact ((LayTs.cons (.str so) z).tup).up (by show 2 * hts [a, b] + 1 ≤ 2 * (1 + hts [a, b]); omega)
  | @not i l a _ ia =>
    have z : LayTs (encs [a]) (2 * hts [a]) := LayTs.ks (all_one (p := fun k => LayT (enc k) (2 * ht k)) ia)
    exact ((LayTs.cons (.str (z := "not") (by decide +kernel)) z).tup).up (by show 2 * hts [a] + 1 ≤ 2 * (1 + hts [a]); omega)
  | @ife i l c a b _ _ _ ic ia ib =>
    have z : LayTs (encs [c, a, b]) (2 * hts [c, a, b]) := LayTs.ks (all_three (p := fun k => LayT (enc k) (2 * ht k)) ic ia ib)
    exact ((LayTs.cons (.str (z := "if") (by decide +kernel)) z).tup).up (by show 2 * hts [c, a, b] + 1 ≤ 2 * (1 + hts [c, a, b]); omega)
  | @if1 i l c a _ _ ic ia =>
    have z : LayTs (encs [c, a]) (2 * hts [c, a]) := LayTs.ks (all_two (p := fun k => LayT (enc k) (2 * ht k)) ic ia)
    have zc := z
    have y : LayTs [.str "if", enc c, enc a, .non] (2 * hts [c, a]) := .cons (.str (by decide +kernel)) (.cons (ic.up (by show 2 * ht c ≤ 2 * max (ht c) (max (ht a) 0); omega)) (.cons (ia.up (by show 2 * ht a ≤ 2 * max (ht c) (max (ht a) 0); omega)) (.cons .non .nil)))
    exact y.tup.up (by show 2 * hts [c, a] + 1 ≤ 2 * (1 + hts [c, a]); omega)
  | @whl i l w a b e _ _ ia ib =>
    have z : LayTs (encs [a, b]) (2 * hts [a, b]) := LayTs.ks (all_two (p := fun k => LayT (enc k) (2 * ht k)) ia ib)
    have so : PyData.strOk w = true := by rcases e with rfl | rfl <;> decide +kernel
    exact ((LayTs.cons (.str so) z).tup).up (by show 2 * hts [a, b] + 1 ≤ 2 * (1 + hts [a, b]); omega)
  | @times i l n b _ _ _ ib =>
    have z : LayTs (encs [b]) (2 * hts [b]) := LayTs.ks (all_one (p := fun k => LayT (enc k) (2 * ht k)) ib)
    exact ((LayTs.cons (.str (z := "times") (by decide +kernel)) (.cons .int z)).tup).up (by show 2 * hts [b] + 1 ≤ 2 * (1 + hts [b]); omega)
  | @trap0 i l z e => rcases e with rfl | rfl <;> (show LayT (T.tup [_, _, _]) (1 + 1); exact LayTs.tup (.cons (.str (by decide +kernel)) (.cons (.str (by decide +kernel)) (.cons .non .nil))))
  | @trap i l y b e _ ib =>
    have z : LayTs (encs [b]) (2 * hts [b]) := LayTs.ks (all_one (p := fun k => LayT (enc k) (2 * ht k)) ib)
    have so : PyData.strOk y = true := by rcases e with rfl | rfl <;> decide +kernel
    exact ((LayTs.cons (.str (z := "trap") (by decide +kernel)) (.cons (.str so) z)).tup).up (by show 2 * hts [b] + 1 ≤ 2 * (1 + hts [b]); omega)
  | @sub i l b _ ib =>
    have z : LayTs (encs [b]) (2 * hts [b]) := LayTs.ks (all_one (p := fun k => LayT (enc k) (2 * ht k)) ib)
    exact ((LayTs.cons (.str (z := "sub") (by decide +kernel)) z).tup).up (by show 2 * hts [b] + 1 ≤ 2 * (1 + hts [b]); omega)
end Ck

namespace Ck
open PySem PySem.Spec PyProof.Rows L2
def kidsT : Tr → List Tr
  | .mk _ _ _ ks _ => ks
section
variable {X : Cx} {P : Program} {w : World} {K : PySem.W.Frag} {mg : Str → Option Value} {base : Heap} {H H1 H2 : Hp} {l : Addr} {dR dS : Addr} {adr : Kind → Addr}
abbrev sParts : Stmt := topS 63
abbrev NPa : List Str := ["_law_tree_here", "_law_part"]
theorem scPa : FnScope NPa ["_law_tree_here"] (defScope sParts) := ⟨rfl, rfl, rfl, by decide +kernel, rfl, by decide +kernel, by decide +kernel⟩
def spParts (K : PySem.W.Frag) : Sp := fun vs H Q _ => ∃ v tr known, vs = [v] ∧ Dat K H v (enc tr) ∧ Any known tr ∧ ∀ D H', H D = none → Same H H' → LD K H' D (encs (kidsT tr)) → Q (.ref D) H'
abbrev GPa (P : Program) (w : World) (K : PySem.W.Frag) (mg : Str → Option Value) (base : Heap) : Prop := Go P w K mg base CX0 1 "_law_parts" ["_law_tree_here"] (spParts K)
theorem encs_kids (is : Its) (r : Right is) : ∀ {i : Nat} {t : T} {k : Tr}, is[i]? = some (t, some k) → t = enc k := by
  intro i t k h
  rcases r _ (List.mem_of_getElem? h) with ⟨e, _⟩ | ⟨k2, e, e2⟩
  · cases e
  · dsimp only at e e2
    cases e
    exact e2
theorem ok_parts {f : Addr} {fd : FuncData} (F : Fun K "_law_parts" "_law_parts" sParts f fd) (M : Mg mg) : FnOk P w K mg base CX0 1 f fd ["_law_tree_here"] (spParts K) := by
  refine F.ok scPa (fun vs H Q E h => ?_) (fun cdv A outer s H vs Q E hr hh => ?_)
  · obtain ⟨_, _, _, rfl, _⟩ := h
    rfl
  obtain ⟨v, tr, known, rfl, d, an, q⟩ := hh
  refine ⟨_, (pss_cons (ps_if (pt_cmpR op_in_seq (pe_ix ix_tup (pv 0) pe_int fun _ _ => rfl) (pe_tup (pa_cons pe_str (pa_cons pe_str pa_nil))) rfl) (pss_one (ps_ret (pe_callTy call_list_of rfl M.ls (by decide +kernel) (pa_cons (pe_ix ix_tup (pv 0) pe_int fun _ _ => rfl) pa_nil) (by decide) (by decide)))) pss_nil) (pss_one (ps_ret (pe_lc (te := tVar 1) (own := [("_law_part", 1)]) (g := gName 1) (tt := tTest (tIs K "tuple" (tVar 1))) rfl scPa.nd (pi_tup (pe_slice sl_tup (pv 0) (po_some pe_int) po_none)) (blkOk_by (N := NPa) (sc := defScope sParts) (by decide +kernel)) (fun _ _ _ _ _ => pg_name (i := 1) scPa.nd rfl (.inl rfl)) (fun _ _ _ _ _ => pts_one (pt_val (pe_is (n := "tuple") M.mi M.mt (by decide +kernel) rfl rfl (pv 1)))) (fun _ _ _ _ _ => pv 1))))), ?_⟩
  try dsimp only [L2.tRet, L2.tRetN, tAndV, tOrV, tNotV, tCB, L2.tCons, L2.tNil, tC, tVar, L2.tOp, L2.tUn, tSeq, tAsg, gName, tIfS, tTest, tNext, tAnd, tOr, tNot, L2.tIf, tFld, sFld, sFldAug, tCall, tTup, tB, tAug, tDrop, L2.tSl, tPart, tNoPart, tBM, tBM0, tChain, gTup, gCons, gNil, tPar, tIs, List.set, L2.start, iTup, L2.iList, L2.iRng1, tUn, tLst, tTest, gSub, tCall, L2.tIf, tCB, rRep, List.set, List.cons_append, List.nil_append, cxOf]
  obtain ⟨b, w, pre, ks, post⟩ := tr
  obtain ⟨l1, l2, l3, l4, l5, l6, l7, l8⟩ := an.look
  obtain ⟨a, xs, rfl, ha, hT, hF⟩ := enc_in (fun e => by rcases l4 with ⟨_, _, z, y⟩ | ⟨z, _⟩; exact ⟨z, y⟩; rw [e] at z; cases z) d
  refine ⟨_, rfl, a, _, _, _, rfl, rfl, sqt ha, atI_nat (j := 0) rfl, sl (Nat.le_of_ble_eq_true rfl), fun p np => in_two upd_same ⟨_, rfl, ?_⟩⟩
  have s1 := same_new (o := .tup [V.str "seq", V.str "pipe"]) np
  rcases l4 with ⟨rfl, wsp, rfl, rfl⟩ | ⟨rfl, nw1, nw2⟩
  · obtain ⟨p2, ys, rfl, hp2, dy⟩ := hT rfl
    refine if_yes (decide_eq_true wsp) ?_
    try dsimp only [L2.tRet, L2.tRetN, tAndV, tOrV, tNotV, tCB, L2.tCons, L2.tNil, tC, tVar, L2.tOp, L2.tUn, tSeq, tAsg, gName, tIfS, tTest, tNext, tAnd, tOr, tNot, L2.tIf, tFld, sFld, sFldAug, tCall, tTup, tB, tAug, tDrop, L2.tSl, tPart, tNoPart, tBM, tBM0, tChain, gTup, gCons, gNil, tPar, tIs, List.set, L2.start, iTup, L2.iList, L2.iRng1, tUn, tLst, tTest, gSub, tCall, L2.tIf, tCB, rRep, List.set, List.cons_append, List.nil_append, cxOf]
    refine ⟨_, rfl, a, _, _, _, rfl, rfl, sqt (s1 _ _ ha), atI_nat (j := 1) rfl, p2, ys, rfl, .inr (sqt (s1 _ _ hp2)), fun D nD => ?_⟩
    have s2 := s1.trans (same_new (o := .lst ys) nD)
    rw [fst_parted] at dy
    exact q D _ (Ck.Same.non s1 nD) s2 ⟨ys, upd_same, dy.up (same_stay s2)⟩
  · have dxs := hF rfl
    refine if_no (decide_eq_false (by rintro (e | e); exact nw1 e; exact nw2 e)) ?_
    try dsimp only [L2.tRet, L2.tRetN, tAndV, tOrV, tNotV, tCB, L2.tCons, L2.tNil, tC, tVar, L2.tOp, L2.tUn, tSeq, tAsg, gName, tIfS, tTest, tNext, tAnd, tOr, tNot, L2.tIf, tFld, sFld, sFldAug, tCall, tTup, tB, tAug, tDrop, L2.tSl, tPart, tNoPart, tBM, tBM0, tChain, gTup, gCons, gNil, tPar, tIs, List.set, L2.start, iTup, L2.iList, L2.iRng1, tUn, tLst, tTest, gSub, tCall, L2.tIf, tCB, rRep, List.set, List.cons_append, List.nil_append, cxOf]
    have ne : ¬ (HT.sIx (V.str w :: xs).length 0 (some (1 : Int)) = 0 ∧ HT.sIx (V.str w :: xs).length (V.str w :: xs).length none = (V.str w :: xs).length) := by
      rintro ⟨z, _⟩
      have y : HT.sIx (V.str w :: xs).length 0 (some (1 : Int)) = 1 := by
        show (if (1 : Int) < 0 then ((1 : Int) + ((xs.length + 1 : Nat) : Int)).toNat else min (1 : Int).toNat (xs.length + 1)) = 1
        rw [if_neg (by omega)]
        show min 1 (xs.length + 1) = 1
        omega
      rw [y] at z
      cases z
    refine lc_in ?_
    try dsimp only [L2.tRet, L2.tRetN, tAndV, tOrV, tNotV, tCB, L2.tCons, L2.tNil, tC, tVar, L2.tOp, L2.tUn, tSeq, tAsg, gName, tIfS, tTest, tNext, tAnd, tOr, tNot, L2.tIf, tFld, sFld, sFldAug, tCall, tTup, tB, tAug, tDrop, L2.tSl, tPart, tNoPart, tBM, tBM0, tChain, gTup, gCons, gNil, tPar, tIs, List.set, L2.start, iTup, L2.iList, L2.iRng1, tUn, tLst, tTest, gSub, tCall, L2.tIf, tCB, rRep, List.set, List.cons_append, List.nil_append, cxOf]
    refine ⟨_, rfl, 1, rfl, a, _, rfl, sqt (s1 _ _ ha), ne, fun p2 np2 => ?_⟩
    rw [cut_one]
    have s2 := s1.trans (same_new (o := .tup xs) np2)
    have r : Right (plain pre ++ (parted ks ++ plain post)) := (right_plain l2).app ((right_parted ks).app (right_plain l3))
    have kk : kidsOf (plain pre ++ (parted ks ++ plain post)) = ks := by rw [kids_app, kids_app, kids_plain, kids_plain, kids_parted, List.nil_append, List.append_nil]
    generalize hi : plain pre ++ (parted ks ++ plain post) = is at r kk dxs
    have ln : is.length ≤ 5003 := by
      rw [← hi, List.length_append, List.length_append]
      unfold plain parted
      rw [List.length_map, List.length_map, List.length_map]
      omega
    have hp2 : upd (upd H p (.tup [V.str "seq", V.str "pipe"])) p2 (.tup xs) p2 = some (.tup xs) := upd_same
    generalize upd (upd H p (.tup [V.str "seq", V.str "pipe"])) p2 (.tup xs) = G at s2 hp2 ⊢
    refine ⟨p2, rfl, ⟨_, sqt hp2⟩, lcl_tup (K := K) (a := p2) (xs := xs) (fun D i H' => Same G H' ∧ LD K H' D (encs (kidsOf (is.take i)))) (fun D nD => ⟨same_new nD, [], upd_same, .nil⟩) (fun D nD i H' li s => sqt (s.1 _ _ hp2)) ?hs ?hd⟩
    case hs =>
      rintro D nD i x H2 hxi ⟨s3, ld3⟩
      obtain ⟨t, et, dt⟩ := dats_at dxs hxi
      obtain ⟨o, eo⟩ := fst_at et
      have dt2 := dt.up (same_stay (s2.trans s3))
      try dsimp only [L2.tRet, L2.tRetN, tAndV, tOrV, tNotV, tCB, L2.tCons, L2.tNil, tC, tVar, L2.tOp, L2.tUn, tSeq, tAsg, gName, tIfS, tTest, tNext, tAnd, tOr, tNot, L2.tIf, tFld, sFld, sFldAug, tCall, tTup, tB, tAug, tDrop, L2.tSl, tPart, tNoPart, tBM, tBM0, tChain, gTup, gCons, gNil, tPar, tIs, List.set, L2.start, iTup, L2.iList, L2.iRng1, tUn, tLst, tTest, gSub, tCall, L2.tIf, tCB, rRep, List.set, List.cons_append, List.nil_append, cxOf]
      refine ⟨rfl, _, rfl, is_tup dt2.im ⟨_, rfl, ?_⟩⟩
      rcases r _ (List.mem_of_getElem? eo) with ⟨e1, e2⟩ | ⟨k, e1, e2⟩
      · dsimp only at e1 e2
        subst e1
        rw [isTu_atom e2]
        refine if_no rfl ⟨s3, ?_⟩
        rw [take_kids eo, Option.toList_none, List.append_nil]
        exact ld3
      · dsimp only at e1 e2
        subst e1 e2
        rw [isTu_enc]
        obtain ⟨acc, hacc, da⟩ := ld3
        refine if_yes rfl ⟨_, rfl, acc, hacc, ?_, Ck.Same.up s3 nD, acc ++ [x], upd_same, ?_⟩
        · have l9 := da.len
          rw [encs_len] at l9
          have l10 : (kidsOf (is.take i)).length ≤ (is.take i).length := List.length_filterMap_le _ _
          rw [List.length_take] at l10
          exact Nat.lt_of_lt_of_le (show acc.length < 10000 by omega) (sl (by decide))
        · rw [take_kids eo, Option.toList_some, encs_app]
          exact (da.app (.cons dt2 .nil)).up (stay_lst hacc)
    case hd =>
      rintro D nD H2 ⟨s3, ld3⟩
      have l3 := dxs.len
      rw [List.length_map] at l3
      rw [l3, List.take_length, kk] at ld3
      exact q D H2 (Ck.Same.non s2 nD) (s2.trans s3) ld3
end
end Ck

/-! All trees of a tree. -/
namespace Ck
open PySem PySem.Spec PyProof.Rows L2
mutual
def rall : Tr → List Tr
  | .mk b w pre ks post => .mk b w pre ks post :: rallR ks
def rallR : List Tr → List Tr
  | [] => []
  | k :: ks => rallR ks ++ rall k
end
theorem rallR_app : ∀ a b : List Tr, rallR (a ++ b) = rallR b ++ rallR a
  | [], b => (List.append_nil _).symm
  | k :: a, b => by
    show rallR (a ++ b) ++ rall k = rallR b ++ (rallR a ++ rall k)
    rw [rallR_app a b, List.append_assoc]
theorem rall_eq (t : Tr) : rall t = t :: rallR (kidsT t) := by cases t; rfl
mutual
theorem rall_len : ∀ t : Tr, (rall t).length = cnt t
  | .mk b w pre ks post => by
    show (rallR ks).length + 1 = 1 + cnts ks
    rw [rallR_len ks, Nat.add_comm]
theorem rallR_len : ∀ ks : List Tr, (rallR ks).length = cnts ks
  | [] => rfl
  | k :: ks => by
    show (rallR ks ++ rall k).length = cnt k + cnts ks
    rw [List.length_append, rallR_len ks, rall_len k, Nat.add_comm]
end
theorem rallR_ge : ∀ ks : List Tr, ks.length ≤ (rallR ks).length
  | [] => Nat.le_refl _
  | k :: ks => by
    have a := rallR_ge ks
    have e := rall_eq k
    show ks.length + 1 ≤ (rallR ks ++ rall k).length
    rw [e, List.length_append, List.length_cons]
    omega
section
variable {X : Cx} {P : Program} {w : World} {K : PySem.W.Frag} {mg : Str → Option Value} {base : Heap} {H H1 H2 : Hp} {l : Addr} {dR dS : Addr} {adr : Kind → Addr} {C W known : List Str}
theorem lay_all (S : Strs C W known) : ∀ {Ws : List Tr}, (∀ k ∈ Ws, Nm C W known k ∧ ht k ≤ 30) → LayTs (encs Ws) 60
  | [], _ => .nil
  | k :: ks, nm => by
    obtain ⟨⟨N, M, i, l, o⟩, hk⟩ := nm k List.mem_cons_self
    exact .cons ((lay_of S o).up (by omega)) (lay_all S fun k m => nm k (List.mem_cons_of_mem _ m))
theorem list_ne {a b : Addr} {Ws : List Tr} {Q : VK} (S : Strs C W known) (nm : ∀ k ∈ Ws, Nm C W known k ∧ ht k ≤ 30) (ld : LD K H a (encs Ws)) (hb : H b = some (.lst [])) (q0 : Ws = [] → Q (.bl false) H) (q1 : Ws ≠ [] → Q (.bl true) H) : rNeD K (.ref a) (.ref b) H Q := by
  obtain ⟨xs, ex, dx⟩ := ld
  have dp := Dp.lst (.inl (.inl ex)) (dx.im.dp dx.fl)
  have db : Dp K H (.ref b) (.list []) := Dp.lst (.inl (.inl hb)) .nil
  have lay := lay_all S nm
  refine ⟨_, _, dp, db, ?_, by decide +kernel, ?_⟩
  · unfold SeqAt.shaped
    rw [Bool.and_eq_true]
    refine ⟨lay.1, decide_eq_true ?_⟩
    show PyData.depthAll (toDs (encs Ws)) + 1 ≤ 64
    have := lay.2
    omega
  · cases Ws with
    | nil => exact q0 rfl
    | cons k ks => exact q1 (by simp)
theorem dats_split : ∀ {ts us : List T} {vs : List V}, Dats K H vs (ts ++ us) → ∃ v1 v2, vs = v1 ++ v2 ∧ Dats K H v1 ts ∧ Dats K H v2 us
  | [], us, vs, d => ⟨[], vs, rfl, .nil, d⟩
  | t :: ts, us, vs, d => by
    obtain ⟨v, r, rfl, dv, dr⟩ := dats_cons d
    obtain ⟨v1, v2, rfl, d1, d2⟩ := dats_split dr
    exact ⟨v :: v1, v2, rfl, .cons dv d1, d2⟩
abbrev sAllT : Stmt := topS 64
abbrev NAl : List Str := ["_law_tree_here", "_law_found", "_law_waiting"]
theorem scAl : FnScope NAl ["_law_tree_here"] (defScope sAllT) := ⟨rfl, rfl, rfl, by decide +kernel, rfl, by decide +kernel, by decide +kernel⟩
def spAllT (K : PySem.W.Frag) : Sp := fun vs H Q _ => ∃ v tr C W known, vs = [v] ∧ Dat K H v (enc tr) ∧ Strs C W known ∧ Nm C W known tr ∧ ht tr ≤ 30 ∧ cnt tr ≤ 3000 ∧ ∀ D H', H D = none → Same H H' → LD K H' D (encs (rall tr)) → Q (.ref D) H'
def left (fl : Addr) (H : Hp) : Nat := match H fl with
  | some (.lst xs) => 4000 - xs.length
  | _ => 0
theorem ok_allT {f : Addr} {fd : FuncData} (F : Fun K "_law_all" "_law_all" sAllT f fd) (G : GPa P w K mg base) : FnOk P w K mg base CX0 2 f fd ["_law_tree_here"] (spAllT K) := by
  refine F.ok scAl (fun vs H Q E h => ?_) (fun cdv A outer s H vs Q E hr hh => ?_)
  · obtain ⟨_, _, _, _, _, rfl, _⟩ := h
    rfl
  obtain ⟨v, tr, C, W, known, rfl, d, S, nm, hb, cb, q⟩ := hh
  refine ⟨_, (pss_cons (ps_par rfl scAl.nd (i := 1) (j := 2) rfl rfl (by decide) rfl rfl (pa_cons (pe_lst pa_nil) (pa_cons (pe_lst (pa_cons (pv 0) pa_nil)) pa_nil)) (by rfl)) (pss_cons (ps_while PassesOwn.never (pt_cmpR (op_neD hr.units) (pv 2) (pe_lst pa_nil) rfl)
      (pss_cons (ps_expr (pe_bm PySem.F.plainAttrs_list PySem.F.slot_list_append PySem.F.type_list_append mt_append (pv 1) (pa_cons (pe_bm0 PySem.F.plainAttrs_list PySem.F.slot_list_pop PySem.F.type_list_pop mt_pop (pv 2)) pa_nil))) (pss_one (ps_expr (pe_bm PySem.F.plainAttrs_list PySem.F.slot_list_extend PySem.F.type_list_extend mt_extend (pv 2) (pa_cons (pe_go (E := fun _ _ _ => False) G hr pass0 rfl (pa_cons (pe_ix ix_list (pv 1) (pe_un un_neg pe_int) fun _ _ => rfl) pa_nil)) pa_nil)))))) (pss_one (ps_ret (pv 1))))), ?_⟩
  try dsimp only [L2.tRet, L2.tRetN, tAndV, tOrV, tNotV, tCB, L2.tCons, L2.tNil, tC, tVar, L2.tOp, L2.tUn, tSeq, tAsg, gName, tIfS, tTest, tNext, tAnd, tOr, tNot, L2.tIf, tFld, sFld, sFldAug, tCall, tTup, tB, tAug, tDrop, L2.tSl, tPart, tNoPart, tBM, tBM0, tChain, gTup, gCons, gNil, tPar, tIs, List.set, L2.start, iTup, L2.iList, L2.iRng1, tUn, tLst, tTest, gSub, tCall, L2.tIf, tCB, rRep, List.set, List.cons_append, List.nil_append, cxOf]
  refine ⟨sl (Nat.zero_le _), fun fl nfl => ⟨_, rfl, sl (Nat.le_of_ble_eq_true rfl), fun wl nwl => ⟨_, _, rfl, ?_⟩⟩⟩
  have nk : wl ≠ fl := Ne.symm (ne_of_none (upd_same (H := H) (o := .lst [])) nwl)
  have hwl : H wl = none := by
    rw [upd_ne nk] at nwl
    exact nwl
  have s0 : Same H (upd (upd H fl (.lst [])) wl (.lst [v])) := Ck.Same.up (same_new nfl) hwl
  have e1 : upd (upd H fl (.lst [])) wl (.lst [v]) fl = some (.lst []) := by rw [upd_ne (Ne.symm nk)]; exact upd_same
  have e2 : upd (upd H fl (.lst [])) wl (.lst [v]) wl = some (.lst [v]) := upd_same
  generalize upd (upd H fl (.lst [])) wl (.lst [v]) = G0 at s0 e1 e2 ⊢
  have lr := rall_len tr
  refine while_by (fun σ H' => ∃ Fs Ws, σ = [some v, some (.ref fl), some (.ref wl)] ∧ Same H H' ∧ LD K H' fl (encs Fs) ∧ LD K H' wl (encs Ws) ∧ Fs ++ rallR Ws = rall tr ∧ ∀ k ∈ Ws, Nm C W known k ∧ ht k ≤ 30) (fun σ H' => left fl H') ⟨[], [tr], rfl, s0, ⟨[], e1, .nil⟩, ⟨[v], e2, .cons (d.up (same_stay s0)) .nil⟩, by show [] ++ ([] ++ rall tr) = _; rfl, all_one ⟨nm, hb⟩⟩ ?hs ?mono
  case mono =>
    intro σ H2 Q1 Q2 im h
    try dsimp only [L2.tRet, L2.tRetN, tAndV, tOrV, tNotV, tCB, L2.tCons, L2.tNil, tC, tVar, L2.tOp, L2.tUn, tSeq, tAsg, gName, tIfS, tTest, tNext, tAnd, tOr, tNot, L2.tIf, tFld, sFld, sFldAug, tCall, tTup, tB, tAug, tDrop, L2.tSl, tPart, tNoPart, tBM, tBM0, tChain, gTup, gCons, gNil, tPar, tIs, List.set, L2.start, iTup, L2.iList, L2.iRng1, tUn, tLst, tTest, gSub, tCall, L2.tIf, tCB, rRep, List.set, List.cons_append, List.nil_append, cxOf]
    obtain ⟨a, e, b, c⟩ := h
    refine ⟨a, e, b, fun p n => ?_⟩
    obtain ⟨d1, d2, p1, p2, p3, p4, k, ek, q⟩ := c p n
    exact ⟨d1, d2, p1, p2, p3, p4, k, ek, im _ _ q⟩
  case hs =>
    rintro σ H2 ⟨Fs, Ws, rfl, s2, lf, lw, eq, nw⟩
    try dsimp only [L2.tRet, L2.tRetN, tAndV, tOrV, tNotV, tCB, L2.tCons, L2.tNil, tC, tVar, L2.tOp, L2.tUn, tSeq, tAsg, gName, tIfS, tTest, tNext, tAnd, tOr, tNot, L2.tIf, tFld, sFld, sFldAug, tCall, tTup, tB, tAug, tDrop, L2.tSl, tPart, tNoPart, tBM, tBM0, tChain, gTup, gCons, gNil, tPar, tIs, List.set, L2.start, iTup, L2.iList, L2.iRng1, tUn, tLst, tTest, gSub, tCall, L2.tIf, tCB, rRep, List.set, List.cons_append, List.nil_append, cxOf]
    refine ⟨_, rfl, sl (Nat.zero_le _), fun b nb => ?_⟩
    have sb := same_new (o := .lst []) nb
    refine list_ne S nw (lw.up sb) upd_same (fun e => ?_) fun ne => ?_
    · subst e
      refine ⟨_, rfl, if_neg Bool.false_ne_true ▸ ?_⟩
      have e : Fs = rall tr := by rw [← eq]; exact (List.append_nil _).symm
      subst e
      exact ⟨_, rfl, q fl _ nfl (s2.trans sb) (lf.up sb)⟩
    · obtain ⟨W2, t, ec⟩ := (List.eq_nil_or_concat Ws).resolve_left ne
      rw [List.concat_eq_append] at ec
      subst ec
      have eq2 : Fs ++ [t] ++ rallR (W2 ++ kidsT t) = rall tr := by
        rw [← eq, rallR_app, rallR_app]
        show Fs ++ [t] ++ (rallR (kidsT t) ++ rallR W2) = Fs ++ (([] ++ rall t) ++ rallR W2)
        rw [rall_eq t]
        simp
      have ln2 := congrArg List.length eq2
      rw [lr, List.length_append, List.length_append] at ln2
      have ge := rallR_ge (W2 ++ kidsT t)
      rw [List.length_append] at ge
      have l1 : ([t] : List Tr).length = 1 := rfl
      refine ⟨_, rfl, if_yes rfl ?_⟩
      obtain ⟨xf, ef, df⟩ := lf.up sb
      obtain ⟨xw, ew, dw⟩ := lw.up sb
      obtain ⟨e0, ef0, df0⟩ := lf
      have ee : e0 = xf := by
        have z := sb _ _ ef0
        rw [ef] at z
        cases z
        rfl
      subst ee
      have sbb := s2.trans sb
      generalize upd H2 b (.lst []) = G1 at sb ef ew df dw sbb ⊢
      rw [encs_app] at dw
      obtain ⟨us, ys, rfl, du, dy⟩ := dats_split dw
      obtain ⟨y, zs, rfl, dyt, dn⟩ := dats_cons dy
      cases dats_nil dn
      have lu := du.len
      have lf2 := df.len
      rw [encs_len] at lu lf2
      refine ⟨_, rfl, .inl ⟨rfl, _, .inl (.inl ef)⟩, _, rfl, .inl ⟨rfl, _, .inl (.inl ew)⟩, wl, us ++ [y], y, rfl, rfl, ew, by simp, fl, e0, y, rfl, rfl, by rw [upd_ne (Ne.symm nk)]; exact ef, Nat.lt_of_lt_of_le (show e0.length < 10000 by omega) (sl (by decide)), ?_⟩
      rw [List.dropLast_concat]
      have st1 : Stay G1 (upd (upd G1 wl (.lst us)) fl (.lst (e0 ++ [y]))) := (stay_lst ew).trans (stay_lst (by rw [upd_ne (Ne.symm nk)]; exact ef))
      have s1 : Same H (upd (upd G1 wl (.lst us)) fl (.lst (e0 ++ [y]))) := Ck.Same.up (Ck.Same.up sbb hwl) nfl
      have ef2 : upd (upd G1 wl (.lst us)) fl (.lst (e0 ++ [y])) fl = some (.lst (e0 ++ [y])) := upd_same
      have ew2 : upd (upd G1 wl (.lst us)) fl (.lst (e0 ++ [y])) wl = some (.lst us) := by rw [upd_ne nk]; exact upd_same
      generalize upd (upd G1 wl (.lst us)) fl (.lst (e0 ++ [y])) = G2 at st1 s1 ef2 ew2 ⊢
      have dy2 := dyt.up st1
      try dsimp only [L2.tRet, L2.tRetN, tAndV, tOrV, tNotV, tCB, L2.tCons, L2.tNil, tC, tVar, L2.tOp, L2.tUn, tSeq, tAsg, gName, tIfS, tTest, tNext, tAnd, tOr, tNot, L2.tIf, tFld, sFld, sFldAug, tCall, tTup, tB, tAug, tDrop, L2.tSl, tPart, tNoPart, tBM, tBM0, tChain, gTup, gCons, gNil, tPar, tIs, List.set, L2.start, iTup, L2.iList, L2.iRng1, tUn, tLst, tTest, gSub, tCall, L2.tIf, tCB, rRep, List.set, List.cons_append, List.nil_append, cxOf]
      refine ⟨_, rfl, .inl ⟨rfl, _, .inl (.inl ew2)⟩, _, rfl, _, rfl, fl, _, _, _, rfl, rfl, .inl (.inl ef2), L2.atI_last _ _, y, t, known, rfl, dy2, (nw t (by simp)).1.any, fun D H3 nD s3 ld => ?_⟩
      obtain ⟨zs, ez, dz⟩ := ld
      have lz := dz.len
      rw [encs_len] at lz
      have ew3 := s3 _ _ ew2
      have st3 : Stay H3 (upd H3 wl (.lst (us ++ zs))) := stay_lst ew3
      have stA := (st1.trans (same_stay s3)).trans st3
      refine ⟨wl, D, us, zs, rfl, rfl, ew3, ez, sl (by omega), ⟨Fs ++ [t], W2 ++ kidsT t, rfl, Ck.Same.up (s1.trans s3) hwl, ⟨e0 ++ [y], by rw [upd_ne (Ne.symm nk)]; exact s3 _ _ ef2, ?_⟩, ⟨us ++ zs, upd_same, ?_⟩, eq2, ?_⟩, ?_⟩
      · rw [encs_app]
        exact (df.app (.cons dyt .nil)).up stA
      · rw [encs_app]
        exact (du.up stA).app (dz.up st3)
      · intro k mk
        rcases List.mem_append.mp mk with mk | mk
        · exact nw k (List.mem_append_left _ mk)
        · obtain ⟨n1, h1⟩ := nw t (by simp)
          obtain ⟨bb, ww, pp, kk, qq⟩ := t
          refine ⟨n1.kids k mk, ?_⟩
          have z : ht k ≤ 29 := ht_kid (h := 29) h1 mk
          omega
      · show left fl (upd H3 wl (.lst (us ++ zs))) < left fl H2
        unfold left
        rw [upd_ne (Ne.symm nk), s3 _ _ ef2, ef0]
        show 4000 - (e0 ++ [y]).length < 4000 - e0.length
        rw [List.length_append]
        show 4000 - (e0.length + 1) < _
        omega
end
end Ck

/-! Unfolded sizes, as the law counts them. -/
namespace Ck
open PySem PySem.Spec PyProof.Rows L2
section
variable {X : Cx} {P : Program} {w : World} {K : PySem.W.Frag} {mg : Str → Option Value} {base : Heap} {H H1 H2 : Hp} {l : Addr} {dR dS : Addr} {adr : Kind → Addr} {C W known : List Str}
abbrev sUnf : Stmt := topS 65
abbrev NUn : List Str := ["_law_tree_here", "_law_sizes_here", "_law_inner", "_law_part"]
abbrev PUn : List Str := ["_law_tree_here", "_law_sizes_here"]
theorem scUn : FnScope NUn PUn (defScope sUnf) := ⟨rfl, rfl, rfl, by decide +kernel, rfl, by decide +kernel, by decide +kernel⟩
def spUnf (K : PySem.W.Frag) : Nat → Sp
  | 0 => fun _ _ _ _ => False
  | h + 1 => fun vs H Q _ => ∃ v sd tr fs, vs = [v, .ref sd] ∧ Dat K H v (enc tr) ∧ ht tr ≤ h + 1 ∧ Any (fs.map (·.1)) tr ∧ NN fs ∧ H sd = some (.dK (ftab fs)) ∧ ∀ H', Same H H' → Q (.int (unf fs tr)) H'
abbrev GUn (P : Program) (w : World) (K : PySem.W.Frag) (mg : Str → Option Value) (base : Heap) (h : Nat) : Prop := Go P w K mg base CX0 (2 + h) "_law_unfolded" PUn (spUnf K h)
theorem ok_unf0 {f : Addr} {fd : FuncData} (F : Fun K "_law_unfolded" "_law_unfolded" sUnf f fd) : FnOk P w K mg base CX0 2 f fd PUn (spUnf K 0) :=
  F.ok scUn (fun vs H Q E h => h.elim) (fun cdv A outer s H vs Q E hr h => h.elim)
def tUnf (sd : Addr) (fs : List (Str × Int)) (h : Nat) (K : PySem.W.Frag) : TE := fun σ H Q => ∃ v k, σ[3]? = some (some v) ∧ σ[1]? = some (some (.ref sd)) ∧ Dat K H v (enc k) ∧ ht k ≤ h ∧ Any (fs.map (·.1)) k ∧ NN fs ∧ H sd = some (.dK (ftab fs)) ∧ ∀ H', Same H H' → Q (.int (unf fs k)) H'
theorem tUnf_is {sd : Addr} {fs : List (Str × Int)} {h : Nat} {E : XK} (σ : L2.St) (H : Hp) (Q : VK) (z : tUnf sd fs h K σ H Q) : tCall (spUnf K h) [] E (tCons (tVar 3) (tCons (tVar 1) tNil)) σ H Q := by
  obtain ⟨v, k, s3, s1, d, hk, ak, nn, hd, q⟩ := z
  cases h with
  | zero =>
    have := ht_pos k
    omega
  | succ h =>
    try dsimp only [L2.tRet, L2.tRetN, tAndV, tOrV, tNotV, tCB, L2.tCons, L2.tNil, tC, tVar, L2.tOp, L2.tUn, tSeq, tAsg, gName, tIfS, tTest, tNext, tAnd, tOr, tNot, L2.tIf, tFld, sFld, sFldAug, tCall, tTup, tB, tAug, tDrop, L2.tSl, tPart, tNoPart, tBM, tBM0, tChain, gTup, gCons, gNil, tPar, tIs, List.set, L2.start, iTup, L2.iList, L2.iRng1, tUn, tLst, tTest, gSub, tCall, L2.tIf, tCB, rRep, List.set, List.cons_append, List.nil_append, cxOf]
    exact ⟨_, s3, _, s1, v, sd, k, fs, rfl, d, hk, ak, nn, hd, q⟩
theorem unfs_sum (fs : List (Str × Int)) : ∀ ks : List Tr, (ks.map (unf fs)).sum = unfs fs ks
  | [] => rfl
  | k :: ks => by
    rw [List.map_cons, List.sum_cons, unfs_sum fs ks]
    rfl
theorem encs_at : ∀ {ks : List Tr} {i : Nat} {t : T}, (encs ks)[i]? = some t → ∃ k, ks[i]? = some k ∧ t = enc k
  | [], i, t, h => by cases h
  | k :: ks, 0, t, h => by
    cases h
    exact ⟨k, rfl, rfl⟩
  | k :: ks, i + 1, t, h => encs_at (ks := ks) (i := i) h
theorem ok_unfS {f : Addr} {fd : FuncData} {h : Nat} (F : Fun K "_law_unfolded" "_law_unfolded" sUnf f fd) (M : Mg mg) (GP : GPa P w K mg base) (G : GUn P w K mg base h) : FnOk P w K mg base CX0 (2 + (h + 1)) f fd PUn (spUnf K (h + 1)) := by
  refine F.ok scUn (fun vs H Q E h => ?_) (fun cdv A outer s H vs Q E hr hh => ?_)
  · obtain ⟨_, _, _, _, rfl, _⟩ := h
    rfl
  obtain ⟨v, sd, tr, fs, rfl, d, hb, an, nn, hd, q⟩ := hh
  have hu := hu_of hr
  have hr1 := hr.mono (j := 1) (by show 1 ≤ 2 + h; omega)
  refine ⟨_, (pss_cons (ps_set (i := 2) scUn.nd rfl (.inl rfl) (pe_callB (cr_sum rfl) rfl M.ms (by decide +kernel) (pa_cons (pe_lc (te := tUnf sd fs h K) (own := [("_law_part", 3)]) (g := gName 3) (tt := tYes) rfl scUn.nd (pi_list (pe_go (E := fun _ _ _ => False) GP hr1 pass0 rfl (pa_cons (pv 0) pa_nil))) (blkOk_by (N := NUn) (sc := defScope sUnf) (by decide +kernel)) (fun _ _ _ _ _ => pg_name (i := 3) scUn.nd rfl (.inl rfl)) (fun _ _ _ _ _ => pts_nil)
      (fun _ _ _ _ _ => pe_imp (pe_go (E := fun _ _ _ => False) G hr pass0 rfl (pa_cons (pv 3) (pa_cons (pv 1) pa_nil))) tUnf_is)) pa_nil))) (pss_cons (ps_if (pt_cmpR op_eq (pe_ix ix_tup (pv 0) pe_int fun _ _ => rfl) pe_str rfl) (pss_one (ps_ret (pe_op op_add pe_int (pe_op op_mul (pe_ix ix_tup (pv 0) pe_int fun _ _ => rfl) (pv 2))))) pss_nil) (pss_one (ps_ret (pe_op op_add (pe_op op_add pe_int (pv 2)) (pe_ifExp (pt_cmpR op_eq (pe_ix ix_tup (pv 0) pe_int fun _ _ => rfl) pe_str rfl) (pe_dget hu (pv 1) (pe_ix ix_tup (pv 0) pe_int fun _ _ => rfl) fun _ _ => rfl) pe_int)))))), ?_⟩
  try dsimp only [L2.tRet, L2.tRetN, tAndV, tOrV, tNotV, tCB, L2.tCons, L2.tNil, tC, tVar, L2.tOp, L2.tUn, tSeq, tAsg, gName, tIfS, tTest, tNext, tAnd, tOr, tNot, L2.tIf, tFld, sFld, sFldAug, tCall, tTup, tB, tAug, tDrop, L2.tSl, tPart, tNoPart, tBM, tBM0, tChain, gTup, gCons, gNil, tPar, tIs, List.set, L2.start, iTup, L2.iList, L2.iRng1, tUn, tLst, tTest, gSub, tCall, L2.tIf, tCB, rRep, List.set, List.cons_append, List.nil_append, cxOf]
  obtain ⟨b, w, pre, ks, post⟩ := tr
  obtain ⟨l1, l2, l3, l4, l5, l6, l7, l8⟩ := an.look
  obtain ⟨a, xs, rfl, ha, hT, hF⟩ := enc_in (fun e => by rcases l4 with ⟨_, _, z, y⟩ | ⟨z, _⟩; exact ⟨z, y⟩; rw [e] at z; cases z) d
  refine lc_in ?_
  try dsimp only [L2.tRet, L2.tRetN, tAndV, tOrV, tNotV, tCB, L2.tCons, L2.tNil, tC, tVar, L2.tOp, L2.tUn, tSeq, tAsg, gName, tIfS, tTest, tNext, tAnd, tOr, tNot, L2.tIf, tFld, sFld, sFldAug, tCall, tTup, tB, tAug, tDrop, L2.tSl, tPart, tNoPart, tBM, tBM0, tChain, gTup, gCons, gNil, tPar, tIs, List.set, L2.start, iTup, L2.iList, L2.iRng1, tUn, tLst, tTest, gSub, tCall, L2.tIf, tCB, rRep, List.set, List.cons_append, List.nil_append, cxOf]
  refine ⟨_, rfl, .ref a, _, _, rfl, d, an, fun D0 H2 nD0 s2 ld => ?_⟩
  obtain ⟨ys, ey, dy⟩ := ld
  have ly := dy.len
  rw [encs_len] at ly
  have lks : (kidsT (.mk b w pre ks post)).length = ks.length := rfl
  refine ⟨D0, rfl, ⟨_, .inl (.inl ey)⟩, lcl_list (K := K) (a := D0) (xs := ys) (fun D i H' => Same H2 H' ∧ H' D = some (.lst (((ks.take i).map (unf fs)).map V.int))) (fun D nD => ⟨same_new nD, upd_same⟩) (fun D nD i H' li s => .inl (.inl (s.1 _ _ ey))) ?hs ?hd⟩
  case hs =>
    rintro D nD i x H3 hx ⟨s3, h3⟩
    obtain ⟨t, et, dt⟩ := dats_at dy hx
    obtain ⟨k, ek, rfl⟩ := encs_at et
    have mk : k ∈ ks := List.mem_of_getElem? ek
    try dsimp only [L2.tRet, L2.tRetN, tAndV, tOrV, tNotV, tCB, L2.tCons, L2.tNil, tC, tVar, L2.tOp, L2.tUn, tSeq, tAsg, gName, tIfS, tTest, tNext, tAnd, tOr, tNot, L2.tIf, tFld, sFld, sFldAug, tCall, tTup, tB, tAug, tDrop, L2.tSl, tPart, tNoPart, tBM, tBM0, tChain, gTup, gCons, gNil, tPar, tIs, List.set, L2.start, iTup, L2.iList, L2.iRng1, tUn, tLst, tTest, gSub, tCall, L2.tIf, tCB, rRep, List.set, List.cons_append, List.nil_append, cxOf]
    refine ⟨rfl, ?_⟩
    dsimp only [tYes]
    refine if_yes rfl ?_
    refine ⟨x, k, rfl, rfl, dt.up (same_stay s3), ht_kid hb mk, l1 k mk, nn, (s2.trans s3) _ _ hd, fun H4 s4 => ?_⟩
    refine ⟨_, s4 _ _ h3, ?_, Ck.Same.up (s3.trans s4) nD, ?_⟩
    · rw [List.length_map, List.length_map, List.length_take]
      exact Nat.lt_of_lt_of_le (show min i ks.length < 10000 by omega) (sl (by decide))
    · have ek2 : ks[i]? = some k := ek
      rw [upd_same, List.take_add_one, ek2, Option.toList_some, List.map_append, List.map_append]
      rfl
  case hd =>
    rintro D nD H3 ⟨s3, h3⟩
    have ly2 : ys.length = ks.length := ly
    rw [ly2, List.take_length] at h3
    have s4 := s2.trans s3
    have qq := q H3 s4
    refine ⟨D, ks.map (unf fs), rfl, .inl (.inl h3), ?_⟩
    rw [unfs_sum]
    try dsimp only [L2.tRet, L2.tRetN, tAndV, tOrV, tNotV, tCB, L2.tCons, L2.tNil, tC, tVar, L2.tOp, L2.tUn, tSeq, tAsg, gName, tIfS, tTest, tNext, tAnd, tOr, tNot, L2.tIf, tFld, sFld, sFldAug, tCall, tTup, tB, tAug, tDrop, L2.tSl, tPart, tNoPart, tBM, tBM0, tChain, gTup, gCons, gNil, tPar, tIs, List.set, L2.start, iTup, L2.iList, L2.iRng1, tUn, tLst, tTest, gSub, tCall, L2.tIf, tCB, rRep, List.set, List.cons_append, List.nil_append, cxOf]
    refine ⟨_, rfl, a, _, _, _, rfl, rfl, sqt (s4 _ _ ha), atI_nat (j := 0) rfl, rfl, _, rfl, ?_⟩
    by_cases ct : w = "times"
    · subst ct
      obtain ⟨n, rfl, n0, n1, rfl⟩ := l6 rfl
      obtain ⟨t1, us, rfl, d1, _⟩ := dats_cons (hF rfl)
      cases dat_int d1
      refine if_yes (decide_eq_true rfl) ?_
      try dsimp only [L2.tRet, L2.tRetN, tAndV, tOrV, tNotV, tCB, L2.tCons, L2.tNil, tC, tVar, L2.tOp, L2.tUn, tSeq, tAsg, gName, tIfS, tTest, tNext, tAnd, tOr, tNot, L2.tIf, tFld, sFld, sFldAug, tCall, tTup, tB, tAug, tDrop, L2.tSl, tPart, tNoPart, tBM, tBM0, tChain, gTup, gCons, gNil, tPar, tIs, List.set, L2.start, iTup, L2.iList, L2.iRng1, tUn, tLst, tTest, gSub, tCall, L2.tIf, tCB, rRep, List.set, List.cons_append, List.nil_append, cxOf]
      have e : unf fs (.mk false "times" [.int n] ks post) = 1 + n * unfs fs ks := rfl
      rw [e] at qq
      exact ⟨_, rfl, a, _, _, _, rfl, rfl, sqt (s4 _ _ ha), atI_nat (j := 1) rfl, _, rfl, _, _, rfl, rfl, mul_left n0 (by omega), _, _, rfl, rfl, qq⟩
    refine if_no (decide_eq_false fun e => ct (V.str.inj e)) ?_
    try dsimp only [L2.tRet, L2.tRetN, tAndV, tOrV, tNotV, tCB, L2.tCons, L2.tNil, tC, tVar, L2.tOp, L2.tUn, tSeq, tAsg, gName, tIfS, tTest, tNext, tAnd, tOr, tNot, L2.tIf, tFld, sFld, sFldAug, tCall, tTup, tB, tAug, tDrop, L2.tSl, tPart, tNoPart, tBM, tBM0, tChain, gTup, gCons, gNil, tPar, tIs, List.set, L2.start, iTup, L2.iList, L2.iRng1, tUn, tLst, tTest, gSub, tCall, L2.tIf, tCB, rRep, List.set, List.cons_append, List.nil_append, cxOf]
    refine ⟨_, rfl, _, _, rfl, rfl, _, rfl, a, _, _, _, rfl, rfl, sqt (s4 _ _ ha), atI_nat (j := 0) rfl, rfl, _, rfl, ?_⟩
    by_cases cc : w = "call"
    · subst cc
      obtain ⟨f, rfl, fm, rfl, _⟩ := l5 rfl
      obtain ⟨t1, us, rfl, d1, _⟩ := dats_cons (hF rfl)
      cases dat_str d1
      refine if_yes (decide_eq_true rfl) ?_
      dsimp only [tDGet]
      try dsimp only [L2.tRet, L2.tRetN, tAndV, tOrV, tNotV, tCB, L2.tCons, L2.tNil, tC, tVar, L2.tOp, L2.tUn, tSeq, tAsg, gName, tIfS, tTest, tNext, tAnd, tOr, tNot, L2.tIf, tFld, sFld, sFldAug, tCall, tTup, tB, tAug, tDrop, L2.tSl, tPart, tNoPart, tBM, tBM0, tChain, gTup, gCons, gNil, tPar, tIs, List.set, L2.start, iTup, L2.iList, L2.iRng1, tUn, tLst, tTest, gSub, tCall, L2.tIf, tCB, rRep, List.set, List.cons_append, List.nil_append, cxOf]
      obtain ⟨u, eu, u0⟩ := look_some fm nn
      have g : DGet H3 sd (.str f) (valV (ftab fs) (.inr f)) := DGet.k (k := Sum.inr f) (s4 _ _ hd)
      rw [valV_ftab, eu] at g
      refine ⟨_, rfl, _, rfl, a, _, _, _, rfl, rfl, sqt (s4 _ _ ha), atI_nat (j := 1) rfl, sd, _, rfl, g, _, _, rfl, rfl, ?_⟩
      have e : unf fs (.mk false "call" [.str f] ks post) = 1 + unfs fs ks + (fs.lookup f).getD 0 := rfl
      rw [e, eu] at qq
      exact qq
    · refine if_no (decide_eq_false fun e => cc (V.str.inj e)) ?_
      have e : unf fs (.mk b w pre ks post) = 1 + unfs fs ks + 0 := by
        show own fs w pre (unfs fs ks) = _
        unfold own
        rw [if_neg ct, if_neg cc]
      rw [e] at qq
      exact ⟨_, _, rfl, rfl, qq⟩
end
end Ck

/-! Sizes, as the law counts them. -/
namespace Ck
open PySem PySem.Spec PyProof.Rows L2
theorem grown_snoc : ∀ (rs : Rows) (fs : List (Str × Int)) (r : Str × Tr), grown fs (rs ++ [r]) = grown fs rs ++ [(r.1, unf (grown fs rs) r.2)]
  | [], fs, r => rfl
  | q :: rs, fs, r => grown_snoc rs (fs ++ [(q.1, unf fs q.2)]) r
theorem grown_len : ∀ (rs : Rows) (fs : List (Str × Int)), (grown fs rs).length = fs.length + rs.length
  | [], fs => rfl
  | r :: rs, fs => by
    show (grown (fs ++ [(r.1, unf fs r.2)]) rs).length = _
    rw [grown_len rs, List.length_append, List.length_cons]
    show fs.length + 1 + rs.length = fs.length + (rs.length + 1)
    omega
section
variable {C W : List Str} {N M : Int}
theorem RowsOk.at : ∀ {rs : Rows} {fs : List (Str × Int)} {i : Nat} {r : Str × Tr}, RowsOk C W N M fs rs → NN fs → rs[i]? = some r → nameOk r.1 = true ∧ (grown fs (rs.take i)).lookup r.1 = none ∧ Okt C W N M ((grown fs (rs.take i)).map (·.1)) true 0 r.2 ∧ ht r.2 ≤ 30 ∧ NN (grown fs (rs.take i)) ∧ cnt r.2 ≤ tot rs
  | [], _, _, _, _, _, h => by cases h
  | q :: rs, fs, 0, r, ok, nn, h => by
    cases h
    obtain ⟨o1, o2, o3, o4, o5, o6⟩ := ok
    exact ⟨o1, o2, o3, o5, nn, Nat.le_add_right _ _⟩
  | q :: rs, fs, i + 1, r, ok, nn, h => by
    obtain ⟨o1, o2, o3, o4, o5, o6⟩ := ok
    have pos := Okt.pos nn.fns o3
    obtain ⟨a, b, c, d, e, f⟩ := RowsOk.at (rs := rs) (i := i) o6 (nn.snoc (by omega)) h
    exact ⟨a, b, c, d, e, Nat.le_trans f (Nat.le_add_left _ _)⟩
theorem RowsOk.nn : ∀ {rs : Rows} {fs : List (Str × Int)}, RowsOk C W N M fs rs → NN fs → NN (grown fs rs)
  | [], _, _, nn => nn
  | q :: rs, fs, ok, nn => by
    obtain ⟨o1, o2, o3, o4, o5, o6⟩ := ok
    have pos := Okt.pos nn.fns o3
    exact RowsOk.nn (rs := rs) o6 (nn.snoc (by omega))
theorem RowsOk.nms : ∀ {rs : Rows} {fs : List (Str × Int)}, RowsOk C W N M fs rs → (∀ z ∈ fs.map (·.1), nameOk z = true) → ∀ z ∈ (grown fs rs).map (·.1), nameOk z = true
  | [], _, _, h => h
  | q :: rs, fs, ok, h => by
    obtain ⟨o1, o2, o3, o4, o5, o6⟩ := ok
    refine RowsOk.nms (rs := rs) o6 ?_
    intro z m
    rw [List.map_append] at m
    rcases List.mem_append.mp m with m | m
    · exact h z m
    · rw [List.map_cons, List.map_nil, List.mem_singleton] at m
      rw [m]
      exact o1
theorem RowsOk.take : ∀ {rs : Rows} {fs : List (Str × Int)} (i : Nat), RowsOk C W N M fs rs → RowsOk C W N M fs (rs.take i)
  | [], _, i, _ => by rw [List.take_nil]; exact True.intro
  | q :: rs, fs, 0, _ => True.intro
  | q :: rs, fs, i + 1, ok => by
    obtain ⟨o1, o2, o3, o4, o5, o6⟩ := ok
    exact ⟨o1, o2, o3, o4, o5, RowsOk.take (rs := rs) i o6⟩
theorem strs_of (cd : CondW C W N M) {known : List Str} (h : ∀ z ∈ known, nameOk z = true) : Strs C W known := ⟨fun z m => strs_name (cd.c z m), fun z m => strs_name (cd.v z m), fun z m => strs_name (h z m)⟩
theorem no_nm : ∀ z ∈ ([] : List (Str × Int)).map (·.1), nameOk z = true := fun z m => by cases m
theorem nn_nil : NN [] := fun p m => by cases m
/-- all that is known of a row -/
theorem ProgOk.row {rs : Rows} {m : Tr} (h : ProgOk C W N M rs m) {i : Nat} {r : Str × Tr} (e : rs[i]? = some r) : nameOk r.1 = true ∧ (grown [] (rs.take i)).lookup r.1 = none ∧ Nm C W ((grown [] (rs.take i)).map (·.1)) r.2 ∧ Strs C W ((grown [] (rs.take i)).map (·.1)) ∧ ht r.2 ≤ 30 ∧ NN (grown [] (rs.take i)) ∧ cnt r.2 ≤ 3000 := by
  obtain ⟨a, b, c, d, n, t⟩ := h.rs.at nn_nil e
  have := h.tr
  exact ⟨a, b, ⟨_, _, _, _, c⟩, strs_of h.cd ((h.rs.take i).nms no_nm), d, n, by omega⟩
theorem ProgOk.main {rs : Rows} {m : Tr} (h : ProgOk C W N M rs m) : Nm C W ((grown [] rs).map (·.1)) m ∧ Strs C W ((grown [] rs).map (·.1)) ∧ ht m ≤ 30 ∧ NN (grown [] rs) ∧ cnt m ≤ 3000 := by
  have := h.tr
  exact ⟨⟨_, _, _, _, h.mn⟩, strs_of h.cd (h.rs.nms no_nm), h.dp, h.rs.nn nn_nil, by omega⟩
theorem name_len {z : Str} (h : nameOk z = true) : z.length ≤ 100 := by
  unfold nameOk at h
  simp only [Bool.and_eq_true] at h
  have a := of_decide_eq_true h.1
  omega
theorem tot_app : ∀ (a b : Rows), tot (a ++ b) = tot a + tot b
  | [], b => (Nat.zero_add _).symm
  | r :: a, b => by
    show cnt r.2 + tot (a ++ b) = cnt r.2 + tot a + tot b
    rw [tot_app a b]
    omega
end
section
variable {X : Cx} {P : Program} {w : World} {K : PySem.W.Frag} {mg : Str → Option Value} {base : Heap} {H H1 H2 : Hp} {l : Addr} {dR dS : Addr} {adr : Kind → Addr}
/-- a plan that stands in the heap -/
theorem plan_in {v : V} {rs : Rows} {m : Tr} (d : Dat K H v (encP rs m)) : ∃ a p vm xs, v = .ref a ∧ H a = some (.tup [.ref p, vm]) ∧ H p = some (.tup xs) ∧ Dats K H xs (rs.map encF) ∧ Dat K H vm (enc m) := by
  obtain ⟨a, xs, rfl, ha, ds⟩ := dat_tup d
  obtain ⟨v0, us, rfl, d0, ds⟩ := dats_cons ds
  obtain ⟨v1, us, rfl, d1, ds⟩ := dats_cons ds
  cases dats_nil ds
  obtain ⟨p, ys, rfl, hp, dp⟩ := dat_tup d0
  exact ⟨a, p, v1, ys, rfl, ha, hp, dp, d1⟩
theorem row_in {v : V} {r : Str × Tr} (d : Dat K H v (encF r)) : ∃ p y, v = .ref p ∧ H p = some (.tup [.str r.1, y]) ∧ Dat K H y (enc r.2) := by
  obtain ⟨p, xs, rfl, hp, dxs⟩ := dat_tup d
  obtain ⟨y0, us, rfl, d0, dxs⟩ := dats_cons dxs
  obtain ⟨y1, us, rfl, d1, dxs⟩ := dats_cons dxs
  cases dats_nil dxs
  cases dat_str d0
  exact ⟨p, y1, rfl, hp, d1⟩
abbrev sSizes : Stmt := topS 66
abbrev NSz : List Str := ["_law_plan_here", "_law_sizes_here", "_law_total", "_law_name", "_law_body"]
theorem scSz : FnScope NSz ["_law_plan_here"] (defScope sSizes) := ⟨rfl, rfl, rfl, by decide +kernel, rfl, by decide +kernel, by decide +kernel⟩
def spSizes (K : PySem.W.Frag) : Sp := fun vs H Q _ => ∃ v rs m, vs = [v] ∧ Dat K H v (encP rs m) ∧ IsProg rs m ∧ ∀ p H', Same H H' → H' p = some (.tup [.int ((tot rs + cnt m : Nat) : Int), .int (unf (grown [] rs) m)]) → Q (.ref p) H'
abbrev GAl (P : Program) (w : World) (K : PySem.W.Frag) (mg : Str → Option Value) (base : Heap) : Prop := Go P w K mg base CX0 2 "_law_all" ["_law_tree_here"] (spAllT K)
theorem ok_sizes {f : Addr} {fd : FuncData} (F : Fun K "_law_sizes" "_law_sizes" sSizes f fd) (M : Mg mg) (GA : GAl P w K mg base) (GU : GUn P w K mg base 30) : FnOk P w K mg base CX0 33 f fd ["_law_plan_here"] (spSizes K) := by
  refine F.ok scSz (fun vs H Q E h => ?_) (fun cdv A outer s H vs Q E hr hh => ?_)
  · obtain ⟨_, _, _, rfl, _⟩ := h
    rfl
  obtain ⟨v, rs, m, rfl, d, ⟨C, W, N, Mx, pr⟩, q⟩ := hh
  have hu := hu_of hr
  have hr2 := hr.mono (j := 2) (by decide)
  refine ⟨_, (pss_cons (ps_par rfl scSz.nd (i := 1) (j := 2) rfl rfl (by decide) rfl rfl (pa_cons pe_dnewK (pa_cons (pe_callB call_len_seq rfl M.ml PySem.boot_len (pa_cons (pe_go (E := fun _ _ _ => False) GA hr2 pass0 rfl (pa_cons (pe_ix ix_tup (pv 0) pe_int fun _ _ => rfl) pa_nil)) pa_nil)) pa_nil)) (by rfl)) (pss_cons (ps_for PassesOwn.never rfl (pi_tup (pe_ix ix_tup (pv 0) pe_int fun _ _ => rfl)) (pg_tup rfl (L2.pgs_cons (pg_name (i := 3) scSz.nd rfl (.inl rfl)) (L2.pgs_cons (pg_name (i := 4) scSz.nd rfl (.inl rfl)) L2.pgs_nil)))
      (pss_cons (ps_dput hu (pv 1) (pv 3) (pe_go (E := fun _ _ _ => False) GU hr pass0 rfl (pa_cons (pv 4) (pa_cons (pv 1) pa_nil))) rfl) (pss_one (ps_set (i := 2) scSz.nd rfl (.inl rfl) (pe_op op_add (pv 2) (pe_callB call_len_seq rfl M.ml PySem.boot_len (pa_cons (pe_go (E := fun _ _ _ => False) GA hr2 pass0 rfl (pa_cons (pv 4) pa_nil)) pa_nil))))))) (pss_one (ps_ret (pe_tup (pa_cons (pv 2) (pa_cons (pe_go (E := fun _ _ _ => False) GU hr pass0 rfl (pa_cons (pe_ix ix_tup (pv 0) pe_int fun _ _ => rfl) (pa_cons (pv 1) pa_nil))) pa_nil))))))), ?_⟩
  try dsimp only [L2.tRet, L2.tRetN, tAndV, tOrV, tNotV, tCB, L2.tCons, L2.tNil, tC, tVar, L2.tOp, L2.tUn, tSeq, tAsg, gName, tIfS, tTest, tNext, tAnd, tOr, tNot, L2.tIf, tFld, sFld, sFldAug, tCall, tTup, tB, tAug, tDrop, L2.tSl, tPart, tNoPart, tBM, tBM0, tChain, gTup, gCons, gNil, tPar, tIs, List.set, L2.start, iTup, L2.iList, L2.iRng1, tUn, tLst, tTest, gSub, tCall, L2.tIf, tCB, rRep, List.set, List.cons_append, List.nil_append, cxOf]
  obtain ⟨m1, m2, m3, m4, m5⟩ := pr.main
  obtain ⟨a, p, vm, xs, rfl, ha, hp, dxs, dm⟩ := plan_in d
  intro dd nd
  try dsimp only [L2.tRet, L2.tRetN, tAndV, tOrV, tNotV, tCB, L2.tCons, L2.tNil, tC, tVar, L2.tOp, L2.tUn, tSeq, tAsg, gName, tIfS, tTest, tNext, tAnd, tOr, tNot, L2.tIf, tFld, sFld, sFldAug, tCall, tTup, tB, tAug, tDrop, L2.tSl, tPart, tNoPart, tBM, tBM0, tChain, gTup, gCons, gNil, tPar, tIs, List.set, L2.start, iTup, L2.iList, L2.iRng1, tUn, tLst, tTest, gSub, tCall, L2.tIf, tCB, rRep, List.set, List.cons_append, List.nil_append, cxOf]
  have s0 := same_new (o := .dK []) nd
  refine ⟨_, rfl, a, _, _, _, rfl, rfl, sqt (s0 _ _ ha), atI_nat (j := 1) rfl, vm, m, C, W, _, rfl, dm.up (same_stay s0), m2, m1, m3, m5, fun D H2 nD s2 ld => ?_⟩
  obtain ⟨zs, ez, dz⟩ := ld
  have lz := dz.len
  rw [encs_len, rall_len] at lz
  refine ⟨D, zs, rfl, .inl (.inl (.inl ez)), _, _, rfl, ?_⟩
  have s02 := s0.trans s2
  refine loop_in ?_
  try dsimp only [L2.tRet, L2.tRetN, tAndV, tOrV, tNotV, tCB, L2.tCons, L2.tNil, tC, tVar, L2.tOp, L2.tUn, tSeq, tAsg, gName, tIfS, tTest, tNext, tAnd, tOr, tNot, L2.tIf, tFld, sFld, sFldAug, tCall, tTup, tB, tAug, tDrop, L2.tSl, tPart, tNoPart, tBM, tBM0, tChain, gTup, gCons, gNil, tPar, tIs, List.set, L2.start, iTup, L2.iList, L2.iRng1, tUn, tLst, tTest, gSub, tCall, L2.tIf, tCB, rRep, List.set, List.cons_append, List.nil_append, cxOf]
  have lx : xs.length = rs.length := by rw [dxs.len, List.length_map]
  refine ⟨_, rfl, a, _, _, _, rfl, rfl, sqt (s02 _ _ ha), atI_nat (j := 0) rfl, p, rfl, ⟨_, sqt (s02 _ _ hp)⟩, loop_tup (K := K) (a := p) (xs := xs) (fun i σ H' => Same H H' ∧ H' dd = some (.dK (ftab (grown [] (rs.take i)))) ∧ ∃ v3 v4, σ = [some (.ref a), some (.ref dd), some (.int ((cnt m + tot (rs.take i) : Nat) : Int)), v3, v4]) ⟨s02, s2 _ _ upd_same, none, none, ?h0⟩ (fun i σ H' li s => sqt (s.1 _ _ hp)) ?hs ?hd⟩
  case h0 =>
    show [some (V.ref a), some (V.ref dd), some (V.int (zs.length : Int)), none, none] = _
    rw [lz]
    rfl
  case hs =>
    rintro i x σ H3 hx ⟨s3, h3, v3, v4, rfl⟩
    obtain ⟨t, et, dt⟩ := dats_at dxs hx
    rw [List.getElem?_map] at et
    cases er : rs[i]? with
    | none => rw [er] at et; cases et
    | some r =>
    rw [er] at et
    cases et
    obtain ⟨b1, b2, b3, b4, b5, b6, b7⟩ := pr.row er
    obtain ⟨p3, y, rfl, hp3, dy⟩ := row_in (dt.up (same_stay s3))
    try dsimp only [L2.tRet, L2.tRetN, tAndV, tOrV, tNotV, tCB, L2.tCons, L2.tNil, tC, tVar, L2.tOp, L2.tUn, tSeq, tAsg, gName, tIfS, tTest, tNext, tAnd, tOr, tNot, L2.tIf, tFld, sFld, sFldAug, tCall, tTup, tB, tAug, tDrop, L2.tSl, tPart, tNoPart, tBM, tBM0, tChain, gTup, gCons, gNil, tPar, tIs, List.set, L2.start, iTup, L2.iList, L2.iRng1, tUn, tLst, tTest, gSub, tCall, L2.tIf, tCB, rRep, List.set, List.cons_append, List.nil_append, cxOf]
    refine ⟨p3, _, rfl, sqt hp3, rfl, _, _, rfl, _, _, rfl, rfl, ?_⟩
    try dsimp only [L2.tRet, L2.tRetN, tAndV, tOrV, tNotV, tCB, L2.tCons, L2.tNil, tC, tVar, L2.tOp, L2.tUn, tSeq, tAsg, gName, tIfS, tTest, tNext, tAnd, tOr, tNot, L2.tIf, tFld, sFld, sFldAug, tCall, tTup, tB, tAug, tDrop, L2.tSl, tPart, tNoPart, tBM, tBM0, tChain, gTup, gCons, gNil, tPar, tIs, List.set, L2.start, iTup, L2.iList, L2.iRng1, tUn, tLst, tTest, gSub, tCall, L2.tIf, tCB, rRep, List.set, List.cons_append, List.nil_append, cxOf]
    dsimp only [sDPut]
    try dsimp only [L2.tRet, L2.tRetN, tAndV, tOrV, tNotV, tCB, L2.tCons, L2.tNil, tC, tVar, L2.tOp, L2.tUn, tSeq, tAsg, gName, tIfS, tTest, tNext, tAnd, tOr, tNot, L2.tIf, tFld, sFld, sFldAug, tCall, tTup, tB, tAug, tDrop, L2.tSl, tPart, tNoPart, tBM, tBM0, tChain, gTup, gCons, gNil, tPar, tIs, List.set, L2.start, iTup, L2.iList, L2.iRng1, tUn, tLst, tTest, gSub, tCall, L2.tIf, tCB, rRep, List.set, List.cons_append, List.nil_append, cxOf]
    refine ⟨_, rfl, _, rfl, y, dd, r.2, grown [] (rs.take i), rfl, dy, b5, b3.any, b6, h3, fun H4 s4 => ?_⟩
    refine ⟨_, rfl, _, rfl, dd, _, rfl, DPut.k (k := Sum.inr r.1) (s4 _ _ h3) ?fl, ?_⟩
    case fl =>
      have i20 : i ≤ 20 := by
        have z := (List.getElem?_eq_some_iff.mp er).1
        have := pr.few
        omega
      unfold ftab
      have z0 : ([] : List (Str × Int)).length = 0 := rfl
      rw [List.length_map, grown_len, List.length_take, sizeLine_eq]
      omega
    rw [putK_ftab b2]
    have s5 : Same H (upd H4 dd (.dK (ftab (grown [] (rs.take i) ++ [(r.1, unf (grown [] (rs.take i)) r.2)])))) := Ck.Same.up (s3.trans s4) nd
    have h5 : upd H4 dd (.dK (ftab (grown [] (rs.take i) ++ [(r.1, unf (grown [] (rs.take i)) r.2)]))) dd = some (.dK (ftab (grown [] (rs.take (i + 1))))) := by
      rw [upd_same, List.take_add_one, er, Option.toList_some, grown_snoc]
    have st5 : Stay H4 (upd H4 dd (.dK (ftab (grown [] (rs.take i) ++ [(r.1, unf (grown [] (rs.take i)) r.2)])))) := by
      intro b ys z
      rw [upd_ne (by rintro rfl; rw [s4 _ _ h3] at z; cases z)]
      exact z
    have dy5 := (dy.up (same_stay s4)).up st5
    generalize upd H4 dd (.dK (ftab (grown [] (rs.take i) ++ [(r.1, unf (grown [] (rs.take i)) r.2)]))) = H5 at s5 h5 dy5 ⊢
    try dsimp only [L2.tRet, L2.tRetN, tAndV, tOrV, tNotV, tCB, L2.tCons, L2.tNil, tC, tVar, L2.tOp, L2.tUn, tSeq, tAsg, gName, tIfS, tTest, tNext, tAnd, tOr, tNot, L2.tIf, tFld, sFld, sFldAug, tCall, tTup, tB, tAug, tDrop, L2.tSl, tPart, tNoPart, tBM, tBM0, tChain, gTup, gCons, gNil, tPar, tIs, List.set, L2.start, iTup, L2.iList, L2.iRng1, tUn, tLst, tTest, gSub, tCall, L2.tIf, tCB, rRep, List.set, List.cons_append, List.nil_append, cxOf]
    refine ⟨_, rfl, _, rfl, y, r.2, C, W, _, rfl, dy5, b4, b3, b5, b7, fun D6 H6 nD6 s6 ld6 => ?_⟩
    obtain ⟨z6, e6, d6⟩ := ld6
    have l6 := d6.len
    rw [encs_len, rall_len] at l6
    refine ⟨D6, z6, rfl, .inl (.inl (.inl e6)), _, _, rfl, rfl, s5.trans s6, s6 _ _ h5, some (.str r.1), some y, ?_⟩
    show [some (V.ref a), some (V.ref dd), some (V.int (((cnt m + tot (rs.take i) : Nat) : Int) + (z6.length : Nat))), some (V.str r.1), some y] = _
    rw [l6]
    have e : ((cnt m + tot (rs.take i) : Nat) : Int) + (cnt r.2 : Nat) = ((cnt m + tot (rs.take (i + 1)) : Nat) : Int) := by
      rw [List.take_add_one, er, Option.toList_some, tot_app]
      show _ = ((cnt m + (tot (rs.take i) + (cnt r.2 + 0)) : Nat) : Int)
      omega
    rw [e]
  case hd =>
    rintro σ H3 ⟨s3, h3, v3, v4, rfl⟩
    rw [lx, List.take_length] at h3 ⊢
    try dsimp only [L2.tRet, L2.tRetN, tAndV, tOrV, tNotV, tCB, L2.tCons, L2.tNil, tC, tVar, L2.tOp, L2.tUn, tSeq, tAsg, gName, tIfS, tTest, tNext, tAnd, tOr, tNot, L2.tIf, tFld, sFld, sFldAug, tCall, tTup, tB, tAug, tDrop, L2.tSl, tPart, tNoPart, tBM, tBM0, tChain, gTup, gCons, gNil, tPar, tIs, List.set, L2.start, iTup, L2.iList, L2.iRng1, tUn, tLst, tTest, gSub, tCall, L2.tIf, tCB, rRep, List.set, List.cons_append, List.nil_append, cxOf]
    refine ⟨_, rfl, _, rfl, a, _, _, _, rfl, rfl, sqt (s3 _ _ ha), atI_nat (j := 1) rfl, _, rfl, vm, dd, m, grown [] rs, rfl, dm.up (same_stay s3), m3, m1.any, m4, h3, fun H4 s4 => ⟨sl (Nat.le_of_ble_eq_true rfl), fun p9 n9 => ?_⟩⟩
    refine q p9 _ ((s3.trans s4).trans (same_new n9)) ?_
    rw [upd_same, Nat.add_comm]
end
end Ck

/-! Sets of texts: made of a list, sorted. -/
namespace TXS
open PySem PySem.Spec PyProof.Rows L2
abbrev SetD := Array (Int × Value)
def txt (e : Int × Value) : Str := match e.2 with
  | .str k _ => k
  | _ => Str.empty
section
variable {P : Program} {w : World} {A : Around} {E : Value → Shared → Prop} {s : Shared} {a : Addr}
def IsT (P : Program) (w : World) (e : Int × Value) : Prop := ∃ k tk, e.2 = Value.str k tk ∧ e.1 = (PySem.strKind P w).hash k
/-- a set of texts in full: its entries, its table -/
structure Full (P : Program) (w : World) (h : Heap) (a : Addr) (ms : Str → Bool) (o : Obj) (es : SetD) (ep : Nat) (t : SetTable) : Prop where
  here : h.get? a = some o
  exact : o.ExactSet
  data : o.data = .set es ep t
  good : ∀ e ∈ es.toList, IsT P w e
  apart : (es.toList.map txt).Nodup
  mem : ∀ k, ms k = true ↔ k ∈ es.toList.map txt
  few : es.size < scanBound
  fits : t.fits es.size = true
  ris : Ris t.place.toList
  led : w.params.followText "set-order" = true ∨ t.led = true
def SetT (P : Program) (w : World) (h : Heap) (a : Addr) (ms : Str → Bool) (n : Nat) : Prop := ∃ o es ep t, Full P w h a ms o es ep t ∧ es.size = n
theorem elems {l : List (Int × Value)} (g : ∀ e ∈ l, IsT P w e) : ElemsOf (PySem.strKind P w) l := by
  intro e he
  obtain ⟨k, tk, h1, h2⟩ := g e he
  refine ⟨⟨k, ?_, h2⟩, ?_⟩
  · rw [h1]
    exact strKind_is P w k tk
  · rw [h1]
    rfl
theorem is_iff {e : Int × Value} (g : IsT P w e) (k : Str) : (PySem.strKind P w).is k e.2 = true ↔ txt e = k := by
  obtain ⟨k0, tk, h1, _⟩ := g
  unfold txt
  rw [h1]
  constructor
  · intro z
    have y : Value.isStrOf k (.str k0 tk) = true := z
    obtain ⟨t, e⟩ := Value.isStrOf_shape y
    injection e with e1 e2
  · intro z
    have y : k0 = k := z
    rw [y]
    exact strKind_is P w k tk
theorem mem_iff {l : List (Int × Value)} (g : ∀ e ∈ l, IsT P w e) (k : Str) : k ∈ l.map txt ↔ ∃ e ∈ l, (PySem.strKind P w).is k e.2 = true := by
  constructor
  · intro m
    obtain ⟨e, he, q⟩ := List.mem_map.mp m
    exact ⟨e, he, (is_iff (g e he) k).mpr q⟩
  · intro ⟨e, he, q⟩
    exact List.mem_map.mpr ⟨e, he, (is_iff (g e he) k).mp q⟩
theorem put_at {h : Heap} {o : Obj} {es es' : SetD} {ep : Nat} {t t' : SetTable} (ho : h.get? a = some o) (hd : o.data = .set es ep t) : (h.update a (Obj.putSet es' t')).get? a = some { o with data := .set es' (ep + 1) t' } := by
  have q := Heap.get?_update_self (Obj.putSet es' t') ho (by rw [putSet_of es' t' hd]; rfl)
  rwa [putSet_of es' t' hd] at q
/-- what is done behind a new entry -/
theorem tail {g : Bool → Sem Unit} (hg : ∀ (b : Bool) (s₁ : Shared) (Q' : Unit → Shared → Prop), Q' () s₁ → wpAny (model P w) A (g b) Q' E s₁) {ms : Str → Bool} {o : Obj} {es es1 : SetD} {ep : Nat} {t t2 : SetTable} (ho : s.heap.get? a = some o) (hex : o.ExactSet) (hd : o.data = .set es ep t)
    (g1 : ∀ e ∈ es1.toList, IsT P w e) (nd1 : (es1.toList.map txt).Nodup) (m1 : ∀ k, ms k = true ↔ k ∈ es1.toList.map txt) (b1 : es1.size < scanBound) (f2 : t2.fits es1.size = true) (r2 : Ris t2.place.toList) (l2 : w.params.followText "set-order" = true ∨ t2.led = true) {old : Bool} {R : Option Bool → Shared → Prop}
    (fin : ∀ h', Heap.SameBut a s.heap h' → SetT P w h' a ms es1.size → R (some true) { s with heap := h' }) :
    wpAny (model P w) A (do
      storeSet a es1 t2
      if (!old && t2.tooFull) = true then do
          g (relayAll t2 es1 (SetTable.grown es1.size)).2.2
          storeSet a (relayAll t2 es1 (SetTable.grown es1.size)).1 (relayAll t2 es1 (SetTable.grown es1.size)).2.1
          pure (some true)
        else pure (some true)) R E s := by
  have at1 := put_at (es' := es1) (t' := t2) ho hd
  have same1 := Heap.SameBut.update s.heap a (Obj.putSet es1 t2)
  refine wpAny_bind (wpAny_storeSet_of ho hd ?_ (fits_of_scanBound b1))
  split
  · have perm := relayAll_perm t2 es1 (SetTable.grown es1.size)
    have f3 := relayAll_fits t2 es1 (SetTable.grown es1.size)
    have r3 := relayAll_ris t2 es1 (SetTable.grown es1.size)
    have l3 := relayAll_led t2 es1 (SetTable.grown es1.size)
    generalize relayAll t2 es1 (SetTable.grown es1.size) = Z at perm f3 r3 l3 ⊢
    obtain ⟨es2, t3, gave⟩ := Z
    dsimp only at perm f3 r3 l3 ⊢
    have size2 : es2.size = es1.size := by rw [← Array.length_toList, perm.length_eq, Array.length_toList]
    have b2 : es2.size < scanBound := size2.symm ▸ b1
    refine wpAny_bind (hg _ _ _ (wpAny_bind (wpAny_storeSet_of at1 rfl ?_ (fits_of_scanBound b2))))
    have at2 := put_at (es' := es2) (t' := t3) at1 rfl
    refine wpAny_pure (fin _ (same1.trans (Heap.SameBut.update _ a _)) ⟨_, es2, _, t3, { here := at2, exact := hex, data := rfl, good := fun e m => g1 e (perm.mem_iff.mp m), apart := (perm.map txt).nodup_iff.mpr nd1, mem := fun k => (m1 k).trans (perm.map txt).mem_iff.symm, few := b2, fits := f3, ris := r3, led := l2.imp id fun y => l3 ▸ y }, size2⟩)
  · exact wpAny_pure (fin _ same1 ⟨_, es1, _, t2, { here := at1, exact := hex, data := rfl, good := g1, apart := nd1, mem := m1, few := b1, fits := f2, ris := r2, led := l2 }, rfl⟩)
theorem add_one {ms : Str → Bool} {n : Nat} {k : Str} {tk : Tok} {Q : Bool → Shared → Prop} (T : SetT P w s.heap a ms n) (room : n + 1 < scanBound)
    (fin : ∀ h', Heap.SameBut a s.heap h' → SetT P w h' a (fun j => ms j || decide (j = k)) (if ms k = true then n else n + 1) → Q (!ms k) { s with heap := h' }) :
    wpAny (model P w) A (setAddHashed a (.str k tk) ((PySem.strKind P w).hash k)) Q E s := by
  obtain ⟨o, es, ep, t, ⟨ho, hex, hd, g, nd, hm, hb, hf, hr, hl⟩, hn⟩ := T
  have here : (PySem.strKind P w).is k (.str k tk) = true := strKind_is P w k tk
  have scan : (Value.str k tk).scannable = true := rfl
  have el : ElemsOf (PySem.strKind P w) es.toList := elems g
  unfold setAddHashed setAddHashedIn
  refine wpAny_holding (wpAny_bind (wpAny_setState_of ho hd hf ?_))
  dsimp only
  rw [byScan_of scan hb el]
  simp only [↓reduceIte]
  unfold setAddByScan
  refine wpAny_bind (wpAny_bind (wpAny_rule (wpAny_bind (wpAny_setScan_of here ho hd hf el ?_))))
  cases found : List.findIdx? (fun e => (PySem.strKind P w).is k e.2) es.toList with
  | some j =>
    obtain ⟨hj, pj, _⟩ := List.findIdx?_eq_some_iff_getElem.mp found
    have in1 : ms k = true := (hm k).mpr ((mem_iff (P := P) (w := w) g k).mpr ⟨_, List.getElem_mem hj, pj⟩)
    have q := fin s.heap (Heap.SameBut.refl a s.heap) ⟨o, es, ep, t, ⟨ho, hex, hd, g, nd, fun i => by
      rw [← hm i, Bool.or_eq_true, decide_eq_true_eq]
      exact ⟨fun y => y.elim id fun e => by rw [e]; exact in1, .inl⟩, hb, hf, hr, hl⟩, by rw [if_pos in1]; exact hn⟩
    rw [in1] at q
    exact wpAny_pure (wpAny_pure q)
  | none =>
    have out1 : k ∉ es.toList.map txt := fun y => by
      obtain ⟨e, he, q⟩ := (mem_iff (P := P) (w := w) g k).mp y
      have c := List.findIdx?_eq_none_iff.mp found e he
      rw [q] at c
      cases c
    have in0 : ms k = false := by
      cases q : ms k with
      | false => rfl
      | true => exact absurd ((hm k).mp q) out1
    have perm := layNew_perm t es ((PySem.strKind P w).hash k) (.str k tk)
    have f1 := layNew_fits t es ((PySem.strKind P w).hash k) (.str k tk)
    have r1 := layNew_ris t es ((PySem.strKind P w).hash k) (.str k tk) hr
    have l1 := layNew_led t es ((PySem.strKind P w).hash k) (.str k tk)
    dsimp only
    generalize layNew t es ((PySem.strKind P w).hash k) (.str k tk) = Z at perm f1 r1 l1 ⊢
    obtain ⟨es1, t1, old, gave⟩ := Z
    dsimp only at perm f1 r1 l1 ⊢
    rw [Array.toList_push] at perm
    have pc : es1.toList.Perm (((PySem.strKind P w).hash k, Value.str k tk) :: es.toList) := perm.trans (List.perm_append_singleton _ _)
    have pk : (es1.toList.map txt).Perm (k :: es.toList.map txt) := pc.map txt
    have size1 : es1.size = n + 1 := by rw [← Array.length_toList, pc.length_eq, List.length_cons, Array.length_toList, hn]
    have g1 : ∀ e ∈ es1.toList, IsT P w e := fun e he => by
      rcases List.mem_cons.mp (pc.mem_iff.mp he) with y | y
      · exact y ▸ ⟨k, tk, rfl, rfl⟩
      · exact g e y
    have nd1 := pk.nodup_iff.mpr (List.nodup_cons.mpr ⟨out1, nd⟩)
    have m1 : ∀ i, (ms i || decide (i = k)) = true ↔ i ∈ es1.toList.map txt := fun i => by
      rw [pk.mem_iff, List.mem_cons, ← hm i, Bool.or_eq_true, decide_eq_true_eq]
      exact Or.comm
    have led1 : w.params.followText "set-order" = true ∨ t1.led = true := hl.imp id fun y => l1.symm ▸ y
    have done : ∀ h', Heap.SameBut a s.heap h' → SetT P w h' a (fun j => ms j || decide (j = k)) es1.size → Q true { s with heap := h' } := fun h' sb r => by
      have q := fin h' sb
      rw [in0, if_neg Bool.false_ne_true, ← size1] at q
      exact q r
    have quiet : ∀ (b : Bool) {s₁ : Shared} {Q' : Unit → Shared → Prop}, Q' () s₁ → wpAny (model P w) A (match b with | true => rule "set.scan.the-table-gave-way" | false => pure ()) Q' E s₁ := by
      intro b s₁ Q' q
      cases b
      · exact wpAny_pure q
      · exact wpAny_rule q
    refine wpAny_bind (quiet _ ?_)
    split
    · refine wpAny_bind ?_
      rw [hashByValue_scannable 8 scan]
      refine wpAny_pure (tail (fun b s₁ Q' q => by cases b <;> first | exact wpAny_pure q | exact wpAny_rule q) ho hex hd g1 nd1 m1 (by omega) ?_ ?_ ?_ fun h' sb r => by dsimp only; exact wpAny_pure (done h' sb r))
      · first | (split <;> first | exact f1 | exact SetTable.fits_plain_off f1) | exact f1
      · first | (split <;> exact r1) | exact r1
      · first | (split <;> exact led1) | exact led1
    · refine wpAny_bind (wpAny_pure ?_)
      simp only [↓reduceIte]
      exact tail (fun b s₁ Q' q => by cases b <;> first | exact wpAny_pure q | exact wpAny_rule q) ho hex hd g1 nd1 m1 (by omega) f1 r1 led1 fun h' sb r => by dsimp only; exact wpAny_pure (done h' sb r)
end
end TXS

namespace TXS
open PySem PySem.Spec PyProof.Rows L2
def among (xs : List Str) (k : Str) : Bool := xs.any (· == k)
theorem among_iff {xs : List Str} {k : Str} : among xs k = true ↔ k ∈ xs := by
  unfold among
  rw [List.any_eq_true]
  constructor
  · rintro ⟨x, m, e⟩
    rw [← eq_of_beq e]
    exact m
  · intro m
    exact ⟨k, m, beq_self_eq_true k⟩
section
variable {prog : Program} {w : World} {A : Around} {R : Result → Shared → Prop} {I : Addr} {fp wr : List Addr} {Gr : Array GenState → Array GenState → Prop} {n : Nat} {Pv : Nat → Value → Prop} {St : Nat → Shared → Prop}
theorem SetT.at {h h' : Heap} {a : Addr} {ms : Str → Bool} {k : Nat} (T : SetT prog w h a ms k) (keep : ∀ o, h.get? a = some o → h'.get? a = some o) : SetT prog w h' a ms k := by
  obtain ⟨o, es, ep, t, F, e⟩ := T
  exact ⟨o, es, ep, t, { F with here := keep o F.here }, e⟩
theorem SetT.same {h : Heap} {a : Addr} {ms ms' : Str → Bool} {k : Nat} (T : SetT prog w h a ms k) (e : ∀ x, ms' x = ms x) : SetT prog w h a ms' k := (funext e : ms' = ms) ▸ T
/-- all of the list goes into the set -/
theorem loop (Wk : WalksS prog w A.in1 I fp wr Gr n Pv St) (S : Addr) (free : S ∉ fp) (xs : List Str) (len : xs.length = n) (low : n ≤ 4000) (vals : ∀ i v, Pv i v → ∃ t, v = .str (xs.getD i Str.empty) t) :
    ∀ (k i c : Nat) (s : Shared), n - i = k → i ≤ n → c ≤ i → St i s → SetT prog w s.heap S (among (xs.take i)) c →
      (∀ s' c', Moved (S :: wr) Gr s s' → SetT prog w s'.heap S (among xs) c' → R (.ok (.ret .none)) s') →
      codeAny (model prog w) A (.builtin "set.update.loop" ⟨[.ref S, .ref I], []⟩) R s
  | 0, i, c, s, hk, hi, hc, st, T, fin => by
    obtain rfl : i = n := by omega
    have apart : S ∉ wr := fun m => free (Wk.sub _ m)
    refine codeAny_builtin PyProof.Rows.F.entry_set_update_loop ?_
    rw [Around.under_plainId PyProof.Rows.F.plain_set_update_loop _]
    show wpAny _ A.in1 (pyNext (.ref I) >>= _) _ _ s
    refine wpAny_bind (Wk.done s _ _ st fun s' mv => ?_)
    show wpAny _ A.in1 (ret Value.none) _ _ s'
    refine wpAny_pure (fin s' c ⟨fun b o hb e => mv.heap b o (fun z => hb (List.mem_cons_of_mem _ z)) e, mv.gens, mv.drawn, mv.os, mv.toks⟩ ?_)
    have z := T.at fun o e => mv.heap S o apart e
    rwa [← len, List.take_length] at z
  | k + 1, i, c, s, hk, hi, hc, st, T, fin => by
    have lt : i < n := by omega
    have apart : S ∉ wr := fun m => free (Wk.sub _ m)
    refine codeAny_builtin PyProof.Rows.F.entry_set_update_loop ?_
    rw [Around.under_plainId PyProof.Rows.F.plain_set_update_loop _]
    show wpAny _ A.in1 (pyNext (.ref I) >>= _) _ _ s
    refine wpAny_bind (Wk.item i s _ _ lt st fun v s' pv st2 mv => ?_)
    obtain ⟨t, rfl⟩ := vals i v pv
    have T2 := T.at fun o e => mv.heap S o apart e
    show wpAny _ A.in1 (holding [Value.str (xs.getD i Str.empty) t] (setAdd S (.str (xs.getD i Str.empty) t)) >>= _) _ _ s'
    unfold setAdd
    refine wpAny_bind (wpAny_holding (wpAny_holding (wpAny_bind ((PySem.strKind prog w).pyHash (k := xs.getD i Str.empty) (strKind_is _ _ _ _) ?_))))
    refine add_one (s := { s' with toks := s'.toks + 1 }) T2 (by unfold scanBound; omega) fun h' sb T3 => ?_
    have get : xs[i]? = some (xs.getD i Str.empty) := by
      rw [List.getD_eq_getElem?_getD]
      rw [List.getElem?_eq_getElem (by omega)]
      rfl
    have T4 : SetT prog w h' S (among (xs.take (i + 1))) (if among (xs.take i) (xs.getD i Str.empty) = true then c else c + 1) := T3.same fun x => by
      rw [List.take_add_one, get]
      unfold among
      rw [List.any_append]
      congr 1
      show (xs.getD i Str.empty == x || false) = decide (x = xs.getD i Str.empty)
      rw [Bool.or_false]
      by_cases e : x = xs.getD i Str.empty
      · rw [e]
        simp
      · rw [decide_eq_false e]
        exact beq_eq_false_iff_ne.mpr (Ne.symm e)
    have c4 : (if among (xs.take i) (xs.getD i Str.empty) = true then c else c + 1) ≤ i + 1 := by split <;> omega
    refine wpAny_pure ⟨plainId_quiet PyProof.Rows.F.plain_set_update_loop _, loop Wk S free xs len low vals k (i + 1) _ _ (by omega) lt c4 (Wk.frame _ s' _ _ st2 (Nat.le_succ _) fun b hb o e => ?_) T4 fun s2 c2 mv2 T5 => fin s2 c2 (Moved.trans Wk.gtrans ?_ mv2) T5⟩
    · exact (sb.2 b fun z : b = S => free (z ▸ hb)).trans e
    · exact ⟨fun b o hb e => (sb.2 b fun z : b = S => hb (z ▸ List.mem_cons_self)).trans (mv.heap b o (fun z => hb (List.mem_cons_of_mem _ z)) e), mv.gens, mv.drawn, mv.os, Nat.le_succ_of_le mv.toks⟩
end
section
variable {prog : Program} {w : World} {A : Around} {E : Value → Shared → Prop} {s : Shared}
/-- an empty set, as set(..) makes it -/
def bare (w : World) : Obj := { cls := .type "set", dict := none, data := .set #[] 0 (.fresh 0 0 (!w.params.followText "set-order")) }
theorem new_led (v : Value) {Q1 : Value → Shared → Prop} (fin : Q1 (.ref s.heap.objs.size) { s with heap := s.heap.push (bare w) }) : codeAny (model prog w) A (.call (.builtin "set.__new__") ⟨[.type "set", v], []⟩) (wants Q1 E) s := by
  refine codeAny_of_tree (?_ : wpAny _ A.in1 (do checkBuiltinCall "set.__new__" ⟨[.type "set", v], []⟩; again (.builtin "set.__new__" ⟨[.type "set", v], []⟩)) _ _ s)
  refine wpAny_bind (wpAny_of_eq (PySem.F.newCall_set_1 v) (wpAny_pure ⟨plainId_quiet PySem.F.plain_set_new _, codeAny_builtin PySem.F.entry_set_new ?_⟩))
  rw [Around.under_plainId PySem.F.plain_set_new _]
  unfold Builtin.«set.__new__» Builtin.Frozenset.newClass
  have own := sub_set_self
  obtain ⟨hp, g, d, tk, os⟩ := s
  dsimp only
  wp_walk
  refine wpAny_askSetting (wpAny_pure ?_)
  simp only [newObj]
  exact wpAny_bind (wpAny_alloc (wpAny_pure (wpAny_pure fin)))
theorem bare_set {h : Heap} : SetT prog w (h.push (bare w)) h.objs.size (among []) 0 := by
  refine ⟨_, #[], 0, _, { here := Heap.get?_push_size _ rfl, exact := ⟨rfl, rfl, rfl⟩, data := rfl, good := fun e m => by simp at m, apart := by simp, mem := fun k => by simp [among], few := by decide, fits := by rfl, ris := List.Pairwise.nil, led := ?_ }, rfl⟩
  show _ ∨ (!w.params.followText "set-order") = true
  cases w.params.followText "set-order"
  · exact .inr rfl
  · exact .inl rfl
end
end TXS

set_option maxHeartbeats 8000000
namespace TXS
open PySem PySem.Spec PyProof.Rows L2
section
variable {prog : Program} {w : World} {A : Around} {E : Value → Shared → Prop} {s : Shared}
/-- set(a list of texts) -/
theorem call_set {l : Addr} {its : Array Value} {xs : List Str} {Q : Value → Shared → Prop} (calm : A.handled = none) (hl : s.heap.IsList l its) (hi : PyProof.Rows.StrsAre its.toList xs) (low : xs.length ≤ 4000)
    (fin : ∀ (h' : Heap) (tk c : Nat), SetT prog w h' s.heap.objs.size (among xs) c → (∀ b o, b < s.heap.objs.size → s.heap.get? b = some o → h'.get? b = some o) → s.heap.objs.size ≤ h'.objs.size → Q (.ref s.heap.objs.size) { s with heap := h', toks := tk }) :
    wpAny (model prog w) A (call (.type "set") [.ref l]) Q E s := by
  obtain ⟨c0, tl, mro⟩ := PySem.F.called_set.mro
  have made := PySem.F.called_set.made
  have sub := PySem.F.called_set.sub
  refine wpAny_call (codeAny_of_tree (?_ : wpAny _ _ (callAny (.type "set") _) _ _ _))
  refine wpAny_pure ⟨Code.quiet_builtin _ (by decide +kernel), codeAny_builtin PySem.F.entry_type_call ?_⟩
  rw [Around.under_plain (weight_type_call_type "set" [.ref l] []) rfl]
  have nt := PySem.F.called_set.notType
  have cc := PySem.F.called_set.canCreate
  have tc := PySem.F.typeCall_set_1 (.ref l)
  repeat (any_goals (first | assumption | wp_step))
  refine codeAny_mono (new_led (.ref l) (E := E) (Q1 := fun obj s₁ => obj = .ref s.heap.objs.size ∧ s₁ = { s with heap := s.heap.push (bare w) }) ⟨rfl, rfl⟩) fun r s₁ hr => ?_
  cases r with
  | error e => exact hr
  | ok fl =>
    cases fl with
    | ret obj =>
      obtain ⟨rfl, rfl⟩ := hr
      have hS : (s.heap.push (bare w)).get? s.heap.objs.size = some (bare w) := Heap.get?_push_size _ rfl
      have hT : Shared.TypeIs { s with heap := s.heap.push (bare w) } (.ref s.heap.objs.size) "set" := ⟨_, hS, rfl⟩
      have il := PySem.F.called_set.init.lookup
      have ib := PySem.F.called_set.init.bind (.ref s.heap.objs.size)
      repeat (any_goals (first | assumption | wp_step))
      refine codeAny_mono (codeAny_call_builtin (R := wants (fun r s₂ => r = .none ∧ ∃ h' tk c, s₂ = { s with heap := h', toks := tk } ∧ SetT prog w h' s.heap.objs.size (among xs) c ∧ (∀ b o, b < s.heap.objs.size → s.heap.get? b = some o → h'.get? b = some o) ∧ s.heap.objs.size ≤ h'.objs.size) E) PySem.F.called_set.init.plain PySem.F.entry_set_init (check_set_init_1 hT ?_)) fun r₂ s₂ hr₂ => ?_
      · obtain ⟨ol, hol, hcl, nl, hdl⟩ := hl
        obtain ⟨ocls, odict, odata, oslots⟩ := ol
        simp only at hcl hdl
        subst hcl hdl
        have hol2 : (s.heap.push (bare w)).get? l = some { cls := .type "list", dict := odict, data := .seq its nl, slots := oslots } := Heap.get?_push_of_some _ hol
        have n1 := PySem.F.sub_list_set
        have n2 := PySem.F.sub_list_frozenset
        have n3 : (Value.type "list" == Value.type "dict") = false := by decide
        have hl1 : (s.heap.push (bare w)).IsList l its := ⟨_, hol2, rfl, nl, rfl⟩
        unfold Builtin.«set.__init__» noKeywords Builtin.Frozenset.updateFrom
        generalize hPI : pyIter = PI
        wp_walk
        subst hPI
        refine wpAny_pyIter_list hl1 (wpAny_bind (wpAny_runValue ?_))
        have lS : l < s.heap.objs.size := Heap.lt_size hol
        have calm3 : A.in1.in1.in1.handled = none := by simp [calm]
        have big : (s.heap.push (bare w)).objs.size = s.heap.objs.size + 1 := Heap.size_push _ _
        have neI : l ≠ (s.heap.push (bare w)).objs.size := by rw [big]; exact Nat.ne_of_lt (Nat.lt_succ_of_lt lS)
        have freeS : s.heap.objs.size ∉ [(s.heap.push (bare w)).objs.size, l] := by
          rw [big]
          intro m
          rcases List.mem_cons.mp m with e | m
          · exact absurd e (Nat.ne_of_lt (Nat.lt_succ_self _))
          · exact absurd (List.mem_singleton.mp m) (Nat.ne_of_gt lS)
        have len : xs.length = its.size := by rw [← StrsAre.len_eq hi, Array.length_toList]
        have vals : ∀ (i : Nat) (v : Value), its[i]? = some v → ∃ t, v = .str (xs.getD i Str.empty) t := fun i v hv => SS.strs_at hi i v (by rw [Array.getElem?_toList]; exact hv)
        refine loop ((Walks.list calm3 _ l neI its).toS) s.heap.objs.size freeS xs len (by omega) vals (its.size - 0) 0 0 _ (by omega) (Nat.zero_le _) (Nat.le_refl _) ⟨⟨_, Heap.get?_push_size _ rfl, rfl, rfl⟩, (hl1.push _)⟩ ?start ?stop
        case start =>
          have z : SetT prog w (s.heap.push (bare w)) s.heap.objs.size (among []) 0 := bare_set
          exact z.at fun o e => Heap.get?_push_of_some _ e
        case stop =>
          intro s' c mv T
          obtain ⟨h', g', d', tk', os'⟩ := s'
          obtain rfl : g' = s.gens := mv.gens
          obtain rfl : d' = s.drawn := mv.drawn
          obtain rfl : os' = s.os := mv.os
          have kept : ∀ b o, b < s.heap.objs.size → s.heap.get? b = some o → h'.get? b = some o := fun b o hb e => by
            refine mv.heap b o (fun m => ?_) (Heap.get?_push_of_some _ (Heap.get?_push_of_some _ e))
            rcases List.mem_cons.mp m with z | m
            · exact absurd z (Nat.ne_of_lt hb)
            · have z := List.mem_singleton.mp m
              rw [big] at z
              exact absurd z (Nat.ne_of_lt (Nat.lt_succ_of_lt hb))
          have grew : s.heap.objs.size ≤ h'.objs.size := by
            obtain ⟨o, es, ep, t, F, _⟩ := T
            exact Nat.le_of_lt (Heap.lt_size F.here)
          show wpAny _ _ _ _ _ _
          refine wpAny_pure ?_
          show wpAny _ _ (ret Value.none) _ _ _
          exact wpAny_pure ⟨rfl, h', tk', c, rfl, T, kept, grew⟩
      · cases r₂ with
        | error e => exact hr₂
        | ok fl₂ =>
          cases fl₂ with
          | ret r =>
            obtain ⟨rfl, h', tk, c, rfl, T, kept, grew⟩ := hr₂
            repeat (any_goals (first | assumption | wp_step))
            exact fin _ _ c T kept grew
          | _ => exact hr₂.elim
    | _ => exact hr.elim
end
end TXS

set_option maxHeartbeats 8000000
namespace TXS
open PySem PySem.Spec PyProof.Rows L2
def txtV : Value → Str
  | .str k _ => k
  | _ => Str.empty
theorem strs_all : ∀ l : List Value, (∀ v ∈ l, ∃ k tk, v = Value.str k tk) → PyProof.Rows.StrsAre l (l.map txtV)
  | [], _ => .nil
  | v :: l, h => by
    obtain ⟨k, tk, rfl⟩ := h v List.mem_cons_self
    exact .cons k tk (strs_all l fun u m => h u (List.mem_cons_of_mem _ m))
section
variable {P : Program} {w : World} {A : Around} {E : Value → Shared → Prop} {s : Shared} {a : Addr}
theorem sorted_set {ms : Str → Bool} {n : Nat} {Q : Value → Shared → Prop} (T : SetT P w s.heap a ms n) (calm : A.handled = none) (h64 : n < 64)
    (fin : ∀ s' p (out : List Value) (c : Nat) (ys : List Str), (∀ b o, s.heap.get? b = some o → s'.heap.get? b = some o) → s'.gens = s.gens → s'.os = s.os → s.heap.objs.size ≤ p → s'.heap.get? p = some (seqObj "list" out.toArray c) → PyProof.Rows.StrsAre out ys → sortedS ys = true → ys.Nodup → (∀ k, k ∈ ys ↔ ms k = true) → Q (.ref p) s') :
    wpAny (model P w) A (call (.builtin "sorted") [.ref a]) Q E s := by
  obtain ⟨o, es, ep, t, F, hn⟩ := T
  refine Calls.call_function_entry PyProof.Rows.kind_sorted PyProof.Rows.plain_sorted PyProof.Rows.entry_sorted (PyProof.Rows.args_sorted1 _) ?_
  unfold Builtin.«sorted»
  refine wpAny_bind (m := checkCount "sorted" 1 1 _) (wpAny_pure (wpAny_bind (collect_set (A := A.in1) calm ⟨o, F.here, F.exact.1, F.data⟩ F.fits F.few F.ris F.led fun s1 vs k1 big g1 o1 perm => ?_)))
  have len : vs.length = n := by rw [perm.length_eq, List.length_map, Array.length_toList]; exact hn
  have texts : PyProof.Rows.StrsAre vs (vs.map txtV) := strs_all vs fun v hv => by
    obtain ⟨e, he, q⟩ := List.mem_map.mp (perm.mem_iff.mp hv)
    obtain ⟨k, tk, h1, _⟩ := F.good e he
    exact ⟨k, tk, q.symm.trans h1⟩
  have pk : (vs.map txtV).Perm (es.toList.map txt) := by
    have q := perm.map txtV
    rw [List.map_map] at q
    have e : (txtV ∘ fun x : Int × Value => x.2) = txt := by
      funext x
      obtain ⟨i, v⟩ := x
      cases v <;> rfl
    rw [← e]
    exact q
  refine wpAny_bind (wpAny_newList ?_ (by rw [len, sizeLine_eq]; omega))
  have mine : (s1.heap.push (seqObj "list" vs.toArray 0)).get? s1.heap.objs.size = some (seqObj "list" vs.toArray 0) := Heap.get?_push_size _ rfl
  refine wpAny_bind (wpAny_holding (wpAny_call_entry PyProof.Rows.slot_list_sort ⟨_, mine, rfl⟩ PyProof.Rows.entry_list_sort (list_sort_treeK strKind_oneLt (s := { s1 with heap := s1.heap.push (seqObj "list" vs.toArray 0) }) mine texts.keysOf (fun v₁ v₂ rest e => keyKind_strs (by rw [← e]; exact texts)) (by rw [len]; exact h64) fun st' hp hs => ⟨_, rfl, ?_⟩) (PyProof.Rows.args_list_sort _)))
  obtain ⟨ys, y1, y2, y3⟩ := sorted_out_str texts hp hs
  obtain ⟨c, hc⟩ := PyProof.Rows.sortedHeap_at (vs := vs) (out := (arrOf st').map (·.2)) mine
  have pn : ys.Perm (es.toList.map txt) := y2.trans pk
  refine wpAny_pure ⟨_, rfl, fin _ s1.heap.objs.size _ c ys (fun b u e => ?_) g1 o1 big (by rw [Array.toArray_toList]; exact hc) y1 y3 (pn.nodup_iff.mpr F.apart) fun k => by rw [pn.mem_iff, F.mem k]⟩
  have q := k1 b u e
  have lt := Heap.lt_size q
  show (sortedHeap (s1.heap.push (seqObj "list" vs.toArray 0)) s1.heap.objs.size vs _).get? b = some u
  rw [PyProof.Rows.sortedHeap_old (Nat.ne_of_lt lt) (by rw [size_push']; exact Nat.lt_succ_of_lt lt)]
  exact Heap.get?_push_of_some _ q
end
/-- sorted(set(xs)), texts -/
def tSS (K : PySem.W.Frag) (ta : TE) : TE := fun σ H Q => ta σ H fun x H1 => ∃ l, ∃ xs ds : List Str, x = .ref l ∧ SqL K H1 l (xs.map V.str) ∧ xs.length ≤ 4000 ∧ ds.length < 64 ∧ (∀ z ∈ xs, z ∈ ds) ∧ ∀ ys p, sortedS ys = true → ys.Nodup → (∀ z, z ∈ ys ↔ z ∈ xs) → H1 p = none → Q (.ref p) (upd H1 p (.lst (ys.map V.str)))
theorem pe_sortedSet {X : Cx} {a : Expr} {ta : TE} {p p2 q pos : Pos} (hc : X.calm = true) (hg : Gl X "sorted") (hm : X.mg "sorted" = none) (hg2 : Gl X "set") (hm2 : X.mg "set" = none) (ha : PE X a ta)
    (na : starEach [a] X.env = (false, eval a X.env) :: starEach [] X.env := by rfl) : PE X (.Call (.Name "sorted" p) [.Call (.Name "set" p2) [a] [] q] [] pos) (tSS X.K ta) := by
  refine ⟨fun pins s σ H Q I h => ?_⟩
  refine Call_ (ld_blt I hg hm (show bootBuiltins "sorted" = some (.builtin "sorted") by decide +kernel) (PyProof.Rows.callWith_builtin1 (PyProof.Rows.args_cons ?_ rfl) rfl rfl))
  refine Call_ (ld_blt I hg2 hm2 boot_set (PyProof.Rows.callWith_type1 (PyProof.Rows.args_cons (thn (ha.run pins s σ H _ I h) fun v s1 ⟨x, H1, I1, r1, q1⟩ => PyProof.Rows.args_nil ?_) na) na rfl))
  obtain ⟨l, xs, ds, rfl, hq, low, few, sub, fin⟩ := q1
  cases r1
  obtain ⟨its, r, pl, hz⟩ := I1.list hq
  refine call_set (I1.ok.hd hc) pl.isList (by simpa using L2.strsAre_of r) low fun h' tk c T kept grew => PyProof.Rows.args_nil ?_
  have I2 : Inv X pins σ H1 { s1 with heap := h', toks := tk } := I1.kept fun b o e => kept b o (Heap.lt_size e) e
  have c64 : c < 64 := by
    obtain ⟨o, es, ep, t, F, hn⟩ := T
    have z := Ck.nd_len (W := ds) F.apart fun z m => sub z (among_iff.mp ((F.mem z).mpr m))
    rw [List.length_map, Array.length_toList] at z
    omega
  refine sorted_set T (I2.ok.hd hc) c64 fun s' pn out c2 ys keep g o big at' tx9 srt nd mem => ?_
  have yl : ys.length ≤ ds.length := Ck.nd_len nd fun z m => sub z (among_iff.mp ((mem z).mp m))
  have hlen : (ys.map V.str).length ≤ sizeLine := by rw [List.length_map, sizeLine_eq]; omega
  have none1 : H1 pn = none := I2.hok.fresh big
  have J : Inv X pins σ (upd H1 pn (.lst (ys.map V.str))) { ({ s1 with heap := h', toks := tk } : Shared) with heap := s'.heap, gens := s'.gens, drawn := s'.drawn, toks := s'.toks } :=
    I2.call (ch := []) (Un.laid keep big none1) (I2.hok.laid keep big ⟨hlen, out, c2, vals_of_strs tx9, at'⟩) (by rw [g]; exact I2.bare) (fun _ z => nomatch z)
  have e : s' = { s1 with heap := s'.heap, gens := s'.gens, drawn := s'.drawn, toks := s'.toks } := by
    obtain ⟨b1, b2, b3, b4, b5⟩ := s'
    obtain rfl : b5 = s1.os := o
    rfl
  rw [e]
  exact ⟨.ref pn, _, J, rfl, fin ys pn srt nd (fun z => (mem z).trans among_iff) none1⟩
end TXS

/-! Two sorted lists of the same texts are one. -/
namespace Ck
open PySem PySem.Spec PyProof.Rows L2
/-- not behind -/
def Low (a b : Str) : Prop := ltCps b.cps.toList a.cps.toList = false
theorem low_iff {a b : Str} : Low a b ↔ ¬ b.cps.toList < a.cps.toList := by
  unfold Low
  rw [ltCps_eq]
  exact decide_eq_false_iff_not
theorem Low.trans {a b c : Str} (h : Low a b) (g : Low b c) : Low a c := by
  rw [low_iff] at h g ⊢
  exact List.le_trans (List.not_lt.mp h) (List.not_lt.mp g)
theorem Low.same {a b : Str} (h : Low a b) (g : Low b a) : a = b := by
  rw [low_iff] at h g
  have e := List.le_antisymm (List.not_lt.mp h) (List.not_lt.mp g)
  obtain ⟨x⟩ := a
  obtain ⟨y⟩ := b
  exact congrArg Str.mk (Array.toList_inj.mp e)
theorem rising_all : ∀ (r : List Str) (p : Str), risingS p r = true → (∀ x ∈ r, Low p x) ∧ r.Pairwise Low
  | [], p, _ => ⟨fun x m => (by cases m), .nil⟩
  | x :: r, p, h => by
    have h2 : (!ltCps x.cps.toList p.cps.toList && risingS x r) = true := h
    rw [Bool.and_eq_true] at h2
    obtain ⟨a, b⟩ := rising_all r x h2.2
    have px : Low p x := by
      unfold Low
      have := h2.1
      cases e : ltCps x.cps.toList p.cps.toList with
      | false => rfl
      | true => rw [e] at this; cases this
    refine ⟨fun y m => ?_, List.pairwise_cons.mpr ⟨a, b⟩⟩
    rcases List.mem_cons.mp m with rfl | m
    · exact px
    · exact px.trans (a y m)
theorem sorted_all {l : List Str} (h : sortedS l = true) : l.Pairwise Low := by
  cases l with
  | nil => exact .nil
  | cons x r =>
    obtain ⟨a, b⟩ := rising_all r x h
    exact List.pairwise_cons.mpr ⟨a, b⟩
theorem one_sorted : ∀ {l k : List Str}, l.Pairwise Low → k.Pairwise Low → l.Nodup → k.Nodup → (∀ z, z ∈ l ↔ z ∈ k) → l = k
  | [], [], _, _, _, _, _ => rfl
  | [], y :: k, _, _, _, _, m => by
    have z := (m y).mpr List.mem_cons_self
    cases z
  | x :: l, [], _, _, _, _, m => by
    have z := (m x).mp List.mem_cons_self
    cases z
  | x :: l, y :: k, pl, pk, dl, dk, m => by
    obtain ⟨a1, a2⟩ := List.pairwise_cons.mp pl
    obtain ⟨b1, b2⟩ := List.pairwise_cons.mp pk
    obtain ⟨c1, c2⟩ := List.nodup_cons.mp dl
    obtain ⟨d1, d2⟩ := List.nodup_cons.mp dk
    have e : x = y := by
      rcases List.mem_cons.mp ((m x).mp List.mem_cons_self) with e | e
      · exact e
      rcases List.mem_cons.mp ((m y).mpr List.mem_cons_self) with g | g
      · exact g.symm
      exact (a1 y g).same (b1 x e)
    subst e
    have m2 : ∀ z, z ∈ l ↔ z ∈ k := fun z => by
      constructor
      · intro h
        rcases List.mem_cons.mp ((m z).mp (List.mem_cons_of_mem _ h)) with g | g
        · exact absurd (g ▸ h) c1
        · exact g
      · intro h
        rcases List.mem_cons.mp ((m z).mpr (List.mem_cons_of_mem _ h)) with g | g
        · exact absurd (g ▸ h) d1
        · exact g
    rw [one_sorted a2 b2 c2 d2 m2]
structure SortOf (ys xs : List Str) : Prop where
  s : sortedS ys = true
  d : ys.Nodup
  m : ∀ z, z ∈ ys ↔ z ∈ xs
theorem SortOf.one {ys zs xs us : List Str} (a : SortOf ys xs) (b : SortOf zs us) (h : ∀ z, z ∈ xs ↔ z ∈ us) : ys = zs :=
  one_sorted (sorted_all a.s) (sorted_all b.s) a.d b.d fun z => (a.m z).trans ((h z).trans (b.m z).symm)
end Ck

/-! Names, as the law finds them. -/
namespace Ck
open PySem PySem.Spec PyProof.Rows L2
def runOf : Tr → Option Str
  | .mk _ w pre _ _ => if w = "run" then (match pre with | .str c :: _ => some c | _ => none) else none
def varOf : Tr → Option Str
  | .mk _ w pre _ _ => if w = "give" ∨ w = "zero" ∨ w = "keep" ∨ w = "put" then (match pre with | .str c :: _ => some c | _ => none) else none
theorem runOf_own (b : Bool) (w : Str) (pre : List T) (ks : List Tr) (post : List T) : (runOf (.mk b w pre ks post)).toList = ownC w pre := by
  show (if w = "run" then (match pre with | .str c :: _ => some c | _ => none) else none : Option Str).toList = (if w = "run" then (match pre with | .str c :: _ => [c] | _ => []) else [])
  split
  · split <;> rfl
  · rfl
theorem varOf_own (b : Bool) (w : Str) (pre : List T) (ks : List Tr) (post : List T) : (varOf (.mk b w pre ks post)).toList = ownV w pre := by
  show (if w = "give" ∨ w = "zero" ∨ w = "keep" ∨ w = "put" then (match pre with | .str c :: _ => some c | _ => none) else none : Option Str).toList = (if w = "give" ∨ w = "zero" ∨ w = "keep" ∨ w = "put" then (match pre with | .str c :: _ => [c] | _ => []) else [])
  split
  · split <;> rfl
  · rfl
theorem fm_cons {f : Tr → Option Str} (t : Tr) (ks : List Tr) : (t :: ks).filterMap f = (f t).toList ++ ks.filterMap f := by
  rw [List.filterMap_cons]
  cases f t <;> rfl
mutual
theorem run_all (z : Str) : ∀ t : Tr, z ∈ (rall t).filterMap runOf ↔ z ∈ cms t
  | .mk b w pre ks post => by
    show z ∈ (.mk b w pre ks post :: rallR ks).filterMap runOf ↔ z ∈ ownC w pre ++ cmss ks
    rw [fm_cons, runOf_own, List.mem_append, List.mem_append, run_alls z ks]
theorem run_alls (z : Str) : ∀ ks : List Tr, z ∈ (rallR ks).filterMap runOf ↔ z ∈ cmss ks
  | [] => Iff.rfl
  | k :: ks => by
    show z ∈ (rallR ks ++ rall k).filterMap runOf ↔ z ∈ cms k ++ cmss ks
    rw [List.filterMap_append, List.mem_append, List.mem_append, run_alls z ks, run_all z k]
    exact Or.comm
end
mutual
theorem var_all (z : Str) : ∀ t : Tr, z ∈ (rall t).filterMap varOf ↔ z ∈ vrs t
  | .mk b w pre ks post => by
    show z ∈ (.mk b w pre ks post :: rallR ks).filterMap varOf ↔ z ∈ ownV w pre ++ vrss ks
    rw [fm_cons, varOf_own, List.mem_append, List.mem_append, var_alls z ks]
theorem var_alls (z : Str) : ∀ ks : List Tr, z ∈ (rallR ks).filterMap varOf ↔ z ∈ vrss ks
  | [] => Iff.rfl
  | k :: ks => by
    show z ∈ (rallR ks ++ rall k).filterMap varOf ↔ z ∈ vrs k ++ vrss ks
    rw [List.filterMap_append, List.mem_append, List.mem_append, var_alls z ks, var_all z k]
    exact Or.comm
end
/-- what stands in a node -/
def Node (C W : List Str) (t : Tr) : Prop := ∃ b w pre ks post, t = .mk b w pre ks post ∧ (b = true → pre = [] ∧ post = []) ∧ (w = "run" → b = false ∧ ∃ c, pre = [.str c] ∧ c ∈ C) ∧ ((w = "give" ∨ w = "zero" ∨ w = "keep" ∨ w = "put") → b = false ∧ ∃ v r, pre = .str v :: r ∧ v ∈ W)
theorem Nm.node {C W known : List Str} {t : Tr} (h : Nm C W known t) : Node C W t := by
  obtain ⟨N, M, i, l, o⟩ := h
  have no : ∀ {P : Prop}, (false = true) → P := fun e => by cases e
  cases o with
  | run m => exact ⟨_, _, _, _, _, rfl, no, fun _ => ⟨rfl, _, rfl, m⟩, fun e => absurd e (by decide)⟩
  | status _ _ => exact ⟨_, _, _, _, _, rfl, no, fun e => absurd e (by decide), fun e => absurd e (by decide)⟩
  | @var i l w v e m => exact ⟨_, _, _, _, _, rfl, no, fun e2 => by rcases e with rfl | rfl | rfl <;> exact absurd e2 (by decide), fun _ => ⟨rfl, _, _, rfl, m⟩⟩
  | put m _ _ => exact ⟨_, _, _, _, _, rfl, no, fun e => absurd e (by decide), fun _ => ⟨rfl, _, _, rfl, m⟩⟩
  | option _ => exact ⟨_, _, _, _, _, rfl, no, fun e => absurd e (by decide), fun e => absurd e (by decide)⟩
  | jump e _ _ => rcases e with rfl | rfl <;> exact ⟨_, _, _, _, _, rfl, no, fun e => absurd e (by decide), fun e => absurd e (by decide)⟩
  | ret0 => exact ⟨_, _, _, _, _, rfl, no, fun e => absurd e (by decide), fun e => absurd e (by decide)⟩
  | ret _ _ => exact ⟨_, _, _, _, _, rfl, no, fun e => absurd e (by decide), fun e => absurd e (by decide)⟩
  | exit0 => exact ⟨_, _, _, _, _, rfl, no, fun e => absurd e (by decide), fun e => absurd e (by decide)⟩
  | exit _ _ => exact ⟨_, _, _, _, _, rfl, no, fun e => absurd e (by decide), fun e => absurd e (by decide)⟩
  | call m => exact ⟨_, _, _, _, _, rfl, no, fun e => absurd e (by decide), fun e => absurd e (by decide)⟩
  | seq _ ks => exact ⟨_, _, _, _, _, rfl, fun _ => ⟨rfl, rfl⟩, fun e => absurd e (by decide), fun e => absurd e (by decide)⟩
  | pipe _ ks => exact ⟨_, _, _, _, _, rfl, fun _ => ⟨rfl, rfl⟩, fun e => absurd e (by decide), fun e => absurd e (by decide)⟩
  | andor e a b => rcases e with rfl | rfl <;> exact ⟨_, _, _, _, _, rfl, no, fun e => absurd e (by decide), fun e => absurd e (by decide)⟩
  | not a => exact ⟨_, _, _, _, _, rfl, no, fun e => absurd e (by decide), fun e => absurd e (by decide)⟩
  | ife c a b => exact ⟨_, _, _, _, _, rfl, no, fun e => absurd e (by decide), fun e => absurd e (by decide)⟩
  | if1 c a => exact ⟨_, _, _, _, _, rfl, no, fun e => absurd e (by decide), fun e => absurd e (by decide)⟩
  | whl e a b => rcases e with rfl | rfl <;> exact ⟨_, _, _, _, _, rfl, no, fun e => absurd e (by decide), fun e => absurd e (by decide)⟩
  | times _ _ a => exact ⟨_, _, _, _, _, rfl, no, fun e => absurd e (by decide), fun e => absurd e (by decide)⟩
  | trap0 _ => exact ⟨_, _, _, _, _, rfl, no, fun e => absurd e (by decide), fun e => absurd e (by decide)⟩
  | trap _ a => exact ⟨_, _, _, _, _, rfl, no, fun e => absurd e (by decide), fun e => absurd e (by decide)⟩
  | sub a => exact ⟨_, _, _, _, _, rfl, no, fun e => absurd e (by decide), fun e => absurd e (by decide)⟩
mutual
theorem rall_node {C W known : List Str} : ∀ (t : Tr), Nm C W known t → ∀ k ∈ rall t, Node C W k
  | .mk b w pre ks post, h => by
    intro k m
    rcases List.mem_cons.mp (show k ∈ .mk b w pre ks post :: rallR ks from m) with rfl | m
    · exact h.node
    · exact rallR_node ks h.kids k m
theorem rallR_node {C W known : List Str} : ∀ (ks : List Tr), (∀ k ∈ ks, Nm C W known k) → ∀ k ∈ rallR ks, Node C W k
  | [], _, k, m => by cases m
  | a :: ks, h, k, m => by
    rcases List.mem_append.mp (show k ∈ rallR ks ++ rall a from m) with m | m
    · exact rallR_node ks (fun x y => h x (List.mem_cons_of_mem _ y)) k m
    · exact rall_node a (h a List.mem_cons_self) k m
end
section
variable {X : Cx} {P : Program} {w : World} {K : PySem.W.Frag} {mg : Str → Option Value} {base : Heap} {H H1 H2 : Hp} {l : Addr} {dR dS : Addr} {adr : Kind → Addr} {C W : List Str}
theorem cmr_app : ∀ (a b : Rows), cmr (a ++ b) = cmr a ++ cmr b
  | [], b => rfl
  | r :: a, b => by
    show cms r.2 ++ cmr (a ++ b) = cms r.2 ++ cmr a ++ cmr b
    rw [cmr_app a b, List.append_assoc]
theorem vrr_app : ∀ (a b : Rows), vrr (a ++ b) = vrr a ++ vrr b
  | [], b => rfl
  | r :: a, b => by
    show vrs r.2 ++ vrr (a ++ b) = vrs r.2 ++ vrr a ++ vrr b
    rw [vrr_app a b, List.append_assoc]
theorem node_in {k : Tr} {x : V} (h : Node C W k) (d : Dat K H x (enc k)) : ∃ a w xs, x = .ref a ∧ H a = some (.tup (.str w :: xs)) ∧ (w = "run" → ∃ c r, xs = .str c :: r ∧ runOf k = some c) ∧ (w ≠ "run" → runOf k = none) ∧
    ((w = "give" ∨ w = "zero" ∨ w = "keep" ∨ w = "put") → ∃ c r, xs = .str c :: r ∧ varOf k = some c) ∧ (¬ (w = "give" ∨ w = "zero" ∨ w = "keep" ∨ w = "put") → varOf k = none) := by
  obtain ⟨b, w, pre, ks, post, rfl, hb, n1, n2⟩ := h
  obtain ⟨a, xs, rfl, ha, hT, hF⟩ := enc_in hb d
  refine ⟨a, w, xs, rfl, ha, fun e => ?_, fun e => if_neg e, fun e => ?_, fun e => if_neg e⟩
  · obtain ⟨rfl, c, rfl, _⟩ := n1 e
    obtain ⟨y, us, rfl, dy, _⟩ := dats_cons (hF rfl)
    cases dat_str dy
    exact ⟨c, us, rfl, if_pos e⟩
  · obtain ⟨rfl, c, r, rfl, _⟩ := n2 e
    obtain ⟨y, us, rfl, dy, _⟩ := dats_cons (hF rfl)
    cases dat_str dy
    exact ⟨c, us, rfl, if_pos e⟩
theorem node_c {Ts : List Tr} {z : Str} (nd : ∀ k ∈ Ts, Node C W k) (m : z ∈ Ts.filterMap runOf) : z ∈ C := by
  obtain ⟨k, mk, e⟩ := List.mem_filterMap.mp m
  obtain ⟨b, w, pre, ks, post, rfl, hb, n1, n2⟩ := nd k mk
  by_cases c : w = "run"
  · obtain ⟨rfl, y, rfl, my⟩ := n1 c
    have e2 : runOf (.mk false w [.str y] ks post) = some y := if_pos c
    rw [e2] at e
    cases e
    exact my
  · have e2 : runOf (.mk b w pre ks post) = none := if_neg c
    rw [e2] at e
    cases e
theorem node_v {Ts : List Tr} {z : Str} (nd : ∀ k ∈ Ts, Node C W k) (m : z ∈ Ts.filterMap varOf) : z ∈ W := by
  obtain ⟨k, mk, e⟩ := List.mem_filterMap.mp m
  obtain ⟨b, w, pre, ks, post, rfl, hb, n1, n2⟩ := nd k mk
  by_cases c : w = "give" ∨ w = "zero" ∨ w = "keep" ∨ w = "put"
  · obtain ⟨rfl, y, r, rfl, my⟩ := n2 c
    have e2 : varOf (.mk false w (.str y :: r) ks post) = some y := if_pos c
    rw [e2] at e
    cases e
    exact my
  · have e2 : varOf (.mk b w pre ks post) = none := if_neg c
    rw [e2] at e
    cases e
theorem in_four {p : Addr} {z a b c d : Str} {Q : VK} (hp : H p = some (.tup [.str a, .str b, .str c, .str d])) (q : Q (.bl (decide (z = a ∨ z = b ∨ z = c ∨ z = d))) H) : L2.rIn K false (.str z) (.ref p) H Q := by
  refine ⟨p, _, rfl, .inr (sqt hp), rfl, rfl, ?_⟩
  have e : inV (.str z) [.str a, .str b, .str c, .str d] = decide (z = a ∨ z = b ∨ z = c ∨ z = d) := by
    unfold inV
    show (eqV (.str a) (.str z) || (eqV (.str b) (.str z) || (eqV (.str c) (.str z) || (eqV (.str d) (.str z) || false)))) = _
    rw [eqV_str, eqV_str, eqV_str, eqV_str, Bool.or_false]
    by_cases c1 : z = a
    · simp [c1]
    · by_cases c2 : z = b
      · simp [c2]
      · by_cases c3 : z = c
        · simp [c3]
        · simp [c1, c2, c3]
  show Q (.bl (inV (.str z) [.str a, .str b, .str c, .str d])) H
  rw [e]
  exact q
def LS (H : Hp) (a : Addr) (ys : List Str) : Prop := H a = some (.lst (ys.map V.str))
theorem lc_sel {p : Addr} {xs : List V} {Ts : List Tr} {sel : Tr → Option Str} {s0 s1 s2 s3 s4 s5 : Option V} {tt : TT} {te : TE} {Q : VK} (htt : ∀ k ∈ Ts, ∀ x H2 (R : Bool → Hp → Prop), Dat K H2 x (enc k) → (∀ H3, Same H2 H3 → R (sel k).isSome H3) → tt [s0, s1, s2, s3, s4, s5, some x] H2 R)
    (hte : ∀ k ∈ Ts, ∀ z x H2 (R : VK), sel k = some z → Dat K H2 x (enc k) → R (.str z) H2 → te [s0, s1, s2, s3, s4, s5, some x] H2 R) (dx : Dats K H xs (encs Ts)) (hx : H p = some (.lst xs)) (few : Ts.length ≤ 10000)
    (q : ∀ D H', H D = none → Same H H' → LS H' D (Ts.filterMap sel) → Q (.ref D) H') : tLcL (gName 6) tt te [6] [s0, s1, s2, s3, s4, s5, none] Q (Itl K p) H := by
  have lx := dx.len
  rw [encs_len] at lx
  refine lcl_list (K := K) (a := p) (xs := xs) (fun D i H' => Same H H' ∧ LS H' D ((Ts.take i).filterMap sel)) (fun D nD => ⟨same_new nD, upd_same⟩) (fun D nD i H' li s => .inl (.inl (s.1 _ _ hx))) ?hs ?hd
  case hs =>
    rintro D nD i x H2 hxi ⟨s9, l9⟩
    obtain ⟨t, et, dt⟩ := dats_at dx hxi
    obtain ⟨k, ek, rfl⟩ := encs_at et
    have mk : k ∈ Ts := List.mem_of_getElem? ek
    have d2 := dt.up (same_stay s9)
    have tk : (Ts.take (i + 1)).filterMap sel = (Ts.take i).filterMap sel ++ (sel k).toList := by
      rw [List.take_add_one, ek, List.filterMap_append]
      congr 1
    refine ⟨rfl, htt k mk x H2 _ d2 fun H3 s10 => ?_⟩
    have l10 : LS H3 D ((Ts.take i).filterMap sel) := s10 _ _ l9
    cases ez : sel k with
    | none =>
      refine if_neg Bool.false_ne_true ▸ ?_
      rw [ez] at tk
      refine ⟨s9.trans s10, ?_⟩
      rw [tk, Option.toList_none, List.append_nil]
      exact l10
    | some z =>
      refine if_pos rfl ▸ ?_
      refine hte k mk z x H3 _ ez (d2.up (same_stay s10)) ⟨_, l10, ?_, Ck.Same.up (s9.trans s10) nD, ?_⟩
      · have l11 : ((Ts.take i).filterMap sel).length ≤ (Ts.take i).length := List.length_filterMap_le _ _
        rw [List.length_take] at l11
        rw [List.length_map]
        exact Nat.lt_of_lt_of_le (show _ < 20000 by omega) (sl (by decide))
      · rw [ez] at tk
        rw [tk]
        show upd H3 D _ D = _
        rw [upd_same, List.map_append]
        rfl
  case hd =>
    rintro D nD H2 ⟨s9, l9⟩
    rw [lx, List.take_length] at l9
    exact q D H2 nD s9 l9
abbrev sNames : Stmt := topS 67
abbrev NNa : List Str := ["_law_plan_here", "_law_trees", "_law_name", "_law_body", "_law_commands", "_law_kept", "_law_tree_here"]
theorem scNa : FnScope NNa ["_law_plan_here"] (defScope sNames) := ⟨rfl, rfl, rfl, by decide +kernel, rfl, by decide +kernel, by decide +kernel⟩
def spNames (K : PySem.W.Frag) : Sp := fun vs H Q _ => ∃ v rs m, vs = [v] ∧ Dat K H v (encP rs m) ∧ IsProg rs m ∧ ∀ p a b ys zs H', H p = none → H a = none → H b = none → Same H H' → H' p = some (.tup [.ref a, .ref b]) → a ≠ b → LS H' a ys → LS H' b zs → SortOf ys (cmr rs ++ cms m) → SortOf zs (vrr rs ++ vrs m) → Q (.ref p) H'
def tRun (K : PySem.W.Frag) : TT := tTest (tOp rEq (tOp (rIxT K) (tVar 6) (tC (.int 0))) (tC (.str "run")))
def tVarW (K : PySem.W.Frag) : TT := tTest (tOp (L2.rIn K false) (tOp (rIxT K) (tVar 6) (tC (.int 0))) (tTup (tCons (tC (.str "give")) (tCons (tC (.str "zero")) (tCons (tC (.str "keep")) (tCons (tC (.str "put")) tNil))))))
def tSnd (K : PySem.W.Frag) : TE := tOp (rIxT K) (tVar 6) (tC (.int 1))
theorem ok_names {f : Addr} {fd : FuncData} (F : Fun K "_law_names" "_law_names" sNames f fd) (M : Mg mg) (GA : GAl P w K mg base) : FnOk P w K mg base CX0 3 f fd ["_law_plan_here"] (spNames K) := by
  refine F.ok scNa (fun vs H Q E h => ?_) (fun cdv A outer s H vs Q E hr hh => ?_)
  · obtain ⟨_, _, _, rfl, _⟩ := h
    rfl
  obtain ⟨v, rs, m, rfl, d, ⟨C, W, N, Mx, pr⟩, q⟩ := hh
  refine ⟨_, (pss_cons (ps_set (i := 1) scNa.nd rfl (.inl rfl) (pe_go (E := fun _ _ _ => False) GA hr pass0 rfl (pa_cons (pe_ix ix_tup (pv 0) pe_int fun _ _ => rfl) pa_nil))) (pss_cons (ps_for PassesOwn.never rfl (pi_tup (pe_ix ix_tup (pv 0) pe_int fun _ _ => rfl)) (pg_tup rfl (L2.pgs_cons (pg_name (i := 2) scNa.nd rfl (.inl rfl)) (L2.pgs_cons (pg_name (i := 3) scNa.nd rfl (.inl rfl)) L2.pgs_nil)))
      (pss_one (ps_set (i := 1) scNa.nd rfl (.inl rfl) (pe_op op_cat (pv 1) (pe_go (E := fun _ _ _ => False) GA hr pass0 rfl (pa_cons (pv 3) pa_nil)))))) (pss_cons (ps_setLc (i := 4) (te := tSnd K) (own := [("_law_tree_here", 6)]) (g := gName 6) (tt := tRun K) rfl scNa.nd rfl rfl (sw_true rfl rfl rfl (by decide +kernel)) (pi_list (pv 1)) (blkOk_by (N := NNa) (sc := defScope sNames) (by decide +kernel)) (fun _ _ _ _ _ => pg_name (i := 6) scNa.nd rfl (.inl rfl)) (fun _ _ _ _ _ => pts_one (pt_cmpR op_eq (pe_ix ix_tup (pv 6) pe_int fun _ _ => rfl) pe_str rfl)) (fun _ _ _ _ _ => pe_ix ix_tup (pv 6) pe_int fun _ _ => rfl)) (pss_cons (ps_setLc (i := 5) (te := tSnd K) (own := [("_law_tree_here", 6)]) (g := gName 6) (tt := tVarW K) rfl scNa.nd rfl rfl (sw_true rfl rfl rfl (by decide +kernel)) (pi_list (pv 1)) (blkOk_by (N := NNa) (sc := defScope sNames) (by decide +kernel)) (fun _ _ _ _ _ => pg_name (i := 6) scNa.nd rfl (.inl rfl)) (fun _ _ _ _ _ => pts_one (pt_cmpR op_in_seq (pe_ix ix_tup (pv 6) pe_int fun _ _ => rfl) (pe_tup (pa_cons pe_str (pa_cons pe_str (pa_cons pe_str (pa_cons pe_str pa_nil))))) rfl)) (fun _ _ _ _ _ => pe_ix ix_tup (pv 6) pe_int fun _ _ => rfl)) (pss_one (ps_ret (pe_tup (pa_cons (TXS.pe_sortedSet rfl rfl M.so rfl M.se (pv 4)) (pa_cons (TXS.pe_sortedSet rfl rfl M.so rfl M.se (pv 5)) pa_nil))))))))), ?_⟩
  try dsimp only [L2.tRet, L2.tRetN, tAndV, tOrV, tNotV, tCB, L2.tCons, L2.tNil, tC, tVar, L2.tOp, L2.tUn, tSeq, tAsg, gName, tIfS, tTest, tNext, tAnd, tOr, tNot, L2.tIf, tFld, sFld, sFldAug, tCall, tTup, tB, tAug, tDrop, L2.tSl, tPart, tNoPart, tBM, tBM0, tChain, gTup, gCons, gNil, tPar, tIs, List.set, L2.start, iTup, L2.iList, L2.iRng1, tUn, tLst, tTest, gSub, tCall, L2.tIf, tCB, rRep, List.set, List.cons_append, List.nil_append, cxOf]
  obtain ⟨m1, m2, m3, m4, m5⟩ := pr.main
  obtain ⟨a, p, vm, xs, rfl, ha, hp, dxs, dm⟩ := plan_in d
  have lx : xs.length = rs.length := by rw [dxs.len, List.length_map]
  refine ⟨_, rfl, a, _, _, _, rfl, rfl, sqt ha, atI_nat (j := 1) rfl, vm, m, C, W, _, rfl, dm, m2, m1, m3, m5, fun D H2 nD s2 ld => ?_⟩
  refine loop_in ?_
  try dsimp only [L2.tRet, L2.tRetN, tAndV, tOrV, tNotV, tCB, L2.tCons, L2.tNil, tC, tVar, L2.tOp, L2.tUn, tSeq, tAsg, gName, tIfS, tTest, tNext, tAnd, tOr, tNot, L2.tIf, tFld, sFld, sFldAug, tCall, tTup, tB, tAug, tDrop, L2.tSl, tPart, tNoPart, tBM, tBM0, tChain, gTup, gCons, gNil, tPar, tIs, List.set, L2.start, iTup, L2.iList, L2.iRng1, tUn, tLst, tTest, gSub, tCall, L2.tIf, tCB, rRep, List.set, List.cons_append, List.nil_append, cxOf]
  refine ⟨_, rfl, a, _, _, _, rfl, rfl, sqt (s2 _ _ ha), atI_nat (j := 0) rfl, p, rfl, ⟨_, sqt (s2 _ _ hp)⟩, loop_tup (K := K) (a := p) (xs := xs) (fun i σ H' => Same H H' ∧ ∃ tl Ts v2 v3, σ = [some (.ref a), some (.ref tl), v2, v3, none, none, none] ∧ LD K H' tl (encs Ts) ∧ (∀ k ∈ Ts, Node C W k) ∧ (∀ z, z ∈ Ts.filterMap runOf ↔ z ∈ cms m ++ cmr (rs.take i)) ∧ (∀ z, z ∈ Ts.filterMap varOf ↔ z ∈ vrs m ++ vrr (rs.take i)) ∧ Ts.length = cnt m + tot (rs.take i)) ⟨s2, D, rall m, none, none, rfl, ld, rall_node m m1, fun z => ?h1, fun z => ?h2, rall_len m⟩ (fun i σ H' li s => sqt (s.1 _ _ hp)) ?hs ?hd⟩
  case h1 =>
    rw [run_all z m]
    show _ ↔ z ∈ cms m ++ []
    rw [List.append_nil]
  case h2 =>
    rw [var_all z m]
    show _ ↔ z ∈ vrs m ++ []
    rw [List.append_nil]
  case hs =>
    rintro i x σ H3 hx ⟨s3, tl, Ts, v2, v3, rfl, lt, nd, r1, r2, ln⟩
    obtain ⟨t, et, dt⟩ := dats_at dxs hx
    rw [List.getElem?_map] at et
    cases er : rs[i]? with
    | none => rw [er] at et; cases et
    | some r =>
    rw [er] at et
    cases et
    obtain ⟨b1, b2, b3, b4, b5, b6, b7⟩ := pr.row er
    obtain ⟨p3, y, rfl, hp3, dy⟩ := row_in (dt.up (same_stay s3))
    try dsimp only [L2.tRet, L2.tRetN, tAndV, tOrV, tNotV, tCB, L2.tCons, L2.tNil, tC, tVar, L2.tOp, L2.tUn, tSeq, tAsg, gName, tIfS, tTest, tNext, tAnd, tOr, tNot, L2.tIf, tFld, sFld, sFldAug, tCall, tTup, tB, tAug, tDrop, L2.tSl, tPart, tNoPart, tBM, tBM0, tChain, gTup, gCons, gNil, tPar, tIs, List.set, L2.start, iTup, L2.iList, L2.iRng1, tUn, tLst, tTest, gSub, tCall, L2.tIf, tCB, rRep, List.set, List.cons_append, List.nil_append, cxOf]
    refine ⟨p3, _, rfl, sqt hp3, rfl, _, _, rfl, _, _, rfl, rfl, ?_⟩
    try dsimp only [L2.tRet, L2.tRetN, tAndV, tOrV, tNotV, tCB, L2.tCons, L2.tNil, tC, tVar, L2.tOp, L2.tUn, tSeq, tAsg, gName, tIfS, tTest, tNext, tAnd, tOr, tNot, L2.tIf, tFld, sFld, sFldAug, tCall, tTup, tB, tAug, tDrop, L2.tSl, tPart, tNoPart, tBM, tBM0, tChain, gTup, gCons, gNil, tPar, tIs, List.set, L2.start, iTup, L2.iList, L2.iRng1, tUn, tLst, tTest, gSub, tCall, L2.tIf, tCB, rRep, List.set, List.cons_append, List.nil_append, cxOf]
    refine ⟨_, rfl, _, rfl, y, r.2, C, W, _, rfl, dy, b4, b3, b5, b7, fun D6 H6 nD6 s6 ld6 => ?_⟩
    obtain ⟨z1, e1, d1⟩ := lt.up s6
    obtain ⟨z2, e2, d2⟩ := ld6
    have l1 := d1.len
    have l2 := d2.len
    rw [encs_len] at l1 l2
    rw [rall_len] at l2
    have tt := pr.tr
    have tk : tot (rs.take i) ≤ tot rs := by
      have z := tot_app (rs.take i) (rs.drop i)
      rw [List.take_append_drop] at z
      omega
    have tk1 : rs.take (i + 1) = rs.take i ++ [r] := by rw [List.take_add_one, er, Option.toList_some]
    refine ⟨tl, D6, z1, z2, rfl, rfl, e1, e2, sl (by omega), fun p7 n7 => ⟨(s3.trans s6).trans (same_new n7), p7, Ts ++ rall r.2, some (.str r.1), some y, rfl, ⟨z1 ++ z2, upd_same, ?_⟩, fun k mk => ?_, fun z => ?_, fun z => ?_, ?_⟩⟩
    · rw [encs_app]
      exact (d1.app d2).up (same_stay (same_new n7))
    · exact (List.mem_append.mp mk).elim (nd k) (rall_node r.2 b3 k)
    · rw [List.filterMap_append, List.mem_append, r1 z, run_all z r.2, tk1, cmr_app, List.mem_append, List.mem_append, List.mem_append]
      show _ ↔ z ∈ cms m ∨ z ∈ cmr (rs.take i) ∨ z ∈ cms r.2 ++ []
      rw [List.append_nil, or_assoc]
    · rw [List.filterMap_append, List.mem_append, r2 z, var_all z r.2, tk1, vrr_app, List.mem_append, List.mem_append, List.mem_append]
      show _ ↔ z ∈ vrs m ∨ z ∈ vrr (rs.take i) ∨ z ∈ vrs r.2 ++ []
      rw [List.append_nil, or_assoc]
    · rw [List.length_append, ln, rall_len, tk1, tot_app]
      show _ = cnt m + (tot (rs.take i) + (cnt r.2 + 0))
      omega
  case hd =>
    rintro σ H3 ⟨s3, tl, Ts, v2, v3, rfl, lt, nd, r1, r2, ln⟩
    rw [lx, List.take_length] at r1 r2 ln
    have tt := pr.tr
    obtain ⟨zs, ez, dz⟩ := lt
    have lz := dz.len
    rw [encs_len] at lz
    try dsimp only [L2.tRet, L2.tRetN, tAndV, tOrV, tNotV, tCB, L2.tCons, L2.tNil, tC, tVar, L2.tOp, L2.tUn, tSeq, tAsg, gName, tIfS, tTest, tNext, tAnd, tOr, tNot, L2.tIf, tFld, sFld, sFldAug, tCall, tTup, tB, tAug, tDrop, L2.tSl, tPart, tNoPart, tBM, tBM0, tChain, gTup, gCons, gNil, tPar, tIs, List.set, L2.start, iTup, L2.iList, L2.iRng1, tUn, tLst, tTest, gSub, tCall, L2.tIf, tCB, rRep, List.set, List.cons_append, List.nil_append, cxOf]
    refine lc_in ?_
    try dsimp only [L2.tRet, L2.tRetN, tAndV, tOrV, tNotV, tCB, L2.tCons, L2.tNil, tC, tVar, L2.tOp, L2.tUn, tSeq, tAsg, gName, tIfS, tTest, tNext, tAnd, tOr, tNot, L2.tIf, tFld, sFld, sFldAug, tCall, tTup, tB, tAug, tDrop, L2.tSl, tPart, tNoPart, tBM, tBM0, tChain, gTup, gCons, gNil, tPar, tIs, List.set, L2.start, iTup, L2.iList, L2.iRng1, tUn, tLst, tTest, gSub, tCall, L2.tIf, tCB, rRep, List.set, List.cons_append, List.nil_append, cxOf]
    refine ⟨_, rfl, tl, rfl, ⟨_, .inl (.inl ez)⟩, lc_sel (sel := runOf) (fun k mk x H4 R dk q4 => ?t1) (fun k mk z x H4 R ek dk q4 => ?e1) dz ez (by omega) fun D4 H4 n4 s4 ls4 => ?_⟩
    case t1 =>
      obtain ⟨pa, w, xw, rfl, hw, n1, n2, _⟩ := node_in (nd k mk) dk
      unfold tRun
      try dsimp only [L2.tRet, L2.tRetN, tAndV, tOrV, tNotV, tCB, L2.tCons, L2.tNil, tC, tVar, L2.tOp, L2.tUn, tSeq, tAsg, gName, tIfS, tTest, tNext, tAnd, tOr, tNot, L2.tIf, tFld, sFld, sFldAug, tCall, tTup, tB, tAug, tDrop, L2.tSl, tPart, tNoPart, tBM, tBM0, tChain, gTup, gCons, gNil, tPar, tIs, List.set, L2.start, iTup, L2.iList, L2.iRng1, tUn, tLst, tTest, gSub, tCall, L2.tIf, tCB, rRep, List.set, List.cons_append, List.nil_append, cxOf]
      refine ⟨_, rfl, pa, _, _, _, rfl, rfl, sqt hw, atI_nat (j := 0) rfl, rfl, _, rfl, ?_⟩
      have e : decide (V.str w = V.str "run") = (runOf k).isSome := by
        by_cases c : w = "run"
        · obtain ⟨z, r, _, ez2⟩ := n1 c
          rw [c, ez2]
          rfl
        · rw [n2 c]
          exact decide_eq_false fun e => c (V.str.inj e)
      rw [e]
      exact q4 H4 same_id
    case e1 =>
      obtain ⟨pa, w, xw, rfl, hw, n1, n2, _⟩ := node_in (nd k mk) dk
      by_cases c : w = "run"
      · obtain ⟨z2, r, rfl, ez2⟩ := n1 c
        rw [ek] at ez2
        cases ez2
        exact ⟨_, rfl, pa, _, _, _, rfl, rfl, sqt hw, atI_nat (j := 1) rfl, q4⟩
      · rw [n2 c] at ek
        cases ek
    have dz4 := dz.up (same_stay s4)
    have ez4 := s4 _ _ ez
    try dsimp only [L2.tRet, L2.tRetN, tAndV, tOrV, tNotV, tCB, L2.tCons, L2.tNil, tC, tVar, L2.tOp, L2.tUn, tSeq, tAsg, gName, tIfS, tTest, tNext, tAnd, tOr, tNot, L2.tIf, tFld, sFld, sFldAug, tCall, tTup, tB, tAug, tDrop, L2.tSl, tPart, tNoPart, tBM, tBM0, tChain, gTup, gCons, gNil, tPar, tIs, List.set, L2.start, iTup, L2.iList, L2.iRng1, tUn, tLst, tTest, gSub, tCall, L2.tIf, tCB, rRep, List.set, List.cons_append, List.nil_append, cxOf]
    refine lc_in ?_
    try dsimp only [L2.tRet, L2.tRetN, tAndV, tOrV, tNotV, tCB, L2.tCons, L2.tNil, tC, tVar, L2.tOp, L2.tUn, tSeq, tAsg, gName, tIfS, tTest, tNext, tAnd, tOr, tNot, L2.tIf, tFld, sFld, sFldAug, tCall, tTup, tB, tAug, tDrop, L2.tSl, tPart, tNoPart, tBM, tBM0, tChain, gTup, gCons, gNil, tPar, tIs, List.set, L2.start, iTup, L2.iList, L2.iRng1, tUn, tLst, tTest, gSub, tCall, L2.tIf, tCB, rRep, List.set, List.cons_append, List.nil_append, cxOf]
    refine ⟨_, rfl, tl, rfl, ⟨_, .inl (.inl ez4)⟩, lc_sel (sel := varOf) (fun k mk x H5 R dk q5 => ?t2) (fun k mk z x H5 R ek dk q5 => ?e2) dz4 ez4 (by omega) fun D5 H5 n5 s5 ls5 => ?_⟩
    case t2 =>
      obtain ⟨pa, w, xw, rfl, hw, _, _, n1, n2⟩ := node_in (nd k mk) dk
      unfold tVarW
      try dsimp only [L2.tRet, L2.tRetN, tAndV, tOrV, tNotV, tCB, L2.tCons, L2.tNil, tC, tVar, L2.tOp, L2.tUn, tSeq, tAsg, gName, tIfS, tTest, tNext, tAnd, tOr, tNot, L2.tIf, tFld, sFld, sFldAug, tCall, tTup, tB, tAug, tDrop, L2.tSl, tPart, tNoPart, tBM, tBM0, tChain, gTup, gCons, gNil, tPar, tIs, List.set, L2.start, iTup, L2.iList, L2.iRng1, tUn, tLst, tTest, gSub, tCall, L2.tIf, tCB, rRep, List.set, List.cons_append, List.nil_append, cxOf]
      refine ⟨_, rfl, pa, _, _, _, rfl, rfl, sqt hw, atI_nat (j := 0) rfl, (sl (Nat.le_of_ble_eq_true rfl)), fun p9 n9 => in_four upd_same ⟨_, rfl, ?_⟩⟩
      have e : decide (w = "give" ∨ w = "zero" ∨ w = "keep" ∨ w = "put") = (varOf k).isSome := by
        by_cases c : w = "give" ∨ w = "zero" ∨ w = "keep" ∨ w = "put"
        · obtain ⟨z, r, _, ez2⟩ := n1 c
          rw [decide_eq_true c, ez2]
          rfl
        · rw [n2 c]
          exact decide_eq_false c
      rw [e]
      exact q5 _ (same_new n9)
    case e2 =>
      obtain ⟨pa, w, xw, rfl, hw, _, _, n1, n2⟩ := node_in (nd k mk) dk
      by_cases c : w = "give" ∨ w = "zero" ∨ w = "keep" ∨ w = "put"
      · obtain ⟨z2, r, rfl, ez2⟩ := n1 c
        rw [ek] at ez2
        cases ez2
        exact ⟨_, rfl, pa, _, _, _, rfl, rfl, sqt hw, atI_nat (j := 1) rfl, q5⟩
      · rw [n2 c] at ek
        cases ek
    have s35 := (s3.trans s4).trans s5
    try dsimp only [L2.tRet, L2.tRetN, tAndV, tOrV, tNotV, tCB, L2.tCons, L2.tNil, tC, tVar, L2.tOp, L2.tUn, tSeq, tAsg, gName, tIfS, tTest, tNext, tAnd, tOr, tNot, L2.tIf, tFld, sFld, sFldAug, tCall, tTup, tB, tAug, tDrop, L2.tSl, tPart, tNoPart, tBM, tBM0, tChain, gTup, gCons, gNil, tPar, tIs, List.set, L2.start, iTup, L2.iList, L2.iRng1, tUn, tLst, tTest, gSub, tCall, L2.tIf, tCB, rRep, List.set, List.cons_append, List.nil_append, cxOf]
    dsimp only [TXS.tSS]
    try dsimp only [L2.tRet, L2.tRetN, tAndV, tOrV, tNotV, tCB, L2.tCons, L2.tNil, tC, tVar, L2.tOp, L2.tUn, tSeq, tAsg, gName, tIfS, tTest, tNext, tAnd, tOr, tNot, L2.tIf, tFld, sFld, sFldAug, tCall, tTup, tB, tAug, tDrop, L2.tSl, tPart, tNoPart, tBM, tBM0, tChain, gTup, gCons, gNil, tPar, tIs, List.set, L2.start, iTup, L2.iList, L2.iRng1, tUn, tLst, tTest, gSub, tCall, L2.tIf, tCB, rRep, List.set, List.cons_append, List.nil_append, cxOf]
    have f1 : (Ts.filterMap runOf).length ≤ Ts.length := List.length_filterMap_le _ _
    have f2 : (Ts.filterMap varOf).length ≤ Ts.length := List.length_filterMap_le _ _
    refine ⟨_, rfl, D4, _, C, rfl, .inl (.inl (s5 _ _ ls4)), by omega, by have := pr.fc; omega, fun z mz => node_c nd mz, fun ys p6 srt6 nd6 mem6 n6 => ?_⟩
    have s6 := same_new (o := .lst (ys.map V.str)) n6
    refine ⟨_, rfl, D5, _, W, rfl, .inl (.inl (s6 _ _ ls5)), by omega, by have := pr.fv; omega, fun z mz => node_v nd mz, fun zs2 p7 srt7 nd7 mem7 n7 => ⟨(sl (Nat.le_of_ble_eq_true rfl)), fun p8 n8 => ?_⟩⟩
    have s7 := same_new (o := .lst (zs2.map V.str)) n7
    have s8 := same_new (o := .tup [V.ref p6, V.ref p7]) n8
    have h6 : (upd (upd (upd H5 p6 (.lst (ys.map V.str))) p7 (.lst (zs2.map V.str))) p8 (.tup [V.ref p6, V.ref p7])) p6 = some (.lst (ys.map V.str)) := s8 _ _ (s7 _ _ upd_same)
    have h7 : (upd (upd (upd H5 p6 (.lst (ys.map V.str))) p7 (.lst (zs2.map V.str))) p8 (.tup [V.ref p6, V.ref p7])) p7 = some (.lst (zs2.map V.str)) := s8 _ _ upd_same
    refine q p8 p6 p7 ys zs2 _ (Ck.Same.non ((s35.trans s6).trans s7) n8) (Ck.Same.non s35 n6) (Ck.Same.non (s35.trans s6) n7) (((s35.trans s6).trans s7).trans s8) upd_same (ne_of_none upd_same n7) h6 h7 ⟨srt6, nd6, fun z => ?_⟩ ⟨srt7, nd7, fun z => ?_⟩
    · rw [mem6 z, r1 z, List.mem_append, List.mem_append]
      exact Or.comm
    · rw [mem7 z, r2 z, List.mem_append, List.mem_append]
      exact Or.comm
end
end Ck

/-! The program's own sizes and names, and the law's reading of both. -/
namespace Ck
open PySem PySem.Spec PyProof.Rows L2
section
variable {X : Cx} {CX : CXT} {k : Nat} {f : Addr} {fd : FuncData} {ps ks : List Str} {sp : Sp} {E : XK} {x : Str} {p pos : Pos} {kws : List Keyword} {tk : TA} {g : List Value → List Value → List Value} {gV : List V → List V → List V}
/-- f(k = v) -/
theorem pe_callK0 (F : FnOk X.prog X.w X.K X.mg X.base CX k f fd ps sp) (hr : Room k X.A) (hg : Gl X x) (hm : X.mg x = some (.ref f)) (hk : PySem.W.keepIn X.K (.ref f) = true) (hb : KBinds X.K fd ps ks g gV) (hx : Passes CX X E) (hkw : PK X kws tk)
    (hall : (backToKw pos (keywordEach kws X.env)).all (·.1.isSome) = true := by rfl) (hks : (backToKw pos (keywordEach kws X.env)).filterMap (·.1) = ks := by rfl) (hdb : (x == ("__debug__" : Str)) = false := by decide)
    (hpl : ((backTo pos (starEach [] X.env)).any (·.1) || (backToKw pos (keywordEach kws X.env)).any (·.1.isNone)) = false := by rfl) :
    PE X (.Call (.Name x p) [] kws pos) (tCallK sp gV E L2.tNil tk) := by
  refine ⟨fun pins s σ H Q I h => ?_⟩
  refine wpAny_Call_Name_kw (ld_glob I hg hm ?_ hdb)
  refine PySem.W.callWith_KW0 (h₀ := X.base) I.ok.mod.kin hk hall (thn (hkw.run pos pins s σ H _ I h) fun ws s2 ⟨zs, H2, I2, rz, q2⟩ => ?_) hpl
  refine ⟨I2.kIn, ?_⟩
  rw [hks]
  exact run_fnk F hr hb hx I2 .nil rz q2
end
/-- a def that may be called by place or by word -/
structure GoK (P : Program) (w : World) (K : PySem.W.Frag) (mg : Str → Option Value) (base : Heap) (CX : CXT) (n : Nat) (x : Str) (ps : List Str) (sp : Sp) : Prop where
  ex : ∃ f fd, FnOk P w K mg base CX n f fd ps sp ∧ mg x = some (.ref f) ∧ PySem.W.keepIn K (.ref f) = true ∧ Binds K fd ps [] ∧ KBinds K fd ps ps (fun us ws => us ++ ws) (fun vs zs => vs ++ zs)
section
variable {X : Cx} {CX : CXT} {n : Nat} {ps : List Str} {sp : Sp} {E : XK} {x : Str} {p pos : Pos} {kws : List Keyword} {tk : TA} {P : Program} {w : World} {K : PySem.W.Frag} {mg : Str → Option Value} {base : Heap}
theorem GoK.go (G : GoK P w K mg base CX n x ps sp) : Go P w K mg base CX n x ps sp := by
  obtain ⟨f, fd, F, g, k, b, _⟩ := G.ex
  exact ⟨f, fd, F, g, k, b⟩
theorem pe_goK (G : GoK X.prog X.w X.K X.mg X.base CX n x ps sp) (hr : Room n X.A) (hx : Passes CX X E) (hg : Gl X x) (hkw : PK X kws tk)
    (hall : (backToKw pos (keywordEach kws X.env)).all (·.1.isSome) = true := by rfl) (hks : (backToKw pos (keywordEach kws X.env)).filterMap (·.1) = ps := by rfl) (hdb : (x == ("__debug__" : Str)) = false := by decide)
    (hpl : ((backTo pos (starEach [] X.env)).any (·.1) || (backToKw pos (keywordEach kws X.env)).any (·.1.isNone)) = false := by rfl) :
    PE X (.Call (.Name x p) [] kws pos) (tCallK sp (fun vs zs => vs ++ zs) E L2.tNil tk) := by
  obtain ⟨f, fd, F, g, k, b, kb⟩ := G.ex
  exact pe_callK0 F hr hg g k kb hx hkw hall hks hdb hpl
end
theorem passF {X : Cx} : Passes (L2.CX X.prog X.w) X (fun _ _ _ => False) := fun _ _ _ _ _ _ _ h => by
  obtain ⟨_, _, _, _, _, _, _, _, _, _, _, _, z⟩ := h
  exact z.elim
section
variable {P : Program} {w : World} {K : PySem.W.Frag} {mg : Str → Option Value} {base : Heap} {H H1 H2 : Hp} {l C IP fI : Addr}
abbrev sSize : Stmt := topS 46
abbrev sCmds : Stmt := topS 47
theorem scSize : FnScope ["program", "check"] ["program"] (defScope sSize) := ⟨rfl, rfl, rfl, by decide +kernel, rfl, by decide +kernel, by decide +kernel⟩
theorem scCmds : FnScope ["program", "check"] ["program"] (defScope sCmds) := ⟨rfl, rfl, rfl, by decide +kernel, rfl, by decide +kernel, by decide +kernel⟩
abbrev GCk (P : Program) (w : World) (K : PySem.W.Frag) (mg : Str → Option Value) (base : Heap) (C IP : Addr) : Prop := Go P w K mg base (L2.CX P w) 86 "checked" ["program"] (spChecked K C IP)
theorem ok_size {f : Addr} {fd : FuncData} (F0 : Fun K "program_size" "program_size" sSize f fd) (Z : Mc P K mg C IP fI) (GC : GCk P w K mg base C IP) : FnOk P w K mg base CX0 87 f fd ["program"] (spSizes K) := by
  refine F0.ok scSize (fun vs H Q E h => ?_) (fun cdv A outer s H vs Q E hr h => ?_)
  · obtain ⟨_, _, _, rfl, _⟩ := h
    rfl
  obtain ⟨v, rs, m, rfl, d, ⟨C1, W1, N, Mx, pr⟩, q⟩ := h
  refine ⟨_, pss_cons (ps_set (i := 1) scSize.nd rfl (.inl rfl) (pe_go (E := fun _ _ _ => False) GC hr passF rfl (pa_cons (pv 0) pa_nil)))
    (pss_one (ps_ret (pe_tup (pa_cons (pe_fld (pv 1) rfl) (pa_cons (pe_fld (pv 1) rfl) pa_nil))))), ?_⟩
  try dsimp only [L2.tRet, L2.tRetN, tAndV, tOrV, tNotV, tCB, L2.tCons, L2.tNil, tC, tVar, L2.tOp, L2.tUn, tSeq, tAsg, gName, tIfS, tTest, tNext, tAnd, tOr, tNot, L2.tIf, tFld, sFld, sFldAug, tCall, tTup, tB, tAug, tDrop, L2.tSl, tPart, tNoPart, tBM, tBM0, tChain, gTup, gCons, gNil, tPar, tIs, List.set, L2.start, iTup, L2.iList, L2.iRng1, tUn, tLst, tTest, gSub, tCall, L2.tIf, tCB, rRep, List.set, List.cons_append, List.nil_append, cxOf]
  obtain ⟨S, e1, e2, e3, _, _⟩ := check_ok pr
  refine ⟨_, rfl, v, encP rs m, rfl, d.im, ?_⟩
  rw [e1]
  intro H' F a at1
  refine ⟨_, rfl, F.c, C, F.dx, _, _, rfl, at1.c, Z.cl, Z.n1, get_trees, _, rfl, F.c, C, F.dx, _, _, rfl, at1.c, Z.cl, Z.n4, get_unf, (by show 2 ≤ sizeLine; decide), fun p np => ?_⟩
  refine q p _ (Ck.Same.new a np) ?_
  rw [upd_same, e2, e3]
theorem tab_keys : ∀ ns : List Str, (tab ns).map (·.1) = ns.map Sum.inr
  | [] => rfl
  | n :: ns => by
    show Sum.inr n :: (tab ns).map (·.1) = _
    rw [tab_keys ns]
    rfl
theorem sortOf_perm {ys ks xs : List Str} (pm : ys.Perm ks) (st : sortedS ys = true) (nd : ks.Nodup) (m : ∀ z, z ∈ ks ↔ z ∈ xs) : SortOf ys xs := ⟨st, pm.nodup_iff.mpr nd, fun z => pm.mem_iff.trans (m z)⟩
theorem ok_cmds {f : Addr} {fd : FuncData} (F0 : Fun K "command_names" "command_names" sCmds f fd) (M : Mg mg) (Z : Mc P K mg C IP fI) (GC : GCk P w K mg base C IP) : FnOk P w K mg base CX0 87 f fd ["program"] (spNames K) := by
  refine F0.ok scCmds (fun vs H Q E h => ?_) (fun cdv A outer s H vs Q E hr h => ?_)
  · obtain ⟨_, _, _, rfl, _⟩ := h
    rfl
  obtain ⟨v, rs, m, rfl, d, ⟨C1, W1, N, Mx, pr⟩, q⟩ := h
  refine ⟨_, pss_cons (ps_set (i := 1) scCmds.nd rfl (.inl rfl) (pe_go (E := fun _ _ _ => False) GC hr passF rfl (pa_cons (pv 0) pa_nil)))
    (pss_one (ps_ret (pe_tup (pa_cons (pe_callB (call_sortedD rfl) rfl M.so (by decide +kernel) (pa_cons (pe_fld (pv 1) rfl) pa_nil)) (pa_cons (pe_callB (call_sortedD rfl) rfl M.so (by decide +kernel) (pa_cons (pe_fld (pv 1) rfl) pa_nil)) pa_nil))))), ?_⟩
  try dsimp only [L2.tRet, L2.tRetN, tAndV, tOrV, tNotV, tCB, L2.tCons, L2.tNil, tC, tVar, L2.tOp, L2.tUn, tSeq, tAsg, gName, tIfS, tTest, tNext, tAnd, tOr, tNot, L2.tIf, tFld, sFld, sFldAug, tCall, tTup, tB, tAug, tDrop, L2.tSl, tPart, tNoPart, tBM, tBM0, tChain, gTup, gCons, gNil, tPar, tIs, List.set, L2.start, iTup, L2.iList, L2.iRng1, tUn, tLst, tTest, gSub, tCall, L2.tIf, tCB, rRep, List.set, List.cons_append, List.nil_append, cxOf]
  obtain ⟨S, e1, _, _, e4, e5⟩ := check_ok pr
  have nm := RowsOk.names pr.rs
  have nm2 := pr.mn.names
  have nc : S.cmds.Nodup := by rw [e4]; exact adds_nd List.nodup_nil
  have nv : S.vars.Nodup := by rw [e5]; exact adds_nd List.nodup_nil
  have mc : ∀ z, z ∈ S.cmds ↔ z ∈ cmr rs ++ cms m := fun z => by
    rw [e4, mem_adds]
    exact ⟨fun h => h.elim (fun h => (by cases h)) id, .inr⟩
  have mv : ∀ z, z ∈ S.vars ↔ z ∈ vrr rs ++ vrs m := fun z => by
    rw [e5, mem_adds]
    exact ⟨fun h => h.elim (fun h => (by cases h)) id, .inr⟩
  have lc : S.cmds.length ≤ 60 := Nat.le_trans (nd_len (W := C1) nc fun z h => (List.mem_append.mp ((mc z).mp h)).elim (nm.1 z) (nm2.1 z)) pr.fc
  have lv : S.vars.length ≤ 40 := Nat.le_trans (nd_len (W := W1) nv fun z h => (List.mem_append.mp ((mv z).mp h)).elim (nm.2 z) (nm2.2 z)) pr.fv
  refine ⟨_, rfl, v, encP rs m, rfl, d.im, ?_⟩
  rw [e1]
  intro H' F s1 at1
  refine ⟨_, rfl, F.c, C, F.dx, _, _, rfl, at1.c, Z.cl, Z.n2, get_cmds, F.dc, _, S.cmds, rfl, .of at1.dc, tab_keys _, by omega, fun ys a pm st na => ?_⟩
  have s2 := same_new (o := .lst (ys.map V.str)) na
  refine ⟨_, rfl, F.c, C, F.dx, _, _, rfl, s2 _ _ at1.c, Z.cl, Z.n3, get_vars, F.dv, _, S.vars, rfl, .of (s2 _ _ at1.dv), tab_keys _, by omega, fun zs b pm2 st2 nb => ?_⟩
  have s3 := same_new (o := .lst (zs.map V.str)) nb
  refine ⟨(by show 2 ≤ sizeLine; decide), fun p np => ?_⟩
  have s4 := same_new (o := .tup [V.ref a, V.ref b]) np
  have ea := s4 _ _ (s3 _ _ (upd_same (H := H') (a := a) (o := .lst (ys.map V.str))))
  have eb := s4 _ _ (upd_same (a := b) (o := .lst (zs.map V.str)))
  have ab : a ≠ b := ne_of_none (upd_same (a := a) (o := .lst (ys.map V.str))) nb
  exact q p a b ys zs _ (Ck.Same.non ((s1.trans s2).trans s3) np) (Ck.Same.non s1 na) (Ck.Same.non (s1.trans s2) nb) (((s1.trans s2).trans s3).trans s4) upd_same ab ea eb (sortOf_perm pm st nc mc) (sortOf_perm pm2 st2 nv mv)
end
end Ck

/-! Sizes and names are right. -/
namespace Ck
open PySem PySem.Spec PyProof.Rows L2
section
variable {P : Program} {w : World} {K : PySem.W.Frag} {mg : Str → Option Value} {base : Heap} {H H1 H2 : Hp} {l C IP fI : Addr}
theorem lay_strs : ∀ ys : List Str, (∀ z ∈ ys, PyData.strOk z = true) → PyData.canLayAll0 (ys.map PyData.str) = true ∧ PyData.depthAll (ys.map PyData.str) = 0
  | [], _ => ⟨rfl, rfl⟩
  | y :: ys, h => by
    obtain ⟨a, b⟩ := lay_strs ys fun z m => h z (List.mem_cons_of_mem _ m)
    constructor
    · show (PyData.canLay0 (.str y) && PyData.canLayAll0 (ys.map PyData.str)) = true
      rw [a, PyData.canLay0, h y List.mem_cons_self]
      rfl
    · show max (PyData.depth (.str y)) (PyData.depthAll (ys.map PyData.str)) = 0
      rw [b]
      rfl
def twoD (ys zs : List Str) : PyData := .tuple [.list (ys.map PyData.str), .list (zs.map PyData.str)]
theorem two_shaped {ys zs : List Str} (h : ∀ z ∈ ys, PyData.strOk z = true) (g : ∀ z ∈ zs, PyData.strOk z = true) : SeqAt.shaped (twoD ys zs) = true := by
  obtain ⟨a, b⟩ := lay_strs ys h
  obtain ⟨c, d⟩ := lay_strs zs g
  unfold SeqAt.shaped twoD
  rw [Bool.and_eq_true, decide_eq_true_eq]
  simp only [PyData.canLay0, PyData.canLayAll0, PyData.depth, PyData.depthAll, a, b, c, d]
  exact ⟨by decide, by decide⟩
theorem dp_strs : ∀ ys : List Str, DpAll K H (ys.map V.str) (ys.map PyData.str)
  | [] => .nil
  | y :: ys => .cons (.str y) (dp_strs ys)
/-- two lists of names at p -/
structure Two (H : Hp) (p a b : Addr) (ys zs : List Str) : Prop where
  p : H p = some (.tup [.ref a, .ref b])
  a : LS H a ys
  b : LS H b zs
theorem Two.up {p a b : Addr} {ys zs : List Str} (h : Two H p a b ys zs) (s : Same H H1) : Two H1 p a b ys zs := ⟨s _ _ h.p, s _ _ h.a, s _ _ h.b⟩
theorem Two.dp {p a b : Addr} {ys zs : List Str} (h : Two H p a b ys zs) : Dp K H (.ref p) (twoD ys zs) := .tup (sqt h.p) (.cons (.lst (.inl (.inl h.a)) (dp_strs ys)) (.cons (.lst (.inl (.inl h.b)) (dp_strs zs)) .nil))
theorem two_ne {p a b p2 a2 b2 : Addr} {ys zs : List Str} {Q : VK} (sh : SeqAt.shaped (twoD ys zs) = true) (h1 : Two H p a b ys zs) (h2 : Two H p2 a2 b2 ys zs) (q : Q (.bl false) H) : rNeD K (.ref p) (.ref p2) H Q := by
  refine ⟨_, _, h1.dp, h2.dp, sh, sh, ?_⟩
  rw [SeqAt.eqv_refl _ (SeqAt.canLay_of_shaped sh)]
  exact q
theorem two_eq {p a b p2 a2 b2 : Addr} {ys zs : List Str} {Q : VK} (sh : SeqAt.shaped (twoD ys zs) = true) (h1 : Two H p a b ys zs) (h2 : Two H p2 a2 b2 ys zs) (q : Q (.bl true) H) : rEqD K (.ref p) (.ref p2) H Q := by
  refine ⟨_, _, h1.dp, h2.dp, sh, sh, ?_⟩
  rw [SeqAt.eqv_refl _ (SeqAt.canLay_of_shaped sh)]
  exact q
theorem int2_sh (i j : Int) : SeqAt.shaped (toD (.tup [.int i, .int j])) = true := by
  have z : LayT (.tup [.int i, .int j]) 1 := LayTs.tup (.cons .int (.cons .int .nil))
  unfold SeqAt.shaped
  rw [Bool.and_eq_true, decide_eq_true_eq]
  exact ⟨z.1, Nat.le_trans z.2 (by decide)⟩
theorem int2_dat {p : Addr} {i j : Int} (h : H p = some (.tup [.int i, .int j])) : Dat K H (.ref p) (.tup [.int i, .int j]) := Dats.tup (.cons (.int i) (.cons (.int j) .nil)) h
abbrev sRight : Stmt := topS 68
abbrev NRi : List Str := ["_law_plan_here", "_law_due", "_law_turn", "_law_found"]
theorem scRi : FnScope NRi ["_law_plan_here"] (defScope sRight) := ⟨rfl, rfl, rfl, by decide +kernel, rfl, by decide +kernel, by decide +kernel⟩
def spRight (K : PySem.W.Frag) : Sp := fun vs H Q _ => ∃ v rs m, vs = [v] ∧ Dat K H v (encP rs m) ∧ IsProg rs m ∧ ∀ H', Same H H' → Q (.bl true) H'
abbrev GNa (P : Program) (w : World) (K : PySem.W.Frag) (mg : Str → Option Value) (base : Heap) : Prop := Go P w K mg base CX0 3 "_law_names" ["_law_plan_here"] (spNames K)
abbrev GSi (P : Program) (w : World) (K : PySem.W.Frag) (mg : Str → Option Value) (base : Heap) : Prop := Go P w K mg base CX0 33 "_law_sizes" ["_law_plan_here"] (spSizes K)
abbrev GCn (P : Program) (w : World) (K : PySem.W.Frag) (mg : Str → Option Value) (base : Heap) : Prop := GoK P w K mg base CX0 87 "command_names" ["program"] (spNames K)
abbrev GPs (P : Program) (w : World) (K : PySem.W.Frag) (mg : Str → Option Value) (base : Heap) : Prop := GoK P w K mg base CX0 87 "program_size" ["program"] (spSizes K)
theorem ok_right {f : Addr} {fd : FuncData} (F : Fun K "_law_right" "_law_right" sRight f fd) (M : Mg mg) (GN : GNa P w K mg base) (GS : GSi P w K mg base) (GC : GCn P w K mg base) (GP : GPs P w K mg base) : FnOk P w K mg base CX0 88 f fd ["_law_plan_here"] (spRight K) := by
  refine F.ok scRi (fun vs H Q E h => ?_) (fun cdv A outer s H vs Q E hr hh => ?_)
  · obtain ⟨_, _, _, rfl, _⟩ := h
    rfl
  obtain ⟨v, rs, m, rfl, d, pr, q⟩ := hh
  have hu := hr.units
  have hr3 := hr.mono (j := 3) (by decide)
  have hr33 := hr.mono (j := 33) (by decide)
  have ge := GC.go
  have gp := GP.go
  refine ⟨_, (pss_cons (ps_set (i := 1) scRi.nd rfl (.inl rfl) (pe_go (E := fun _ _ _ => False) GN hr3 pass0 rfl (pa_cons (pv 0) pa_nil))) (pss_cons (ps_for PassesOwn.never rfl (pi_range1 rfl M.mr (pa_cons pe_int pa_nil)) (pg_name (i := 2) scRi.nd rfl (.inl rfl))
      (pss_cons (ps_set (i := 3) scRi.nd rfl (.inl rfl) (pe_go (E := fun _ _ _ => False) ge hr pass0 rfl (pa_cons (pv 0) pa_nil))) (pss_cons (ps_if (PW.pt (pw_or (pt_cmpR (op_neD hu) (pv 3) (pv 1) rfl) (pw_or (pt_not (pt_val (pe_is (n := "tuple") M.mi M.mt (by decide +kernel) rfl rfl (pv 3)))) (pw_or1 (pt_cmpR (op_neD hu) (pe_go (E := fun _ _ _ => False) gp hr pass0 rfl (pa_cons (pv 0) pa_nil)) (pe_go (E := fun _ _ _ => False) GS hr33 pass0 rfl (pa_cons (pv 0) pa_nil)) rfl))))) (pss_one (ps_ret pe_bl)) pss_nil) (pss_cons (ps_expr (pe_bm PySem.F.plainAttrs_list PySem.F.slot_list_append PySem.F.type_list_append mt_append (pe_ix ix_tup (pv 3) pe_int fun _ _ => rfl) (pa_cons pe_non pa_nil))) (pss_one (ps_expr (pe_bm0 PySem.F.plainAttrs_list PySem.F.slot_list_clear PySem.F.type_list_clear mt_clear (pe_ix ix_tup (pv 3) pe_int fun _ _ => rfl)))))))) (pss_one (ps_ret (pe_and (pe_cmpR (op_eqD hu) (pe_goK (E := fun _ _ _ => False) GC hr pass0 rfl (pk_cons (pv 0) pk_nil)) (pv 1) rfl) (pe_one (pe_cmpR (op_eqD hu) (pe_goK (E := fun _ _ _ => False) GP hr pass0 rfl (pk_cons (pv 0) pk_nil)) (pe_go (E := fun _ _ _ => False) GS hr33 pass0 rfl (pa_cons (pv 0) pa_nil)) rfl))))))), ?_⟩
  try dsimp only [L2.tRet, L2.tRetN, tAndV, tOrV, tNotV, tCB, L2.tCons, L2.tNil, tC, tVar, L2.tOp, L2.tUn, tSeq, tAsg, gName, tIfS, tTest, tNext, tAnd, tOr, tNot, L2.tIf, tFld, sFld, sFldAug, tCall, tTup, tB, tAug, tDrop, L2.tSl, tPart, tNoPart, tBM, tBM0, tChain, gTup, gCons, gNil, tPar, tIs, List.set, L2.start, iTup, L2.iList, L2.iRng1, tUn, tLst, tTest, gSub, tCall, L2.tIf, tCB, rRep, List.set, List.cons_append, List.nil_append, cxOf]
  refine ⟨_, rfl, v, rs, m, rfl, d, pr, fun p a b ys zs H1 np na nb s1 hp ab la lb so1 so2 => ?_⟩
  have tw : Two H1 p a b ys zs := ⟨hp, la, lb⟩
  have d1 := d.up (same_stay s1)
  have sh : SeqAt.shaped (twoD ys zs) = true := by
    obtain ⟨C1, W1, N, Mx, pk⟩ := pr
    have nm := RowsOk.names pk.rs
    have nm2 := pk.mn.names
    exact two_shaped (fun z h => strs_name (pk.cd.c z ((List.mem_append.mp ((so1.m z).mp h)).elim (nm.1 z) (nm2.1 z)))) fun z h => strs_name (pk.cd.v z ((List.mem_append.mp ((so2.m z).mp h)).elim (nm.2 z) (nm2.2 z)))
  refine loop_in ?_
  try dsimp only [L2.tRet, L2.tRetN, tAndV, tOrV, tNotV, tCB, L2.tCons, L2.tNil, tC, tVar, L2.tOp, L2.tUn, tSeq, tAsg, gName, tIfS, tTest, tNext, tAnd, tOr, tNot, L2.tIf, tFld, sFld, sFldAug, tCall, tTup, tB, tAug, tDrop, L2.tSl, tPart, tNoPart, tBM, tBM0, tChain, gTup, gCons, gNil, tPar, tIs, List.set, L2.start, iTup, L2.iList, L2.iRng1, tUn, tLst, tTest, gSub, tCall, L2.tIf, tCB, rRep, List.set, List.cons_append, List.nil_append, cxOf]
  refine ⟨2, rfl, by decide, by decide, loop_range (lo := 0) (n := 2) (fun i σ H' => Same H1 H' ∧ ∃ v2 v3, σ = [some v, some (.ref p), v2, v3]) ⟨same_id, _, _, rfl⟩ ?hs ?hd⟩
  case hs =>
    rintro i σ H2 li ⟨s2, v2, v3, rfl⟩
    have d2 := d1.up (same_stay s2)
    try dsimp only [L2.tRet, L2.tRetN, tAndV, tOrV, tNotV, tCB, L2.tCons, L2.tNil, tC, tVar, L2.tOp, L2.tUn, tSeq, tAsg, gName, tIfS, tTest, tNext, tAnd, tOr, tNot, L2.tIf, tFld, sFld, sFldAug, tCall, tTup, tB, tAug, tDrop, L2.tSl, tPart, tNoPart, tBM, tBM0, tChain, gTup, gCons, gNil, tPar, tIs, List.set, L2.start, iTup, L2.iList, L2.iRng1, tUn, tLst, tTest, gSub, tCall, L2.tIf, tCB, rRep, List.set, List.cons_append, List.nil_append, cxOf]
    refine ⟨_, rfl, v, rs, m, rfl, d2, pr, fun p3 a3 b3 ys3 zs3 H3 np3 na3 nb3 s3 hp3 ab3 la3 lb3 so3 so4 => ?_⟩
    obtain rfl := so3.one so1 fun z => Iff.rfl
    obtain rfl := so4.one so2 fun z => Iff.rfl
    have s13 := s2.trans s3
    have tw3 : Two H3 p3 a3 b3 ys3 zs3 := ⟨hp3, la3, lb3⟩
    refine ⟨_, rfl, _, rfl, two_ne sh tw3 (tw.up s13) ⟨false, rfl, if_no rfl ?_⟩⟩
    have isT : PySem.W.kitOne K (.type "tuple") (.type "tuple") = some true := kit_ty (by decide +kernel)
    refine ⟨_, rfl, _, _, _, _, _, rfl, .ty _, .base (.tup hp3), isT, ⟨true, rfl, ?_⟩⟩
    refine if_neg Bool.false_ne_true ▸ ?_
    have d3 := d2.up (same_stay s3)
    refine ⟨_, rfl, v, rs, m, rfl, d3, pr, fun p4 H4 s4 h4 => ?_⟩
    have d4 := d3.up (same_stay s4)
    refine ⟨_, rfl, v, rs, m, rfl, d4, pr, fun p5 H5 s5 h5 => ?_⟩
    refine dat_ne (int2_sh _ _) (int2_dat (s5 _ _ h4)) (int2_dat h5) ⟨false, rfl, if_no rfl ?_⟩
    have tw5 := (tw3.up s4).up s5
    have s25 := (s3.trans s4).trans s5
    have sa : Same H2 H5 := s25
    have pa : p3 ≠ a3 := fun e => by
      have z := tw5.a
      rw [← e] at z
      have z2 := tw5.p.symm.trans z
      cases z2
    have pb : p3 ≠ b3 := fun e => by
      have z := tw5.b
      rw [← e] at z
      have z2 := tw5.p.symm.trans z
      cases z2
    have lz : (ys3.map V.str).length ≤ 60 := by
      obtain ⟨C1, W1, N, Mx, pk⟩ := pr
      have nm := RowsOk.names pk.rs
      have nm2 := pk.mn.names
      rw [List.length_map]
      exact Nat.le_trans (nd_len (W := C1) so1.d fun z h => (List.mem_append.mp ((so1.m z).mp h)).elim (nm.1 z) (nm2.1 z)) pk.fc
    refine ⟨_, rfl, p3, _, _, _, rfl, rfl, sqt tw5.p, atI_nat (j := 0) rfl, .inl ⟨rfl, _, .inl (.inl tw5.a)⟩, a3, _, _, rfl, rfl, tw5.a, Nat.lt_of_lt_of_le (show _ < 1000 by omega) (sl (by decide)), ?_⟩
    have e6 : upd H5 a3 (.lst (ys3.map V.str ++ [V.non])) p3 = some (.tup [.ref a3, .ref b3]) := by rw [upd_ne pa]; exact tw5.p
    have e7 : upd H5 a3 (.lst (ys3.map V.str ++ [V.non])) b3 = some (.lst (zs3.map V.str)) := by rw [upd_ne (Ne.symm ab3)]; exact tw5.b
    have s6 : Same H2 (upd H5 a3 (.lst (ys3.map V.str ++ [V.non]))) := fun b o z => by
      rw [upd_ne (ne_of_none z na3)]
      exact sa _ _ z
    refine ⟨_, rfl, p3, _, _, _, rfl, rfl, sqt e6, atI_nat (j := 1) rfl, .inl ⟨rfl, _, .inl (.inl e7)⟩, b3, _, rfl, rfl, e7, ?_⟩
    refine ⟨s2.trans fun b o z => ?_, _, _, rfl⟩
    rw [upd_ne (ne_of_none z nb3)]
    exact s6 _ _ z
  case hd =>
    rintro σ H2 ⟨s2, v2, v3, rfl⟩
    have d2 := d1.up (same_stay s2)
    unfold tCallK
    try dsimp only [L2.tRet, L2.tRetN, tAndV, tOrV, tNotV, tCB, L2.tCons, L2.tNil, tC, tVar, L2.tOp, L2.tUn, tSeq, tAsg, gName, tIfS, tTest, tNext, tAnd, tOr, tNot, L2.tIf, tFld, sFld, sFldAug, tCall, tTup, tB, tAug, tDrop, L2.tSl, tPart, tNoPart, tBM, tBM0, tChain, gTup, gCons, gNil, tPar, tIs, List.set, L2.start, iTup, L2.iList, L2.iRng1, tUn, tLst, tTest, gSub, tCall, L2.tIf, tCB, rRep, List.set, List.cons_append, List.nil_append, cxOf]
    refine ⟨_, rfl, v, rs, m, rfl, d2, pr, fun p3 a3 b3 ys3 zs3 H3 np3 na3 nb3 s3 hp3 ab3 la3 lb3 so3 so4 => ?_⟩
    obtain rfl := so3.one so1 fun z => Iff.rfl
    obtain rfl := so4.one so2 fun z => Iff.rfl
    have s13 := s2.trans s3
    have tw3 : Two H3 p3 a3 b3 ys3 zs3 := ⟨hp3, la3, lb3⟩
    refine ⟨_, rfl, two_eq sh tw3 (tw.up s13) ⟨true, rfl, if_yes rfl ?_⟩⟩
    have d3 := d2.up (same_stay s3)
    refine ⟨_, rfl, v, rs, m, rfl, d3, pr, fun p4 H4 s4 h4 => ?_⟩
    have d4 := d3.up (same_stay s4)
    refine ⟨_, rfl, v, rs, m, rfl, d4, pr, fun p5 H5 s5 h5 => ?_⟩
    exact dat_eq (int2_sh _ _) (int2_dat (s5 _ _ h4)) (int2_dat h5) (q _ (s1.trans (((s2.trans s3).trans s4).trans s5)))
end
end Ck

/-! The law's own programs: called several times, wide, none. -/
namespace Ck
open PySem
abbrev C3 : List Str := ["a", "p", "q"]
abbrev W3 : List Str := ["v"]
theorem cond3 : CondW C3 W3 255 255 := ⟨by decide +kernel, by decide +kernel, by decide, by decide⟩
def xRun (z : Str) : Tr := .mk false "run" [.str z] [] []
def xCall (z : Str) : Tr := .mk false "call" [.str z] [] []
def xVar (y : Str) : Tr := .mk false y [.str "v"] [] []
def xTimes (n : Int) (k : Tr) : Tr := .mk false "times" [.int n] [k] []
def xRow (u : Str) (n : Int) : Tr := .mk true "seq" [] [xCall u, xTimes n (xCall u), xVar "keep"] []
def rows3 (a b c : Int) : Rows := [("f", xTimes a (xRun "q")), ("g", xRow "f" b), ("h", xRow "g" c)]
def main3 : Tr := .mk true "pipe" [] [xCall "h", xCall "f", xRun "p"] []
theorem un_f (fs : List (Str × Int)) (a : Int) : unf fs (xTimes a (xRun "q")) = 1 + a * 1 := rfl
theorem un_row {fs : List (Str × Int)} {u : Str} {b L : Int} (h : fs.lookup u = some L) : unf fs (xRow u b) = 1 + ((1 + 0 + L) + ((1 + b * ((1 + 0 + L) + 0)) + ((1 : Int) + 0))) + 0 := by
  have e : unf fs (xRow u b) = 1 + ((1 + 0 + (fs.lookup u).getD 0) + ((1 + b * ((1 + 0 + (fs.lookup u).getD 0) + 0)) + ((1 : Int) + 0))) + 0 := rfl
  rw [e, h]
  rfl
theorem un_main {fs : List (Str × Int)} {L M : Int} (h : fs.lookup ("h" : Str) = some L) (g : fs.lookup ("f" : Str) = some M) : unf fs main3 = 1 + ((1 + 0 + L) + ((1 + 0 + M) + ((1 : Int) + 0))) + 0 := by
  have e : unf fs main3 = 1 + ((1 + 0 + (fs.lookup ("h" : Str)).getD 0) + ((1 + 0 + (fs.lookup ("f" : Str)).getD 0) + ((1 : Int) + 0))) + 0 := rfl
  rw [e, h, g]
  rfl
theorem few_mul {b x m : Int} (b0 : 0 ≤ b) (b1 : b ≤ 3) (x0 : 0 ≤ x) (x1 : x ≤ m) : 0 ≤ b * x ∧ b * x ≤ 3 * m := ⟨Int.mul_nonneg b0 x0, Int.mul_le_mul b1 x1 x0 (by decide)⟩
section
variable {C W known : List Str} {N M : Int} {i : Bool} {l : Nat}
theorem ok_xrow {u : Str} {n : Int} (hv : ("v" : Str) ∈ W) (hu : u ∈ known) (h0 : 0 ≤ n) (h1 : n ≤ 3) : Okt C W N M known i l (xRow u n) :=
  .seq ⟨Nat.le_of_ble_eq_true rfl, Nat.le_of_ble_eq_true rfl⟩ (all_three (.call hu) (.times h0 (by omega) (.call hu)) (.var (.inr (.inr rfl)) hv))
end
theorem prog3 {a b c : Int} (a0 : 1 ≤ a) (a1 : a ≤ 9) (b0 : 0 ≤ b) (b1 : b ≤ 3) (c0 : 0 ≤ c) (c1 : c ≤ 3) : IsProg (rows3 a b c) main3 := by
  have hv : ("v" : Str) ∈ W3 := .head _
  obtain ⟨F, eF⟩ : ∃ F, F = unf [] (xTimes a (xRun "q")) := ⟨_, rfl⟩
  obtain ⟨G, eG⟩ : ∃ G, G = unf [(("f" : Str), F)] (xRow "f" b) := ⟨_, rfl⟩
  obtain ⟨Hh, eH⟩ : ∃ Hh, Hh = unf [(("f" : Str), F), ("g", G)] (xRow "g" c) := ⟨_, rfl⟩
  have vF : F = 1 + a * 1 := eF.trans (un_f _ _)
  have vG := eG.trans (un_row (L := F) rfl)
  have vH := eH.trans (un_row (L := G) rfl)
  have mb := few_mul b0 b1 (show 0 ≤ (1 + 0 + F) + 0 by omega) (show (1 + 0 + F) + 0 ≤ 11 by omega)
  have mc := few_mul c0 c1 (show 0 ≤ (1 + 0 + G) + 0 by omega) (show (1 + 0 + G) + 0 ≤ 50 by omega)
  have gr : grown [] (rows3 a b c) = [(("f" : Str), F), ("g", G), ("h", Hh)] := by
    rw [eH, eG, eF]
    rfl
  have vM := un_main (fs := [(("f" : Str), F), ("g", G), ("h", Hh)]) (L := Hh) (M := F) rfl rfl
  refine ⟨C3, W3, 255, 255, cond3, Nat.le_of_ble_eq_true rfl, by decide, by decide, ?_, ?_, ?_, by decide, Nat.le_of_ble_eq_true rfl⟩
  · have n1 : nameOk "f" = true := by decide +kernel
    have n2 : nameOk "g" = true := by decide +kernel
    have n3 : nameOk "h" = true := by decide +kernel
    refine ⟨n1, rfl, .times (by omega) (by omega) (.run (by decide)), by rw [← eF]; omega, Nat.le_of_ble_eq_true rfl, n2, ?_, ok_xrow hv (.head _) b0 b1, ?_, Nat.le_of_ble_eq_true rfl, n3, ?_, ok_xrow hv (.tail _ (.head _)) c0 c1, ?_, Nat.le_of_ble_eq_true rfl, True.intro⟩
    · rfl
    · show unf [(("f" : Str), unf [] (xTimes a (xRun "q")))] (xRow "f" b) ≤ 3000
      rw [← eF, ← eG]
      omega
    · rfl
    · show unf [(("f" : Str), unf [] (xTimes a (xRun "q"))), ("g", unf [(("f" : Str), unf [] (xTimes a (xRun "q")))] (xRow "f" b))] (xRow "g" c) ≤ 3000
      rw [← eF, ← eG, ← eH]
      omega
  · rw [gr]
    exact .pipe ⟨by decide, by decide⟩ (all_three (.call (.tail _ (.tail _ (.head _)))) (.call (.head _)) (.run (by decide)))
  · rw [gr, vM]
    omega
def wideK (n : Nat) : List Tr := (List.replicate n [xRun "a", xVar "give"]).flatten
theorem wideK_succ (n : Nat) : wideK (n + 1) = xRun "a" :: xVar "give" :: wideK n := by
  unfold wideK
  rw [List.replicate_succ, List.flatten_cons]
  rfl
theorem wide_len : ∀ n, (wideK n).length = 2 * n
  | 0 => rfl
  | n + 1 => by
    rw [wideK_succ, List.length_cons, List.length_cons, wide_len n]
    omega
theorem wide_cnt : ∀ n, cnts (wideK n) = 2 * n
  | 0 => rfl
  | n + 1 => by
    rw [wideK_succ]
    show 1 + (1 + cnts (wideK n)) = _
    rw [wide_cnt n]
    omega
theorem wide_unf : ∀ n : Nat, unfs [] (wideK n) = 2 * (n : Int)
  | 0 => rfl
  | n + 1 => by
    rw [wideK_succ]
    show (1 : Int) + (1 + unfs [] (wideK n)) = _
    rw [wide_unf n]
    omega
theorem wide_encs : ∀ n, encs (wideK n) = (List.replicate n [enc (xRun "a"), enc (xVar "give")]).flatten
  | 0 => rfl
  | n + 1 => by
    rw [wideK_succ, List.replicate_succ, List.flatten_cons, ← wide_encs n]
    rfl
theorem wide_mem {k : Tr} {n : Nat} (h : k ∈ wideK n) : k = xRun "a" ∨ k = xVar "give" := by
  obtain ⟨l, m1, m2⟩ := List.mem_flatten.mp h
  cases List.eq_of_mem_replicate m1
  rcases List.mem_cons.mp m2 with rfl | m2
  · exact .inl rfl
  rcases List.mem_cons.mp m2 with rfl | m2
  · exact .inr rfl
  cases m2
theorem prog_wide : IsProg [] (.mk true "seq" [] (wideK 700) []) := by
  have l := wide_len 700
  have h1 : hts (wideK 700) ≤ 1 := hts_le fun k m => by rcases wide_mem m with rfl | rfl <;> exact Nat.le_refl 1
  have c1 := wide_cnt 700
  have u1 := wide_unf 700
  refine ⟨C3, W3, 255, 255, cond3, by decide, by decide, by decide, True.intro, ?_, ?_, ?_, ?_⟩
  · refine .seq ⟨by omega, by omega⟩ fun k m => ?_
    rcases wide_mem m with rfl | rfl
    · exact .run (by decide)
    · exact .var (.inl rfl) (by decide)
  · show 1 + unfs [] (wideK 700) + 0 ≤ 3000
    rw [u1]
    decide
  · show 1 + hts (wideK 700) ≤ 30
    omega
  · show 0 + (1 + cnts (wideK 700)) ≤ 3000
    omega
theorem prog_none : IsProg [] (xTimes 0 (xRun "a")) :=
  ⟨C3, W3, 255, 255, cond3, by decide, by decide, by decide, True.intro, .times (by decide) (by decide) (.run (by decide)), Int.le_of_lt_add_one (by decide +kernel), by decide, by decide⟩
end Ck

/-! Expressions that are data: what they give, as a value of the check. -/
namespace Ck
open PySem PySem.Spec PyProof.Rows L2
abbrev CD := L2.St → Hp → T → Prop
abbrev CDs := L2.St → Hp → List T → Prop
def tDat (K : PySem.W.Frag) (C : CD) : TE := fun σ H Q => ∃ t, C σ H t ∧ ∀ v H', Same H H' → Dat K H' v t → Q v H'
def tDats (K : PySem.W.Frag) (C : CDs) : TA := fun σ H Q => ∃ ts, C σ H ts ∧ ∀ vs H', Same H H' → Dats K H' vs ts → Q vs H'
def tLDat (K : PySem.W.Frag) (C : CDs) : TE := fun σ H Q => ∃ ts, C σ H ts ∧ ∀ a H', Same H H' → LD K H' a ts → Q (.ref a) H'
section
variable {X : Cx} {P : Program} {w : World} {K : PySem.W.Frag} {mg : Str → Option Value} {base : Heap} {H H1 H2 : Hp}
structure PD (X : Cx) (e : Expr) (C : CD) : Prop where
  pe : PE X e (tDat X.K C)
  up : ∀ σ H H' t, Same H H' → C σ H t → C σ H' t
structure PDs (X : Cx) (es : List Expr) (C : CDs) : Prop where
  pa : PA X es (tDats X.K C)
  up : ∀ σ H H' t, Same H H' → C σ H t → C σ H' t
structure PLd (X : Cx) (e : Expr) (C : CDs) : Prop where
  pe : PE X e (tLDat X.K C)
  up : ∀ σ H H' t, Same H H' → C σ H t → C σ H' t
theorem pd_int {i : Int} {j : Nat} {pos : Pos} : PD X (.Constant (.int i) j pos) fun _ _ t => t = .int i :=
  ⟨pe_imp pe_int fun σ H Q ⟨t, e, q⟩ => by subst e; exact q _ _ same_id (.int i), fun _ _ _ _ _ h => h⟩
theorem pd_str {z : Str} {j : Nat} {pos : Pos} (few : z.length ≤ 100 := by decide +kernel) : PD X (.Constant (.str z) j pos) fun _ _ t => t = .str z :=
  ⟨pe_imp pe_str fun σ H Q ⟨t, e, q⟩ => by subst e; exact q _ _ same_id (.str few), fun _ _ _ _ _ h => h⟩
theorem pd_var (i : Nat) {x : Str} {pos : Pos} (p : PE X (.Name x pos) (tVar i)) : PD X (.Name x pos) fun σ H t => ∃ v, σ[i]? = some (some v) ∧ Dat X.K H v t :=
  ⟨pe_imp p fun σ H Q ⟨t, ⟨v, e, d⟩, q⟩ => ⟨v, e, q _ _ same_id d⟩, fun _ _ _ _ s ⟨v, e, d⟩ => ⟨v, e, d.up (same_stay s)⟩⟩
theorem pds_nil : PDs X [] fun _ _ ts => ts = [] := ⟨pa_imp pa_nil fun σ H Q ⟨ts, e, q⟩ => by subst e; exact q _ _ same_id .nil, fun _ _ _ _ _ h => h⟩
theorem pds_cons {e : Expr} {es : List Expr} {C : CD} {D : CDs} (a : PD X e C) (r : PDs X es D) (h : starEach (e :: es) X.env = (false, eval e X.env) :: starEach es X.env := by rfl) : PDs X (e :: es) fun σ H ts => ∃ t us, ts = t :: us ∧ C σ H t ∧ D σ H us :=
  ⟨pa_imp (pa_cons a.pe r.pa h) fun σ H Q ⟨ts, ⟨t, us, e, c, d⟩, q⟩ => by
    subst e
    exact ⟨t, c, fun v H1 s1 d1 => ⟨us, r.up _ _ _ _ s1 d, fun vs H2 s2 ds => q _ _ (s1.trans s2) (.cons (d1.up (same_stay s2)) ds)⟩⟩, fun σ _ _ _ s ⟨t, us, e, c, d⟩ => ⟨t, us, e, a.up _ _ _ _ s c, r.up _ _ _ _ s d⟩⟩
theorem pd_tup {es : List Expr} {j : Nat} {pos : Pos} {C : CDs} (a : PDs X es C) : PD X (.Tuple es j pos) fun σ H t => ∃ ts, t = .tup ts ∧ ts.length ≤ 1000 ∧ C σ H ts :=
  ⟨pe_imp (pe_tup a.pa) fun σ H Q ⟨t, ⟨ts, e, few, c⟩, q⟩ => by
    subst e
    refine ⟨ts, c, fun vs H1 s1 ds => ⟨sl (by rw [ds.len]; omega), fun p n => ?_⟩⟩
    exact q _ _ (s1.trans (same_new n)) ((ds.up (same_stay (same_new n))).tup upd_same), fun σ _ _ _ s ⟨ts, e, few, c⟩ => ⟨ts, e, few, a.up _ _ _ _ s c⟩⟩
theorem pl_var (i : Nat) {x : Str} {pos : Pos} (p : PE X (.Name x pos) (tVar i)) : PLd X (.Name x pos) fun σ H ts => ∃ a, σ[i]? = some (some (.ref a)) ∧ LD X.K H a ts :=
  ⟨pe_imp p fun σ H Q ⟨t, ⟨a, e, d⟩, q⟩ => ⟨_, e, q _ _ same_id d⟩, fun _ _ _ _ s ⟨v, e, d⟩ => ⟨v, e, d.up s⟩⟩
theorem pl_disp {es : List Expr} {pos : Pos} {C : CDs} (a : PDs X es C) : PLd X (.List es pos) fun σ H ts => ts.length ≤ 1000 ∧ C σ H ts :=
  ⟨pe_imp (pe_lst a.pa) fun σ H Q ⟨ts, ⟨few, c⟩, q⟩ => ⟨ts, c, fun vs H1 s1 ds => ⟨sl (by rw [ds.len]; omega), fun p n => q _ _ (s1.trans (same_new n)) ⟨vs, upd_same, ds.up (same_stay (same_new n))⟩⟩⟩, fun σ _ _ _ s ⟨few, c⟩ => ⟨few, a.up _ _ _ _ s c⟩⟩
theorem pl_rep {a b : Expr} {pos : Pos} {C : CDs} {D : CD} (ha : PLd X a C) (hb : PD X b D) : PLd X (.BinOp a .Mult b pos) fun σ H us => ∃ ts k, us = (List.replicate k ts).flatten ∧ ts.length ≤ 100 ∧ k ≤ 10000 ∧ C σ H ts ∧ D σ H (.int (k : Nat)) :=
  ⟨pe_imp (pe_op op_rep ha.pe hb.pe) fun σ H Q ⟨us, ⟨ts, k, e, few, kb, c, d⟩, q⟩ => by
    subst e
    refine ⟨_, c, fun p H1 s1 d1 => ⟨_, hb.up _ _ _ _ s1 d, fun u H2 s2 d2 => ?_⟩⟩
    obtain ⟨xs, hp, ds⟩ := d1.up s2
    have room : xs.length * k ≤ 100 * 10000 := Nat.mul_le_mul (by rw [ds.len]; exact few) kb
    refine ⟨p, k, xs, rfl, dat_int d2, hp, by omega, by omega, sl (by show xs.length * k ≤ _; omega), fun p2 n => ?_⟩
    have s3 := same_new (o := .lst (List.replicate (k : Int).toNat xs).flatten) n
    exact q _ _ ((s1.trans s2).trans s3) ⟨_, upd_same, (ds.up (same_stay s3)).reps k⟩, fun σ _ _ _ s ⟨ts, k, e, few, kb, c, d⟩ => ⟨ts, k, e, few, kb, ha.up _ _ _ _ s c, hb.up _ _ _ _ s d⟩⟩
theorem pd_tuple {e : Expr} {p pos : Pos} {C : CDs} (mt : X.mg "tuple" = none) (hg : Gl X "tuple") (ha : PLd X e C) (h1 : starEach [e] X.env = (false, eval e X.env) :: starEach [] X.env := by rfl) (h2 : ((backTo pos (starEach [] X.env)).any fun x => x.1) = false := by rfl) :
    PD X (.Call (.Name "tuple" p) [e] [] pos) fun σ H t => ∃ ts, t = .tup ts ∧ C σ H ts :=
  ⟨pe_imp (pe_callTy call_tuple_of hg mt (by decide +kernel) (pa_cons ha.pe pa_nil h1) (by decide) (by decide) h1 h2) fun σ H Q ⟨t, ⟨ts, e, c⟩, q⟩ => by
    subst e
    refine ⟨ts, c, fun a H1 s1 ⟨xs, ha, ds⟩ => ⟨a, xs, rfl, .inl ⟨.inl (.inl ha), fun p n => ?_⟩⟩⟩
    have s3 := same_new (o := .tup xs) n
    exact q _ _ (s1.trans s3) ((ds.up (same_stay s3)).tup upd_same), fun σ _ _ _ s ⟨ts, e, c⟩ => ⟨ts, e, ha.up _ _ _ _ s c⟩⟩
end
end Ck

/-! The law. -/
namespace Ck
open PySem PySem.Spec PyProof.Rows L2
def rCatL (K : PySem.W.Frag) : R2 := fun x y H Q => ∃ l b xs zs, x = .ref l ∧ y = .ref b ∧ SqL K H l xs ∧ H b = some (.lst zs) ∧ xs.length + zs.length ≤ sizeLine ∧ ∀ p, H p = none → Q (.ref p) (upd H p (.lst (xs ++ zs)))
theorem op_catL {X : Cx} : OpR X (binaryOp .Add) (rCatL X.K) := by
  intro pins s σ H x y v u Q I rx ry h
  obtain ⟨l, b, xs, zs, rfl, rfl, hl, hb, hz, q⟩ := h
  obtain rfl : v = .ref l := rx
  obtain rfl : u = .ref b := ry
  obtain ⟨as, ra, ⟨⟨c1, d1, da1, sl1⟩, n1, g1, k1, _, e1⟩, _⟩ := I.list hl
  obtain ⟨_, bs, n2, rb, _, g2⟩ := I.lstM hb
  simp only at k1 e1
  subst k1 e1
  have la := ra.length
  have lb := rb.length
  refine concat_meets (T := "list") ⟨_, g1, rfl⟩ ⟨_, g2, rfl⟩ noFill_list_add seq_list_add PySem.F.slot_list_add PySem.F.entry_list_add (PySem.F.args_list_add_2 _ _)
    (list_addW l b as.toArray bs.toArray n1 n2 d1 none sl1 #[] (by rw [List.size_toArray, List.size_toArray]; omega)) ⟨g1, g2, ?_⟩
  have ea : as.toArray ++ bs.toArray = (as ++ bs).toArray := by simp
  rw [ea]
  exact ⟨.ref _, _, I.lnew (t' := s.toks) (ra.append rb) (by rw [List.length_append]; omega), rfl, q _ I.fresh⟩
section
variable {P : Program} {w : World} {K : PySem.W.Frag} {mg : Str → Option Value} {base : Heap} {H H1 H2 H' : Hp} {l : Addr}
theorem pd_pe {X : Cx} {e : Expr} {C : CD} (h : PD X e C) : PE X e (tDat X.K C) := h.pe
theorem sql_up {a : Addr} {xs : List V} (h : SqL K H a xs) (x : Same H H') : SqL K H' a xs := by
  rcases h with (h | ⟨o, h⟩) | h
  · exact Or.inl (Or.inl (x _ _ h))
  · exact Or.inl (Or.inr ⟨o, x _ _ h⟩)
  · exact Or.inr h
theorem sql_dr {a p : Addr} {xs : List V} (h : SqL K H a xs) (np : H p = none) {o : HO} (d : Dr p (upd H p o) H') : SqL K H' a xs := by
  have g : ∀ b u, H b = some u → H' b = some u := fun b u z => d.keep b u (ne_of_none z np) (by rw [upd_ne (ne_of_none z np)]; exact z)
  exact sql_up h g
theorem ints_cut (ns : List Int) : ∀ x ∈ cutV (ns.map V.int ++ [V.int 0]) none (some 6), ∃ c : Int, x = .int c := by
  intro x hx
  unfold cutV at hx
  have h1 := List.mem_of_mem_take hx
  have h2 := List.mem_of_mem_drop h1
  rw [List.mem_append, List.mem_map] at h2
  rcases h2 with ⟨c, _, e⟩ | h2
  · exact ⟨c, e.symm⟩
  · exact ⟨0, by simpa using h2⟩
theorem ints_fst (ns : List Int) : ∃ c : Int, (ns.map V.int ++ [V.int 0])[0]? = some (.int c) := by
  cases ns with
  | nil => exact ⟨0, rfl⟩
  | cons c r => exact ⟨c, rfl⟩
abbrev sLaw : Stmt := topS 69
abbrev NLw : List Str := ["_law_script", "_law_cell", "_law_source_here", "_law_many", "_law_rows", "_law_title", "_law_under", "_law_again", "_law_plan_here", "_law_wide"]
theorem scLw : FnScope NLw ["_law_script"] (defScope sLaw) := ⟨rfl, rfl, rfl, by decide +kernel, rfl, by decide +kernel, by decide +kernel⟩
abbrev GSo (P : Program) (w : World) (K : PySem.W.Frag) (mg : Str → Option Value) (base : Heap) : Prop := Go P w K mg base CX0 104 "_law_source" ["_law_cell"] spSource
abbrev GPl (P : Program) (w : World) (K : PySem.W.Frag) (mg : Str → Option Value) (base : Heap) : Prop := Go P w K mg base CX0 104 "_law_plan" PPl (spPlan K)
abbrev GRi (P : Program) (w : World) (K : PySem.W.Frag) (mg : Str → Option Value) (base : Heap) : Prop := Go P w K mg base CX0 104 "_law_right" ["_law_plan_here"] (spRight K)
def spLaw (K : PySem.W.Frag) : Sp := fun vs H Q _ => ∃ (a : Addr) (ns : List Int), vs = [.ref a] ∧ SqL K H a (ns.map V.int) ∧ ns.length ≤ 63 ∧ ∀ H', Q (.bl true) H'
theorem ok_law {f : Addr} {fd : FuncData} (F : Fun K "law" "law" sLaw f fd) (M : Mg mg) (GO : GSo P w K mg base) (GT : GTk P w K mg base) (GP : GPl P w K mg base) (GR : GRi P w K mg base) :
    FnOk P w K mg base CX0 105 f fd ["_law_script"] (spLaw K) := by
  refine F.ok scLw (fun vs H Q E h => ?_) (fun cdv A outer s H vs Q E hr h => ?_)
  · obtain ⟨_, _, rfl, _⟩ := h
    rfl
  obtain ⟨a, ns, rfl, sq, few, q⟩ := h
  have hr8 := hr.mono (j := 88) (by decide)
  refine ⟨_, (pss_cons (ps_for PassesOwn.never rfl (pi_list (pe_slice sl_list (pe_op op_catL (pv 0) (pe_lst (pa_cons pe_int pa_nil))) po_none (po_some pe_int))) (pg_name (i := 1) scLw.nd rfl (.inl rfl))
      (pss_cons (ps_set (i := 2) scLw.nd rfl (.inl rfl) (pe_go (E := fun _ _ _ => False) GO hr pass0 rfl (pa_cons (pv 1) pa_nil))) (pss_one (ps_if (pt_not (pt_val (pe_go (E := fun _ _ _ => False) GR hr pass0 rfl (pa_cons (pe_go (E := fun _ _ _ => False) GP hr pass0 rfl (pa_cons (pv 2) (pa_cons pe_int (pa_cons pe_int pa_nil)))) pa_nil)))) (pss_one (ps_ret pe_bl)) pss_nil)))) (pss_cons (ps_set (i := 2) scLw.nd rfl (.inl rfl) (pe_go (E := fun _ _ _ => False) GO hr pass0 rfl (pa_cons (pe_ix ix_list (pe_op op_catL (pv 0) (pe_lst (pa_cons pe_int pa_nil))) pe_int fun _ _ => rfl) pa_nil))) (pss_cons (ps_set (i := 3) scLw.nd rfl (.inl rfl) (pe_op op_add pe_int (pe_go (E := fun _ _ _ => False) GT hr8 pass0 rfl (pa_cons (pv 2) (pa_cons pe_int pa_nil))))) (pss_cons (ps_set (i := 4) scLw.nd rfl (.inl rfl) (pe_lst (pa_cons (pd_pe (pd_tup (pds_cons pd_str (pds_cons (pd_tup (pds_cons pd_str (pds_cons (pd_var 3 (pv 3)) (pds_cons (pd_tup (pds_cons pd_str (pds_cons pd_str pds_nil))) pds_nil)))) pds_nil)))) pa_nil))) (pss_cons (ps_for PassesOwn.never rfl (pi_list (pe_lst (pa_cons (pe_tup (pa_cons pe_str (pa_cons pe_str pa_nil))) (pa_cons (pe_tup (pa_cons pe_str (pa_cons pe_str pa_nil))) pa_nil)))) (pg_tup rfl (L2.pgs_cons (pg_name (i := 5) scLw.nd rfl (.inl rfl)) (L2.pgs_cons (pg_name (i := 6) scLw.nd rfl (.inl rfl)) L2.pgs_nil)))
      (pss_cons (ps_set (i := 7) scLw.nd rfl (.inl rfl) (pe_tup (pa_cons pe_str (pa_cons (pe_go (E := fun _ _ _ => False) GT hr8 pass0 rfl (pa_cons (pv 2) (pa_cons pe_int pa_nil))) (pa_cons (pd_pe (pd_tup (pds_cons pd_str (pds_cons (pd_var 6 (pv 6)) pds_nil)))) pa_nil))))) (pss_one (ps_expr (pe_bm PySem.F.plainAttrs_list PySem.F.slot_list_append PySem.F.type_list_append mt_append (pv 4) (pa_cons (pd_pe (pd_tup (pds_cons (pd_var 5 (pv 5)) (pds_cons (pd_tup (pds_cons pd_str (pds_cons (pd_tup (pds_cons (pd_tup (pds_cons pd_str (pds_cons (pd_var 6 (pv 6)) pds_nil))) (pds_cons (pd_var 7 (pv 7)) (pds_cons (pd_tup (pds_cons pd_str (pds_cons pd_str pds_nil))) pds_nil)))) pds_nil))) pds_nil)))) pa_nil)))))) (pss_cons (ps_set (i := 8) scLw.nd rfl (.inl rfl) (pd_pe (pd_tup (pds_cons (pd_tuple M.mt rfl (pl_var 4 (pv 4))) (pds_cons (pd_tup (pds_cons pd_str (pds_cons (pd_tup (pds_cons (pd_tup (pds_cons pd_str (pds_cons pd_str pds_nil))) (pds_cons (pd_tup (pds_cons pd_str (pds_cons pd_str pds_nil))) (pds_cons (pd_tup (pds_cons pd_str (pds_cons pd_str pds_nil))) pds_nil)))) pds_nil))) pds_nil))))) (pss_cons (ps_set (i := 9) scLw.nd rfl (.inl rfl) (pd_pe (pd_tup (pds_cons (pd_tup pds_nil) (pds_cons (pd_tup (pds_cons pd_str (pds_cons (pd_tuple M.mt rfl (pl_rep (pl_disp (pds_cons (pd_tup (pds_cons pd_str (pds_cons pd_str pds_nil))) (pds_cons (pd_tup (pds_cons pd_str (pds_cons pd_str pds_nil))) pds_nil))) pd_int)) pds_nil))) pds_nil))))) (pss_one (ps_ret (pe_and (pe_go (E := fun _ _ _ => False) GR hr pass0 rfl (pa_cons (pv 8) pa_nil)) (pe_and (pe_go (E := fun _ _ _ => False) GR hr pass0 rfl (pa_cons (pv 9) pa_nil)) (pe_one (pe_go (E := fun _ _ _ => False) GR hr pass0 rfl (pa_cons (pd_pe (pd_tup (pds_cons (pd_tup pds_nil) (pds_cons (pd_tup (pds_cons pd_str (pds_cons pd_int (pds_cons (pd_tup (pds_cons pd_str (pds_cons pd_str pds_nil))) pds_nil)))) pds_nil)))) pa_nil)))))))))))))), ?_⟩
  try dsimp only [L2.tRet, L2.tRetN, tAndV, tOrV, tNotV, tCB, L2.tCons, L2.tNil, tC, tVar, L2.tOp, L2.tUn, tSeq, tAsg, gName, tIfS, tTest, tNext, tAnd, tOr, tNot, L2.tIf, tFld, sFld, sFldAug, tCall, tTup, tB, tAug, tDrop, L2.tSl, tPart, tNoPart, tBM, tBM0, tChain, gTup, gCons, gNil, tPar, tIs, List.set, L2.start, iTup, L2.iList, L2.iRng1, tUn, tLst, tTest, gSub, tCall, L2.tIf, tCB, rRep, List.set, List.cons_append, List.nil_append, cxOf]
  refine loop_in ?_
  try dsimp only [L2.tRet, L2.tRetN, tAndV, tOrV, tNotV, tCB, L2.tCons, L2.tNil, tC, tVar, L2.tOp, L2.tUn, tSeq, tAsg, gName, tIfS, tTest, tNext, tAnd, tOr, tNot, L2.tIf, tFld, sFld, sFldAug, tCall, tTup, tB, tAug, tDrop, L2.tSl, tPart, tNoPart, tBM, tBM0, tChain, gTup, gCons, gNil, tPar, tIs, List.set, L2.start, iTup, L2.iList, L2.iRng1, tUn, tLst, tTest, gSub, tCall, L2.tIf, tCB, rRep, List.set, List.cons_append, List.nil_append, cxOf]
  refine ⟨_, rfl, sl (Nat.le_of_ble_eq_true rfl), fun b nb => ?_⟩
  have s1 : Same H (upd H b (.lst [V.int 0])) := same_new nb
  refine ⟨a, b, ns.map V.int, _, rfl, rfl, sql_up sq s1, upd_same, sl (by rw [List.length_map]; show ns.length + 1 ≤ _; omega), fun p np => ?_⟩
  have s2 := same_new (o := .lst (ns.map V.int ++ [V.int 0])) np
  refine ⟨6, rfl, p, _, rfl, .inl (.inl upd_same), fun r nr => ?_⟩
  have s3 := same_new (o := .lst (cutV (ns.map V.int ++ [V.int 0]) none (some 6))) nr
  refine ⟨r, rfl, ⟨_, .inl (.inl upd_same)⟩, ?_⟩
  refine loop_list (K := K) (a := r) (xs := cutV (ns.map V.int ++ [V.int 0]) none (some 6)) (fun _ σ H' => SqL K H' a (ns.map V.int) ∧ H' r = some (.lst (cutV (ns.map V.int ++ [V.int 0]) none (some 6))) ∧ ∃ v1 v2, σ = [some (.ref a), v1, v2, none, none, none, none, none, none, none]) ⟨sql_up sq ((s1.trans s2).trans s3), upd_same, _, _, rfl⟩ (fun _ _ _ _ z => .inl (.inl z.2.1)) ?hs ?hd
  case hs =>
    rintro i x σ H2 hx ⟨q2, e2, v1, v2, rfl⟩
    obtain ⟨c, rfl⟩ := ints_cut ns x (List.mem_of_getElem? hx)
    try dsimp only [L2.tRet, L2.tRetN, tAndV, tOrV, tNotV, tCB, L2.tCons, L2.tNil, tC, tVar, L2.tOp, L2.tUn, tSeq, tAsg, gName, tIfS, tTest, tNext, tAnd, tOr, tNot, L2.tIf, tFld, sFld, sFldAug, tCall, tTup, tB, tAug, tDrop, L2.tSl, tPart, tNoPart, tBM, tBM0, tChain, gTup, gCons, gNil, tPar, tIs, List.set, L2.start, iTup, L2.iList, L2.iRng1, tUn, tLst, tTest, gSub, tCall, L2.tIf, tCB, rRep, List.set, List.cons_append, List.nil_append, cxOf]
    refine ⟨_, rfl, c, rfl, fun l nl => ?_⟩
    have sr3 : Sr l (upd H2 l (.lst [V.int c, V.int c, V.int 0])) := ⟨c, c, 0, upd_same⟩
    refine ⟨_, rfl, l, rfl, sr3, fun v H4 rs m pr dr d => ?_⟩
    refine ⟨v, rs, m, rfl, d, pr, fun H5 s5 => ⟨true, rfl, if_no rfl ?_⟩⟩
    have e3 : H5 r = some (.lst (cutV (ns.map V.int ++ [V.int 0]) none (some 6))) := s5 _ _ (dr.keep _ _ (ne_of_none e2 nl) (by rw [upd_ne (ne_of_none e2 nl)]; exact e2))
    exact ⟨sql_up (sql_dr q2 nl dr) s5, e3, _, _, rfl⟩
  case hd =>
    rintro σ H2 ⟨q2, _, v1, v2, rfl⟩
    try dsimp only [L2.tRet, L2.tRetN, tAndV, tOrV, tNotV, tCB, L2.tCons, L2.tNil, tC, tVar, L2.tOp, L2.tUn, tSeq, tAsg, gName, tIfS, tTest, tNext, tAnd, tOr, tNot, L2.tIf, tFld, sFld, sFldAug, tCall, tTup, tB, tAug, tDrop, L2.tSl, tPart, tNoPart, tBM, tBM0, tChain, gTup, gCons, gNil, tPar, tIs, List.set, L2.start, iTup, L2.iList, L2.iRng1, tUn, tLst, tTest, gSub, tCall, L2.tIf, tCB, rRep, List.set, List.cons_append, List.nil_append, cxOf]
    obtain ⟨c, e0⟩ := ints_fst ns
    refine ⟨_, rfl, sl (Nat.le_of_ble_eq_true rfl), fun b nb => ?_⟩
    have s1 := same_new (o := .lst [V.int 0]) nb
    refine ⟨a, b, ns.map V.int, _, rfl, rfl, sql_up q2 s1, upd_same, sl (by rw [List.length_map]; show ns.length + 1 ≤ _; omega), fun p np => ?_⟩
    refine ⟨p, _, _, _, rfl, rfl, .inl (.inl upd_same), atI_nat (j := 0) e0, c, rfl, fun l nl => ?_⟩
    have sr0 : Sr l (upd (upd (upd H2 b (.lst [V.int 0])) p (.lst (ns.map V.int ++ [V.int 0]))) l (.lst [V.int c, V.int c, V.int 0])) := ⟨c, c, 0, upd_same⟩
    generalize upd (upd (upd H2 b (.lst [V.int 0])) p (.lst (ns.map V.int ++ [V.int 0]))) l (.lst [V.int c, V.int c, V.int 0]) = G0 at sr0 ⊢
    refine ⟨_, rfl, take_use sr0 (by decide) (by decide) fun r H3 r0 r1 st3 kp3 sr3 => ⟨1, r, rfl, rfl, ?_⟩⟩
    refine ⟨encF ("f", xTimes (1 + r) (xRun "q")), ?c1, fun v4 H4 s4 d4 => ⟨sl (Nat.le_of_ble_eq_true rfl), fun rl nrl => ?_⟩⟩
    case c1 =>
      (repeat' (first | exact rfl | exact ⟨_, rfl, Dat.int _⟩ | exact ⟨_, rfl, by assumption⟩ | refine ⟨_, rfl, Nat.le_of_ble_eq_true rfl, ?_⟩ | refine ⟨_, _, rfl, ?_, ?_⟩))
    have sr4 := sr3.up s4
    have rnl : rl ≠ l := sr4.ne nrl
    have sr5 := sr4.up (same_new (o := .lst [v4]) nrl)
    have ld5 : LD K (upd H4 rl (.lst [v4])) rl ([(("f" : Str), xTimes (1 + r) (xRun "q"))].map encF) := ⟨[v4], upd_same, .cons (d4.up (same_stay (same_new nrl))) .nil⟩
    generalize upd H4 rl (.lst [v4]) = H5 at sr5 ld5 ⊢
    refine loop_in ?_
    try dsimp only [L2.tRet, L2.tRetN, tAndV, tOrV, tNotV, tCB, L2.tCons, L2.tNil, tC, tVar, L2.tOp, L2.tUn, tSeq, tAsg, gName, tIfS, tTest, tNext, tAnd, tOr, tNot, L2.tIf, tFld, sFld, sFldAug, tCall, tTup, tB, tAug, tDrop, L2.tSl, tPart, tNoPart, tBM, tBM0, tChain, gTup, gCons, gNil, tPar, tIs, List.set, L2.start, iTup, L2.iList, L2.iRng1, tUn, tLst, tTest, gSub, tCall, L2.tIf, tCB, rRep, List.set, List.cons_append, List.nil_append, cxOf]
    refine ⟨sl (Nat.le_of_ble_eq_true rfl), fun t1 n1 => ⟨sl (Nat.le_of_ble_eq_true rfl), fun t2 n2 => ⟨sl (Nat.le_of_ble_eq_true rfl), fun p3 n3 => ?_⟩⟩⟩
    have ne12 : t1 ≠ t2 := ne_of_none upd_same n2
    have w1 := same_new (o := .tup [V.str "g", V.str "f"]) n1
    have w2 := same_new (o := .tup [V.str "h", V.str "g"]) n2
    have w3 := same_new (o := .lst [V.ref t1, V.ref t2]) n3
    have w := (w1.trans w2).trans w3
    have f1 := (w2.trans w3) _ _ (upd_same (H := H5) (a := t1) (o := .tup [V.str "g", V.str "f"]))
    have f2 := w3 _ _ (upd_same (H := upd H5 t1 (.tup [V.str "g", V.str "f"])) (a := t2) (o := .tup [V.str "h", V.str "g"]))
    have f3 : upd (upd (upd H5 t1 (.tup [V.str "g", V.str "f"])) t2 (.tup [V.str "h", V.str "g"])) p3 (.lst [V.ref t1, V.ref t2]) p3 = some (.lst [V.ref t1, V.ref t2]) := upd_same
    obtain ⟨xs5, ex5, dx5⟩ := ld5
    have nrp : p3 ≠ rl := Ne.symm (ne_of_none (show _ = some (HO.lst xs5) from (w1.trans w2) _ _ ex5) n3)
    have npl : p3 ≠ l := by
      obtain ⟨a5, c5, k5, e5⟩ := sr5
      exact Ne.symm (ne_of_none (show _ = some (HO.lst [V.int a5, V.int c5, V.int k5]) from (w1.trans w2) _ _ e5) n3)
    have ld6 : LD K (upd (upd (upd H5 t1 (.tup [V.str "g", V.str "f"])) t2 (.tup [V.str "h", V.str "g"])) p3 (.lst [V.ref t1, V.ref t2])) rl (((rows3 (1 + r) 0 0).take 1).map encF) := LD.up ⟨xs5, ex5, dx5⟩ w
    have sr6 := sr5.up w
    generalize upd (upd (upd H5 t1 (.tup [V.str "g", V.str "f"])) t2 (.tup [V.str "h", V.str "g"])) p3 (.lst [V.ref t1, V.ref t2]) = H6 at f1 f2 f3 ld6 sr6 ⊢
    clear w w1 w2 w3 n1 n2 n3
    refine ⟨p3, rfl, ⟨_, .inl (.inl f3)⟩, ?_⟩
    refine loop_list (K := K) (a := p3) (xs := [V.ref t1, V.ref t2]) (fun i σ H' => H' p3 = some (.lst [V.ref t1, V.ref t2]) ∧ H' t1 = some (.tup [V.str "g", V.str "f"]) ∧ H' t2 = some (.tup [V.str "h", V.str "g"]) ∧ Sr l H' ∧ ∃ b c v1 v5 v6 v7, 0 ≤ b ∧ b ≤ 3 ∧ 0 ≤ c ∧ c ≤ 3 ∧ σ = [some (.ref a), v1, some (.ref l), some (.int (1 + r)), some (.ref rl), v5, v6, v7, none, none] ∧ LD K H' rl (((rows3 (1 + r) b c).take (i + 1)).map encF)) ⟨f3, f1, f2, sr6, 0, 0, _, _, _, _, by decide, by decide, by decide, by decide, rfl, ld6⟩ (fun _ _ _ _ z => .inl (.inl z.1)) ?hs ?hd
    case hs =>
      rintro i x σ H7 hx ⟨g3, g1, g2, sr7, b, c, v1, v5, v6, v7, b0, b1, c0, c1, rfl, ld7⟩
      have key : ∃ t z u, x = .ref t ∧ H7 t = some (.tup [.str z, .str u]) ∧ z.length ≤ 100 ∧ u.length ≤ 100 ∧ ∀ n : Int, 0 ≤ n → n ≤ 3 → ∃ b' c', 0 ≤ b' ∧ b' ≤ 3 ∧ 0 ≤ c' ∧ c' ≤ 3 ∧ (rows3 (1 + r) b' c').take (i + 1 + 1) = (rows3 (1 + r) b c).take (i + 1) ++ [(z, xRow u n)] := by
        match i, hx with
        | 0, hx =>
          cases hx
          exact ⟨t1, _, _, rfl, g1, by decide +kernel, by decide +kernel, fun n h1 h2 => ⟨n, c, h1, h2, c0, c1, rfl⟩⟩
        | 1, hx =>
          cases hx
          exact ⟨t2, _, _, rfl, g2, by decide +kernel, by decide +kernel, fun n h1 h2 => ⟨b, n, b0, b1, h1, h2, rfl⟩⟩
        | i + 2, hx => cases hx
      obtain ⟨t, z, u, rfl, gt, zl, ul, key⟩ := key
      try dsimp only [L2.tRet, L2.tRetN, tAndV, tOrV, tNotV, tCB, L2.tCons, L2.tNil, tC, tVar, L2.tOp, L2.tUn, tSeq, tAsg, gName, tIfS, tTest, tNext, tAnd, tOr, tNot, L2.tIf, tFld, sFld, sFldAug, tCall, tTup, tB, tAug, tDrop, L2.tSl, tPart, tNoPart, tBM, tBM0, tChain, gTup, gCons, gNil, tPar, tIs, List.set, L2.start, iTup, L2.iList, L2.iRng1, tUn, tLst, tTest, gSub, tCall, L2.tIf, tCB, rRep, List.set, List.cons_append, List.nil_append, cxOf]
      refine ⟨t, _, rfl, sqt gt, rfl, _, _, rfl, _, _, rfl, rfl, ?_⟩
      try dsimp only [L2.tRet, L2.tRetN, tAndV, tOrV, tNotV, tCB, L2.tCons, L2.tNil, tC, tVar, L2.tOp, L2.tUn, tSeq, tAsg, gName, tIfS, tTest, tNext, tAnd, tOr, tNot, L2.tIf, tFld, sFld, sFldAug, tCall, tTup, tB, tAug, tDrop, L2.tSl, tPart, tNoPart, tBM, tBM0, tChain, gTup, gCons, gNil, tPar, tIs, List.set, L2.start, iTup, L2.iList, L2.iRng1, tUn, tLst, tTest, gSub, tCall, L2.tIf, tCB, rRep, List.set, List.cons_append, List.nil_append, cxOf]
      refine ⟨_, rfl, take_use sr7 (by decide) (by decide) fun n H8 n0 n1 st8 kp8 sr8 => ?_⟩
      refine ⟨.tup [.str "call", .str u], ?c1, fun v8 H9 s9 d9 => ⟨sl (Nat.le_of_ble_eq_true rfl), fun p8 n8 => ?_⟩⟩
      case c1 => exact ⟨_, rfl, Nat.le_of_ble_eq_true rfl, _, _, rfl, rfl, _, _, rfl, ⟨_, rfl, .str ul⟩, rfl⟩
      have d8 : Dr l H7 H8 := ⟨fun p o n z => (kp8 p n).trans z, st8, sr8⟩
      have s10 := s9.trans (same_new (o := .tup [V.str "times", V.int n, v8]) n8)
      have dt : Dat K (upd H9 p8 (.tup [V.str "times", V.int n, v8])) (.ref p8) (enc (xTimes n (xCall u))) := Dats.tup (.cons (.str (by decide +kernel)) (.cons (.int n) (.cons (d9.up (same_stay (same_new n8))) .nil))) upd_same
      have ld10 := (ld7.dr d8 rnl).up s10
      have h3 := s10 _ _ (d8.keep _ _ npl g3)
      have h1 := s10 _ _ (st8 _ _ g1)
      have h2 := s10 _ _ (st8 _ _ g2)
      have sr10 := sr8.up s10
      generalize upd H9 p8 (.tup [V.str "times", V.int n, v8]) = H10 at dt ld10 h1 h2 h3 sr10 ⊢
      obtain ⟨xs, ex, dx⟩ := ld10
      have few : xs.length ≤ 10 := by
        rw [dx.len, List.length_map, List.length_take]
        have : (rows3 (1 + r) b c).length = 3 := rfl
        omega
      refine ⟨_, rfl, .inl ⟨rfl, _, .inl (.inl ex)⟩, encF (z, xRow u n), ?c2, fun v11 H11 s11 d11 => ?_⟩
      case c2 =>
        have z1 : Dat K H10 (.str z) (.str z) := .str zl
        have u1 : Dat K H10 (.str u) (.str u) := .str ul
        (repeat' (first | exact rfl | exact ⟨_, rfl, z1⟩ | exact ⟨_, rfl, u1⟩ | exact ⟨_, rfl, dt⟩ | refine ⟨_, rfl, Nat.le_of_ble_eq_true rfl, ?_⟩ | refine ⟨_, _, rfl, ?_, ?_⟩))
      refine ⟨rl, _, _, rfl, rfl, s11 _ _ ex, Nat.lt_of_lt_of_le (show _ < 1000 by omega) (sl (by decide)), ?_⟩
      obtain ⟨b', c', b0, b1, c0, c1, ek⟩ := key n n0 (by omega)
      have st11 : Stay H11 (upd H11 rl (.lst (xs ++ [v11]))) := by
        intro b ys zz
        rw [upd_ne (by rintro rfl; rw [s11 _ _ ex] at zz; cases zz)]
        exact zz
      refine ⟨?_, st11 _ _ (s11 _ _ h1), st11 _ _ (s11 _ _ h2), ?_, b', c', v1, _, _, _, b0, b1, c0, c1, rfl, ?_⟩
      · rw [upd_ne nrp]
        exact s11 _ _ h3
      · obtain ⟨a9, c9, k9, e9⟩ := sr10
        exact ⟨a9, c9, k9, by rw [upd_ne (Ne.symm rnl)]; exact s11 _ _ e9⟩
      · rw [ek, List.map_append]
        exact ⟨_, upd_same, ((dx.up (same_stay s11)).app (.cons d11 .nil)).up st11⟩
    case hd =>
      rintro σ H7 ⟨g3, g1, g2, sr7, b, c, v1, v5, v6, v7, b0, b1, c0, c1, rfl, ld7⟩
      try dsimp only [L2.tRet, L2.tRetN, tAndV, tOrV, tNotV, tCB, L2.tCons, L2.tNil, tC, tVar, L2.tOp, L2.tUn, tSeq, tAsg, gName, tIfS, tTest, tNext, tAnd, tOr, tNot, L2.tIf, tFld, sFld, sFldAug, tCall, tTup, tB, tAug, tDrop, L2.tSl, tPart, tNoPart, tBM, tBM0, tChain, gTup, gCons, gNil, tPar, tIs, List.set, L2.start, iTup, L2.iList, L2.iRng1, tUn, tLst, tTest, gSub, tCall, L2.tIf, tCB, rRep, List.set, List.cons_append, List.nil_append, cxOf]
      have ld8 : LD K H7 rl ((rows3 (1 + r) b c).map encF) := ld7
      refine ⟨encP (rows3 (1 + r) b c) main3, ?d1, fun vP H8 s8 dP => ?_⟩
      case d1 =>
        (repeat' (first | exact rfl | exact ⟨_, rfl, _, rfl, ld8⟩ | refine ⟨_, rfl, Nat.le_of_ble_eq_true rfl, ?_⟩ | refine ⟨_, _, rfl, ?_, ?_⟩))
      refine ⟨encP [] (.mk true "seq" [] (wideK 700) []), ?d2, fun vW H9 s9 dW => ?_⟩
      case d2 =>
        have few2 : ([enc (xRun "a"), enc (xVar "give")] : List T).length ≤ 100 := by decide
        (repeat' (first | exact rfl | refine ⟨_, rfl, Nat.le_of_ble_eq_true rfl, ?_⟩ | refine ⟨_, _, rfl, ?_, ?_⟩ | refine ⟨_, rfl, _, 700, wide_encs 700, few2, by decide, ⟨by decide, ?_⟩, rfl⟩))
      refine ⟨_, rfl, vP, _, _, rfl, dP.up (same_stay s9), prog3 (by omega) (by omega) b0 b1 c0 c1, fun H10 s10 => ⟨true, rfl, if_yes rfl ⟨_, rfl, vW, [], _, rfl, dW.up (same_stay s10), prog_wide, fun H11 s11 => ⟨true, rfl, if_yes rfl ?_⟩⟩⟩⟩
      refine ⟨encP [] (xTimes 0 (xRun "a")), ?d3, fun v12 H12 s12 d12 => ⟨v12, [], _, rfl, d12, prog_none, fun H13 _ => q _⟩⟩
      case d3 =>
        (repeat' (first | exact rfl | refine ⟨_, rfl, Nat.le_of_ble_eq_true rfl, ?_⟩ | refine ⟨_, _, rfl, ?_, ?_⟩))
end
end Ck

/-! The end: what stands of the module, and the law from nowhere. -/
namespace Ck
open PySem PySem.Spec PyProof.Rows L2 PySem.ErrKw
abbrev bmE (S : Addr) : List Value := [.ref S, .type "ValueError", .type "Exception", .type "BaseException", .type "object"]
/-- every text at the third place of a record is the program's own file -/
def filAll (file : Str) : PySem.W.Frag → Bool
  | [] => true
  | (_, o) :: r => (match o.data with | Data.fields fs => (match (fs[2]? : Option Value) with | some (Value.str z _) => file == z | _ => true) | _ => true) && filAll file r
theorem fil_of {file : Str} : ∀ {K : PySem.W.Frag}, filAll file K = true → ∀ cda ccl cdd fs ccs z tf, K.lookup cda = some ⟨ccl, cdd, .fields fs, ccs⟩ → fs[2]? = some (.str z tf) → (file == z) = true
  | [], _, _, _, _, _, _, _, _, l, _ => by cases l
  | (a, o) :: r, h, cda, ccl, cdd, fs, ccs, z, tf, l, e => by
    unfold filAll at h
    rw [Bool.and_eq_true] at h
    obtain ⟨h1, h2⟩ := h
    rw [List.lookup_cons] at l
    split at l
    · cases l
      simp only at h1
      rw [e] at h1
      exact h1
    · exact fil_of h2 cda ccl cdd fs ccs z tf l e
theorem with_fil {K : PySem.W.Frag} {h : Heap} {R : Prop} (file : Str) (_ : K.In h) (a : filAll file K = true) (tp : PySem.W.nsIn K cStatics "thirdparty.any" = some none)
    (next : filAll file K = true → PySem.W.nsIn K cStatics "thirdparty.any" = some none → R) : R := next a tp
theorem with_err {P : Program} {K : PySem.W.Frag} {h : Heap} {mg : Str → Option Value} {C F S cda cc : Addr} {nm q : Str} {N : Addr} {bs : List Value} {sn : List Str} {sub : List Value} {ab : Bool} {col : Option Bool} {dd : Option Addr} {m0 m1 m2 m3 m5 : Option Value} {R : Prop}
    {qn msg : Str} {k : Nat} {oc doc pm ct ccl cll : Value} {od an cdd cld : Option Addr} {osl ccs csl : Array (Option Value)} {fs : Array Value} {tf : Tok} {p1 p2 q1 q2 q3 q4 q5 q6 q7 q8 q9 q10 : Pos}
    (x f : Str) (X : K.In h) (G : h.Ns mainGlobals mg) (sup : mg "super" = none) (tp : PySem.W.nsIn K cStatics "thirdparty.any" = some none) (top : (P.main.scope.names.lookup ("super" : Str)).isSome = false) (fil : filAll P.main.file K = true)
    (kl : (iScope f).names.lookup f = some .local) (vs : f ≠ "self") (nd : (f == ("__debug__" : Str)) = false) (ks : (iScope f).names.lookup ("super" : Str) = some .globalImplicit) (kc : (iScope f).names.lookup ("__class__" : Str) = some .free)
    (aC : PySem.W.nsIn K mainGlobals x = some (some (.ref C)))
    (xL : K.lookup C = some (excClassObj nm q C N bs (bmE S) true sn sub ab col dd m0 m1 m2 m3 m5 "ValueError.__new__"))
    (iC : PySem.W.findIn K (.ref C) "__init__" = some (some (.ref F))) (tI : PySem.W.typeIn K (.ref F) = some (.type "function"))
    (l1 : K.lookup F = some ⟨oc, od, .func (PySem.W.ksFn "__init__" qn (iArgs f p1 p2) (iBody f msg k q1 q2 q3 q4 q5 q6 q7 q8 q9 q10) (iScope f) .none .none doc pm an (.ref cda) ct cc), osl⟩)
    (c1 : PySem.W.codeIn K (.ref cda) qn = true) (l2 : K.lookup cda = some ⟨ccl, cdd, .fields fs, ccs⟩) (l3 : K.lookup cc = some ⟨cll, cld, .cell (some (.ref C)), csl⟩) (f2 : fs[2]? = some (.str P.main.file tf))
    (rd : Reads0 msg k q1 q2 q3 q4 q5)
    (su : PySem.W.ks_superIn K C C "__init__" = some (some (.builtin "ValueError.__init__"))) (qi : PySem.W.excInitIn K C [.type "ValueError", .type "Exception", .type "BaseException", .type "object"] "ValueError.__new__" = true)
    (sa : PySem.W.findIn K (.ref C) "__setattr__" = some (some (.builtin "object.__setattr__"))) (no : PySem.W.findIn K (.ref C) f = some none) (ve : PySem.W.subIn K (.ref C) (.type "ValueError") = some true) (me : PySem.W.mroIn K C (.ref C) = some true)
    (kC : PySem.W.keepIn K (.ref C) = true) (ga : PySem.W.findIn K (.ref C) "__getattribute__" = some (some (.builtin "BaseException.__getattribute__"))) (gg : PySem.W.findIn K (.ref C) "__getattr__" = some none)
    (exC : PySem.W.subIn K (.ref C) (.type "BaseException") = some true) (hdC : PySem.W.hasDictIn K C = true) (ca : PySem.W.findIn K (.ref C) "__class__" = some (some (.builtin "object.__class__")))
    (cg : PySem.W.specialIn K (.builtin "object.__class__") "__get__" = some (some (.builtin "getset_descriptor.__get__"))) (ck : PySem.W.takesIn K (.builtin "object.__class__") = some true) (mo : PySem.W.mroIn K C (.type "object") = some true) (isC : PySem.W.isClsIn K C = true)
    (next : ErrC P K mg x f C F → R) : R :=
  next
    { own := { cls := ⟨nm, q, N, bs, bmE S, sn, sub, ab, col, dd, m0, m1, m2, m3, m5, xL, rfl⟩, sa := sa, no := no, su := su, ve := ve, me := me, tp := tp, qi := qi, kl := kl, vs := vs, nd := nd, ks := ks, kc := kc,
               fn := ⟨qn, msg, k, oc, doc, pm, ct, ccl, cll, od, an, cdd, cld, osl, ccs, csl, cda, cc, fs, P.main.file, tf, p1, p2, q1, q2, q3, q4, q5, q6, q7, q8, q9, q10, l1, c1, l2, f2, l3, rd⟩ },
      gC := PySem.W.mg_of X G aC, kC := kC, iC := iC, tI := tI, ga := ga, gg := gg, exC := exC, hdC := hdC, ca := ca, cg := cg, ct := ck, mo := mo, isC := isC, sup := sup, top := top, fil := fil_of fil }
/-- a def of the module, at its place -/
structure DefA (K : PySem.W.Frag) (mg : Str → Option Value) (x : Str) (st : Stmt) (ps : List Str) (f : Addr) : Prop where
  ex : ∃ fd, Fun K x x st f fd ∧ mg x = some (.ref f) ∧ PySem.W.keepIn K (.ref f) = true ∧ Binds K fd ps [] ∧ ∀ (s : Shared) (us : List Value), us.length = ps.length → BindsTo s fd ⟨us, []⟩ (ps.zip us)
theorem DefA.def {K : PySem.W.Frag} {mg : Str → Option Value} {x : Str} {st : Stmt} {ps : List Str} {f : Addr} (D : DefA K mg x st ps f) : Def K mg x st ps := by
  obtain ⟨fd, F, g, k, b, _⟩ := D.ex
  exact ⟨f, fd, F, g, k, b⟩
theorem DefA.at_ {K : PySem.W.Frag} {mg : Str → Option Value} {x : Str} {st : Stmt} {ps : List Str} {f : Addr} (D : DefA K mg x st ps f) : mg x = some (.ref f) := by
  obtain ⟨_, _, g, _⟩ := D.ex
  exact g
theorem with_defA {K : PySem.W.Frag} {h : Heap} {mg : Str → Option Value} {R : Prop} {f : Addr} {oc kV doc pm cdv ct : Value} {od an : Option Addr} {osl : Array (Option Value)} (x : Str) (st : Stmt) (ps : List Str) (X : K.In h) (G : h.Ns mainGlobals mg)
    (hb : ∀ (kV doc pm : Value) (an : Option Addr) (cdv ct : Value) (us : List Value), us.length = ps.length → bindArgs (PySem.W.fnOf x x (defArgs st) (defBody st) (defScope st) .none kV doc pm an cdv ct) ⟨us, []⟩ = pure (ps.zip us))
    (a : PySem.W.nsIn K mainGlobals x = some (some (.ref f))) (l : K.lookup f = some ⟨oc, od, .func (PySem.W.fnOf x x (defArgs st) (defBody st) (defScope st) .none kV doc pm an cdv ct), osl⟩) (c : PySem.W.codeIn K cdv x = true) (k : PySem.W.keepIn K (.ref f) = true)
    (next : DefA K mg x st ps f → R) : R :=
  next ⟨_, fun_mk l c k, PySem.W.mg_of X G a, k, (fun_mk l c k).binds hb, fun s us hu => .of_eq (hb _ _ _ _ _ _ us hu)⟩
/-- a def that may be called by place or by word -/
structure DefK (K : PySem.W.Frag) (mg : Str → Option Value) (x : Str) (st : Stmt) (ps : List Str) : Prop where
  ex : ∃ f fd, Fun K x x st f fd ∧ mg x = some (.ref f) ∧ PySem.W.keepIn K (.ref f) = true ∧ Binds K fd ps [] ∧ KBinds K fd ps ps (fun us ws => us ++ ws) (fun vs zs => vs ++ zs)
theorem DefK.goK {P : Program} {w : World} {base : Heap} {CX : CXT} {sp : Sp} {n : Nat} {K : PySem.W.Frag} {mg : Str → Option Value} {x : Str} {st : Stmt} {ps : List Str} (D : DefK K mg x st ps) (h : ∀ f fd, Fun K x x st f fd → FnOk P w K mg base CX n f fd ps sp) : GoK P w K mg base CX n x ps sp := by
  obtain ⟨f, fd, F, g, k, b, kb⟩ := D.ex
  exact ⟨f, fd, h f fd F, g, k, b, kb⟩
theorem vals_app {vs zs : List V} {us ws : List Value} (a : Vals vs us) (b : Vals zs ws) : Vals (vs ++ zs) (us ++ ws) := by
  induction a with
  | nil => exact b
  | cons h _ ih => exact .cons h ih
theorem with_defK {K : PySem.W.Frag} {h : Heap} {mg : Str → Option Value} {R : Prop} {f : Addr} {oc kV doc pm cdv ct : Value} {od an : Option Addr} {osl : Array (Option Value)} (x : Str) (st : Stmt) (ps : List Str) (X : K.In h) (G : h.Ns mainGlobals mg)
    (hb : ∀ (kV doc pm : Value) (an : Option Addr) (cdv ct : Value) (us : List Value), us.length = ps.length → bindArgs (PySem.W.fnOf x x (defArgs st) (defBody st) (defScope st) .none kV doc pm an cdv ct) ⟨us, []⟩ = pure (ps.zip us))
    (hk : ∀ (kV doc pm : Value) (an : Option Addr) (cdv ct : Value) (us ws : List Value), (us ++ ws).length = ps.length → bindArgs (PySem.W.fnOf x x (defArgs st) (defBody st) (defScope st) .none kV doc pm an cdv ct) ⟨us, ps.zip ws⟩ = pure (ps.zip (us ++ ws)))
    (a : PySem.W.nsIn K mainGlobals x = some (some (.ref f))) (l : K.lookup f = some ⟨oc, od, .func (PySem.W.fnOf x x (defArgs st) (defBody st) (defScope st) .none kV doc pm an cdv ct), osl⟩) (c : PySem.W.codeIn K cdv x = true) (k : PySem.W.keepIn K (.ref f) = true)
    (next : DefK K mg x st ps → R) : R :=
  next ⟨_, _, fun_mk l c k, PySem.W.mg_of X G a, k, (fun_mk l c k).binds hb, ⟨fun _ us ws _ hu => .of_eq (hk _ _ _ _ _ _ us ws hu), vals_app⟩⟩
/-! ### the class of checks -/
structure ClA (K : PySem.W.Frag) (mg : Str → Option Value) (C fN : Addr) : Prop where
  cl : Cls K C
  n1 : NoAttr K C "trees"
  n2 : NoAttr K C "commands"
  n3 : NoAttr K C "variables"
  n4 : NoAttr K C "unfolded"
  n5 : NoAttr K C "functions"
  n6 : NoAttr K C "places"
  n7 : NoAttr K C "loops"
  n8 : NoAttr K C "returns"
  init : ∃ fd, Fun K "__init__" "Check.__init__" sInit fN fd ∧ Binds K fd ["self"] []
  mkk : Mk K C fN
  gC : mg "Check" = some (.ref C)
theorem with_cls {K : PySem.W.Frag} {h : Heap} {mg : Str → Option Value} {R : Prop} {C f : Addr} {oc kV doc pm cdv ct : Value} {od an : Option Addr} {osl : Array (Option Value)} (X : K.In h) (G : h.Ns mainGlobals mg)
    (aC : PySem.W.nsIn K mainGlobals "Check" = some (some (.ref C)))
    (a1 : PySem.W.findIn K (.ref C) "__init__" = some (some (.ref f))) (i1 : PySem.W.isFn K (.ref f) = true) (l1 : K.lookup f = some ⟨oc, od, .func (PySem.W.fnOf "__init__" "Check.__init__" (defArgs sInit) (defBody sInit) (defScope sInit) .none kV doc pm an cdv ct), osl⟩) (c1 : PySem.W.codeIn K cdv "Check.__init__" = true) (k1 : PySem.W.keepIn K (.ref f) = true)
    (pg : PySem.W.plainGet K C Str.empty = true) (hd : PySem.W.hasDictIn K C = true) (po : PySem.W.plainOver K C = true) (sa : PySem.W.findIn K (.ref C) "__setattr__" = some (some (.builtin "object.__setattr__"))) (mk : PySem.W.makesIn K C = true) (kc : PySem.W.keepIn K (.ref C) = true)
    (n1 : PySem.W.findIn K (.ref C) "trees" = some none) (n2 : PySem.W.findIn K (.ref C) "commands" = some none) (n3 : PySem.W.findIn K (.ref C) "variables" = some none) (n4 : PySem.W.findIn K (.ref C) "unfolded" = some none) (n5 : PySem.W.findIn K (.ref C) "functions" = some none) (n6 : PySem.W.findIn K (.ref C) "places" = some none) (n7 : PySem.W.findIn K (.ref C) "loops" = some none) (n8 : PySem.W.findIn K (.ref C) "returns" = some none)
    (next : ClA K mg C f → R) : R :=
  next ⟨⟨pg, hd, po, sa⟩, n1, n2, n3, n4, n5, n6, n7, n8, ⟨_, fun_mk (st := sInit) l1 c1 k1, (fun_mk (st := sInit) l1 c1 k1).binds fun _ _ _ _ _ _ us hl => match us, hl with | [_], _ => rfl⟩, ⟨mk, a1, i1, kc⟩, PySem.W.mg_of X G aC⟩
/-! ### the names of the module -/
structure MdA (mg : Str → Option Value) : Prop where
  mi : mg "isinstance" = none
  ml : mg "len" = none
  mm : mg "min" = none
  mint : mg "int" = none
  mbool : mg "bool" = none
  mstr : mg "str" = none
  mtup : mg "tuple" = none
  mrange : mg "range" = none
  menum : mg "enumerate" = none
  msum : mg "sum" = none
  mmax : mg "max" = none
  mlist : mg "list" = none
  msorted : mg "sorted" = none
  mset : mg "set" = none
  ln : ∃ t, mg "LONGEST_NAME" = some (.int 12 t)
  mf : ∃ t, mg "MOST_FUNCTIONS" = some (.int 20 t)
  mt : ∃ t, mg "MOST_TREES" = some (.int 3000 t)
  mv : ∃ t, mg "MOST_VARIABLES" = some (.int 40 t)
  mu : ∃ t, mg "MOST_UNFOLDED" = some (.int 3000 t)
  lp : ∃ t, mg "LONGEST_PATH" = some (.int 60 t)
  gn : ∃ t, mg "GREATEST_NUMBER" = some (.int 255 t)
  mr : ∃ t, mg "MOST_ROUNDS" = some (.int 1000 t)
theorem with_names {K : PySem.W.Frag} {h : Heap} {mg : Str → Option Value} {R : Prop} {t1 t2 t3 t4 t5 t6 t7 t8 : Tok} (X : K.In h) (G : h.Ns mainGlobals mg)
    (z1 : PySem.W.nsIn K mainGlobals "isinstance" = some none) (z2 : PySem.W.nsIn K mainGlobals "len" = some none) (z3 : PySem.W.nsIn K mainGlobals "min" = some none) (z4 : PySem.W.nsIn K mainGlobals "int" = some none) (z5 : PySem.W.nsIn K mainGlobals "bool" = some none) (z6 : PySem.W.nsIn K mainGlobals "str" = some none) (z7 : PySem.W.nsIn K mainGlobals "tuple" = some none) (z8 : PySem.W.nsIn K mainGlobals "range" = some none) (z9 : PySem.W.nsIn K mainGlobals "enumerate" = some none) (z10 : PySem.W.nsIn K mainGlobals "sum" = some none) (z11 : PySem.W.nsIn K mainGlobals "max" = some none) (z12 : PySem.W.nsIn K mainGlobals "list" = some none) (z13 : PySem.W.nsIn K mainGlobals "sorted" = some none) (z14 : PySem.W.nsIn K mainGlobals "set" = some none)
    (c1 : PySem.W.nsIn K mainGlobals "LONGEST_NAME" = some (some (.int 12 t1))) (c2 : PySem.W.nsIn K mainGlobals "MOST_FUNCTIONS" = some (some (.int 20 t2))) (c3 : PySem.W.nsIn K mainGlobals "MOST_TREES" = some (some (.int 3000 t3))) (c4 : PySem.W.nsIn K mainGlobals "MOST_VARIABLES" = some (some (.int 40 t4)))
    (c5 : PySem.W.nsIn K mainGlobals "MOST_UNFOLDED" = some (some (.int 3000 t5))) (c6 : PySem.W.nsIn K mainGlobals "LONGEST_PATH" = some (some (.int 60 t6))) (c7 : PySem.W.nsIn K mainGlobals "GREATEST_NUMBER" = some (some (.int 255 t7))) (c8 : PySem.W.nsIn K mainGlobals "MOST_ROUNDS" = some (some (.int 1000 t8)))
    (next : MdA mg → R) : R :=
  next ⟨PySem.W.mg_none_of X G z1, PySem.W.mg_none_of X G z2, PySem.W.mg_none_of X G z3, PySem.W.mg_none_of X G z4, PySem.W.mg_none_of X G z5, PySem.W.mg_none_of X G z6, PySem.W.mg_none_of X G z7, PySem.W.mg_none_of X G z8, PySem.W.mg_none_of X G z9, PySem.W.mg_none_of X G z10, PySem.W.mg_none_of X G z11, PySem.W.mg_none_of X G z12, PySem.W.mg_none_of X G z13, PySem.W.mg_none_of X G z14,
    ⟨_, PySem.W.mg_of X G c1⟩, ⟨_, PySem.W.mg_of X G c2⟩, ⟨_, PySem.W.mg_of X G c3⟩, ⟨_, PySem.W.mg_of X G c4⟩, ⟨_, PySem.W.mg_of X G c5⟩, ⟨_, PySem.W.mg_of X G c6⟩, ⟨_, PySem.W.mg_of X G c7⟩, ⟨_, PySem.W.mg_of X G c8⟩⟩
/-! ### the two tables -/
theorem keys_cons {P : Params} {e : DictEntry} {r : List DictEntry} (h : ∃ x t, e.key = .str x t ∧ e.hash = PyData.keyHash P x) (t : PySem.W.KeysLit P r) : PySem.W.KeysLit P (e :: r) := ⟨h, t⟩
theorem keys_nil {P : Params} : PySem.W.KeysLit P [] := trivial
def keyStr (e : DictEntry) : Option Str × Value := (match e.key with | .str x _ => some x | _ => none, e.val)
theorem find_of (z : Str) : ∀ (l : List DictEntry) (kvs : List (Str × Value)), l.map keyStr = kvs.map (fun p => (some p.1, p.2)) → (∀ u, l.find? (fun e => e.key.isStr z) = some u → kvs.lookup z = some u.val) ∧ (l.find? (fun e => e.key.isStr z) = none → kvs.lookup z = none) ∧ (l.any fun e => e.refKey) = false
  | [], [], _ => ⟨fun u h => by simp at h, fun _ => rfl, rfl⟩
  | [], _ :: _, h => by simp at h
  | _ :: _, [], h => by simp at h
  | e :: r, (x, v) :: ks, h => by
    rw [List.map_cons, List.map_cons] at h
    injection h with h1 h2
    obtain ⟨i1, i2, i3⟩ := find_of z r ks h2
    obtain ⟨hs, key, val⟩ := e
    unfold keyStr at h1
    cases key with
    | str a t =>
      simp only [Prod.mk.injEq, Option.some.injEq] at h1
      obtain ⟨rfl, rfl⟩ := h1
      rw [List.find?_cons, List.lookup_cons, List.any_cons]
      have e1 : (Value.str a t).isStr z = (a == z) := rfl
      have e2 : (DictEntry.refKey ⟨hs, .str a t, val⟩) = false := rfl
      simp only [e1, e2, i3, Bool.or_self]
      cases c : (a == z) with
      | true =>
        have c2 : a = z := beq_iff_eq.mp c
        subst c2
        simp
      | false =>
        have c2 : (z == a) = false := by
          cases d : (z == a) with
          | false => rfl
          | true =>
            have d2 : z = a := beq_iff_eq.mp d
            subst d2
            simp at c
        rw [c2]
        exact ⟨i1, i2, trivial⟩
    | _ => simp at h1
theorem ns_of {K : PySem.W.Frag} {d : Addr} {cls : Value} {od : Option Addr} {es : Array DictEntry} {n : Nat} {sl : Array (Option Value)} {kvs : List (Str × Value)} (hl : K.lookup d = some ⟨cls, od, .dict es n, sl⟩) (hk : es.toList.map keyStr = kvs.map fun p => (some p.1, p.2)) (z : Str) : PySem.W.nsIn K d z = some (kvs.lookup z) := by
  obtain ⟨h1, h2, h3⟩ := find_of z es.toList kvs hk
  unfold PySem.W.nsIn
  rw [hl]
  simp only
  cases c : es.toList.find? (fun e => e.key.isStr z) with
  | some u =>
    simp only
    rw [h1 u c]
  | none =>
    simp only
    rw [h3, h2 c]
    rfl
theorem lookup_has (z : Str) : ∀ kvs : List (Str × Value), (kvs.lookup z).isSome = (kvs.map Prod.fst).contains z
  | [] => rfl
  | (x, v) :: r => by
    rw [List.lookup_cons, List.map_cons, List.contains_cons]
    cases c : (z == x) with
    | true => simp
    | false =>
      simp only [Bool.false_or]
      exact lookup_has z r
theorem lookup_map (g : Kind → Value) (z : Str) : ∀ ws : List (Str × Kind), (ws.map fun p => (p.1, g p.2)).lookup z = (ws.lookup z).map g
  | [] => rfl
  | (x, k) :: r => by
    rw [List.map_cons, List.lookup_cons, List.lookup_cons]
    cases c : (z == x) with
    | true => rfl
    | false => exact lookup_map g z r
def adr18 (a0 a1 a2 a3 a4 a5 a6 a7 a8 a9 a10 a11 a12 a13 a14 a15 a16 a17 : Addr) : Kind → Addr
  | .run => a0
  | .status => a1
  | .var => a2
  | .put => a3
  | .option => a4
  | .trap => a5
  | .seq => a6
  | .pipe => a7
  | .andor => a8
  | .not => a9
  | .sub => a10
  | .ife => a11
  | .whl => a12
  | .times => a13
  | .jump => a14
  | .call => a15
  | .ret => a16
  | .exit => a17
structure TbA (K : PySem.W.Frag) (w : World) (mg : Str → Option Value) (dR dS : Addr) (adr : Kind → Addr) : Prop where
  gR : mg "RESERVED" = some (.ref dR)
  gS : mg "SIZES" = some (.ref dS)
  kR : ∃ es n, KDict K w dR es n
  kS : ∃ es n, KDict K w dS es n
  inR : ∀ z, ∃ r, PySem.W.nsIn K dR z = some r ∧ r.isSome = reserved.contains z
  inS : ∀ z, PySem.W.nsIn K dS z = some ((kindOf z).map fun k => .ref (adr k))
theorem with_tables {K : PySem.W.Frag} {w : World} {h : Heap} {mg : Str → Option Value} {R : Prop} {dR dS : Addr} {esR esS : Array DictEntry} {nR nS : Nat} {f_run f_status f_var f_put f_option f_trap f_seq f_pipe f_andor f_not f_sub f_ife f_whl f_times f_jump f_call f_ret f_exit : Addr} (X : K.In h) (G : h.Ns mainGlobals mg)
    (D_run : DefA K mg "size_of_run" sRun ["check", "tree", "place"] f_run)
    (D_status : DefA K mg "size_of_status" sSta ["check", "tree", "place"] f_status)
    (D_var : DefA K mg "size_with_variable" sVar ["check", "tree", "place"] f_var)
    (D_put : DefA K mg "size_of_put" sPut ["check", "tree", "place"] f_put)
    (D_option : DefA K mg "size_of_option" sOpt ["check", "tree", "place"] f_option)
    (D_trap : DefA K mg "size_of_trap" sTra ["check", "tree", "place"] f_trap)
    (D_seq : DefA K mg "size_of_seq" sSeq ["check", "tree", "place"] f_seq)
    (D_pipe : DefA K mg "size_of_pipe" sPip ["check", "tree", "place"] f_pipe)
    (D_andor : DefA K mg "size_of_and_or" sAnd ["check", "tree", "place"] f_andor)
    (D_not : DefA K mg "size_of_not" sNot ["check", "tree", "place"] f_not)
    (D_sub : DefA K mg "size_of_sub" sSub ["check", "tree", "place"] f_sub)
    (D_ife : DefA K mg "size_of_if" sIff ["check", "tree", "place"] f_ife)
    (D_whl : DefA K mg "size_of_while" sWhi ["check", "tree", "place"] f_whl)
    (D_times : DefA K mg "size_of_times" sTim ["check", "tree", "place"] f_times)
    (D_jump : DefA K mg "size_of_jump" sJmp ["check", "tree", "place"] f_jump)
    (D_call : DefA K mg "size_of_call" sCal ["check", "tree", "place"] f_call)
    (D_ret : DefA K mg "size_of_return" sRet ["check", "tree", "place"] f_ret)
    (D_exit : DefA K mg "size_of_exit" sExi ["check", "tree", "place"] f_exit)
    (aR : PySem.W.nsIn K mainGlobals "RESERVED" = some (some (.ref dR))) (aS : PySem.W.nsIn K mainGlobals "SIZES" = some (some (.ref dS)))
    (lR : K.lookup dR = some { cls := .type "dict", data := .dict esR nR }) (lS : K.lookup dS = some { cls := .type "dict", data := .dict esS nS })
    (kR : PySem.W.KeysLit w.params esR.toList) (kS : PySem.W.KeysLit w.params esS.toList) (oR : (dR == sysModules) = false) (oS : (dS == sysModules) = false)
    (mR : ∃ vs : List (Str × Value), esR.toList.map keyStr = vs.map (fun p => (some p.1, p.2)) ∧ vs.map Prod.fst = reserved)
    (mS : esS.toList.map keyStr = (words.map fun p => (p.1, Value.ref (adr18 f_run f_status f_var f_put f_option f_trap f_seq f_pipe f_andor f_not f_sub f_ife f_whl f_times f_jump f_call f_ret f_exit p.2))).map fun p => (some p.1, p.2))
    (next : TbA K w mg dR dS (adr18 f_run f_status f_var f_put f_option f_trap f_seq f_pipe f_andor f_not f_sub f_ife f_whl f_times f_jump f_call f_ret f_exit) → R) : R := by
  refine next ⟨PySem.W.mg_of X G aR, PySem.W.mg_of X G aS, ⟨_, _, lR, kR, oR⟩, ⟨_, _, lS, kS, oS⟩, fun z => ?_, fun z => ?_⟩
  · obtain ⟨vs, e, f⟩ := mR
    exact ⟨_, ns_of lR e z, by rw [lookup_has, f]⟩
  · rw [ns_of lS mS z, lookup_map (fun k => Value.ref (adr18 f_run f_status f_var f_put f_option f_trap f_seq f_pipe f_andor f_not f_sub f_ife f_whl f_times f_jump f_call f_ret f_exit k))]
    rfl
theorem the_end {P : Program} {w : World} {K : PySem.W.Frag} {h : Heap} {mg : Str → Option Value} {fa IP fI C fN dR dS f_isInt f_isWithin f_isName f_isNew f_hasParts f_outline f_entry f_checked f_all f_into f_bar f_run f_status f_var f_put f_option f_trap f_seq f_pipe f_andor f_not f_sub f_ife f_whl f_times f_jump f_call f_ret f_exit f_lMixed f_lSource f_lTake f_lPick f_lSmall f_lBlock f_lTree f_lBod f_lWei f_lLig f_lWor f_lPlan f_lParts f_lAll f_lUnf f_lSizes f_lNames f_lRight f_lLaw : Addr} (X : K.In h) (G : h.Ns mainGlobals mg) (hfa : mg "law" = some (.ref fa))
    (E : ErrC P K mg "InvalidProgram" "path" IP fI) (tyC : PySem.W.typeIn K (.ref IP) = some (.type "type")) (sC : PySem.W.subIn K (.ref IP) (.ref IP) = some true)
    (Cl : ClA K mg C fN) (M : MdA mg) (T : TbA K w mg dR dS (adr18 f_run f_status f_var f_put f_option f_trap f_seq f_pipe f_andor f_not f_sub f_ife f_whl f_times f_jump f_call f_ret f_exit))
    (D_isInt : DefA K mg "is_integer" sIsInt ["value"] f_isInt)
    (D_isWithin : DefA K mg "is_integer_within" sIsWithin ["value", "least", "most"] f_isWithin)
    (D_isName : DefA K mg "is_name" sIsName ["value"] f_isName)
    (D_isNew : DefA K mg "is_new_name" sIsNew ["names", "value"] f_isNew)
    (D_hasParts : DefA K mg "has_parts" sHasParts ["tree"] f_hasParts)
    (D_outline : DefA K mg "is_outline" sOutline ["program"] f_outline)
    (D_entry : DefA K mg "is_entry" sEntry ["entry", "functions"] f_entry)
    (D_checked : DefA K mg "checked" sChecked ["program"] f_checked)
    (D_all : DefA K mg "size_of_all" sAll ["check", "trees", "place"] f_all)
    (D_into : DefA K mg "size_inside" sInto ["check", "parts", "place"] f_into)
    (D_bar : DefA K mg "size_behind_barrier" sBar ["check", "parts", "place"] f_bar)
    (D_run : DefA K mg "size_of_run" sRun ["check", "tree", "place"] f_run)
    (D_status : DefA K mg "size_of_status" sSta ["check", "tree", "place"] f_status)
    (D_var : DefA K mg "size_with_variable" sVar ["check", "tree", "place"] f_var)
    (D_put : DefA K mg "size_of_put" sPut ["check", "tree", "place"] f_put)
    (D_option : DefA K mg "size_of_option" sOpt ["check", "tree", "place"] f_option)
    (D_trap : DefA K mg "size_of_trap" sTra ["check", "tree", "place"] f_trap)
    (D_seq : DefA K mg "size_of_seq" sSeq ["check", "tree", "place"] f_seq)
    (D_pipe : DefA K mg "size_of_pipe" sPip ["check", "tree", "place"] f_pipe)
    (D_andor : DefA K mg "size_of_and_or" sAnd ["check", "tree", "place"] f_andor)
    (D_not : DefA K mg "size_of_not" sNot ["check", "tree", "place"] f_not)
    (D_sub : DefA K mg "size_of_sub" sSub ["check", "tree", "place"] f_sub)
    (D_ife : DefA K mg "size_of_if" sIff ["check", "tree", "place"] f_ife)
    (D_whl : DefA K mg "size_of_while" sWhi ["check", "tree", "place"] f_whl)
    (D_times : DefA K mg "size_of_times" sTim ["check", "tree", "place"] f_times)
    (D_jump : DefA K mg "size_of_jump" sJmp ["check", "tree", "place"] f_jump)
    (D_call : DefA K mg "size_of_call" sCal ["check", "tree", "place"] f_call)
    (D_ret : DefA K mg "size_of_return" sRet ["check", "tree", "place"] f_ret)
    (D_exit : DefA K mg "size_of_exit" sExi ["check", "tree", "place"] f_exit)
    (D_lMixed : DefA K mg "_law_mixed" sMixed ["_law_cell", "_law_draw"] f_lMixed)
    (D_lSource : DefA K mg "_law_source" sSource ["_law_cell"] f_lSource)
    (D_lTake : DefA K mg "_law_take" sTake ["_law_source_here", "_law_bound"] f_lTake)
    (D_lPick : DefA K mg "_law_pick" sPick ["_law_source_here", "_law_options"] f_lPick)
    (D_lSmall : DefA K mg "_law_small_tree" sSmall ["_law_source_here", "_law_loops", "_law_within", "_law_known"] f_lSmall)
    (D_lBlock : DefA K mg "_law_block" sBlock ["_law_source_here", "_law_many", "_law_deep", "_law_loops", "_law_within", "_law_known"] f_lBlock)
    (D_lTree : DefA K mg "_law_tree" sTree ["_law_source_here", "_law_deep", "_law_loops", "_law_within", "_law_known"] f_lTree)
    (D_lBod : DefA K mg "_law_trap_bodies" sBod ["_law_source_here", "_law_deep", "_law_known"] f_lBod)
    (D_lWei : DefA K mg "_law_weight" sWei ["_law_tree_here", "_law_sizes_here"] f_lWei)
    (D_lLig : DefA K mg "_law_light" sLig ["_law_tree_here", "_law_rows"] f_lLig)
    (D_lWor : DefA K mg "_law_worded" sWor ["_law_tree_here"] f_lWor)
    (D_lPlan : DefA K mg "_law_plan" sPlan ["_law_source_here", "_law_many", "_law_deep"] f_lPlan)
    (D_lParts : DefA K mg "_law_parts" sParts ["_law_tree_here"] f_lParts)
    (D_lAll : DefA K mg "_law_all" sAllT ["_law_tree_here"] f_lAll)
    (D_lUnf : DefA K mg "_law_unfolded" sUnf ["_law_tree_here", "_law_sizes_here"] f_lUnf)
    (D_lSizes : DefA K mg "_law_sizes" sSizes ["_law_plan_here"] f_lSizes)
    (D_lNames : DefA K mg "_law_names" sNames ["_law_plan_here"] f_lNames)
    (D_lRight : DefA K mg "_law_right" sRight ["_law_plan_here"] f_lRight)
    (D_lLaw : DefA K mg "law" sLaw ["_law_script"] f_lLaw)
    (D_lSize : DefK K mg "program_size" sSize ["program"])
    (D_lCmds : DefK K mg "command_names" sCmds ["program"]) :
    ∃ fd : FuncData, (∀ (s : Shared) (u : Value), BindsTo s fd ⟨[u], []⟩ [("_law_script", u)]) ∧ ∀ base : Heap, K.In base → base.Ns mainGlobals mg → FnOk P w K mg base CX0 105 fa fd ["_law_script"] (spLaw K) := by
  have te : PySem.W.exmOne K (.ref IP) (.ref IP) = some true := by
    simp [PySem.W.exmOne, PySem.W.kitCls, E.exC, E.isC, tyC, sC]
  have Md0 : Md K mg w dR dS (adr18 f_run f_status f_var f_put f_option f_trap f_seq f_pipe f_andor f_not f_sub f_ife f_whl f_times f_jump f_call f_ret f_exit) := ⟨M.mi, M.ml, M.mm, M.mint, M.mbool, M.mstr, M.mtup, M.ln, M.mf, M.mt, M.mv, M.mu, M.lp, M.gn, M.mr, T.gR, T.gS, T.kR, T.kS, T.inR, T.inS⟩
  have Z : Mc P K mg C IP fI := ⟨Cl.cl, Cl.n1, Cl.n2, Cl.n3, Cl.n4, Cl.n5, Cl.n6, Cl.n7, Cl.n8, ⟨E, tyC, te⟩⟩
  have Ds : Defs K mg C fN (adr18 f_run f_status f_var f_put f_option f_trap f_seq f_pipe f_andor f_not f_sub f_ife f_whl f_times f_jump f_call f_ret f_exit) := {
    isInt := D_isInt.def
    isWithin := D_isWithin.def
    isName := D_isName.def
    isNew := D_isNew.def
    hasParts := D_hasParts.def
    outline := D_outline.def
    entry := D_entry.def
    checked := D_checked.def
    all := D_all.def
    into := D_into.def
    bar := D_bar.def
    run := D_run.def
    status := D_status.def
    var := D_var.def
    put := D_put.def
    option := D_option.def
    trap := D_trap.def
    seq := D_seq.def
    pipe := D_pipe.def
    andor := D_andor.def
    not := D_not.def
    sub := D_sub.def
    ife := D_ife.def
    whl := D_whl.def
    times := D_times.def
    jump := D_jump.def
    call := D_call.def
    ret := D_ret.def
    exit := D_exit.def
    table := fun k => by
      cases k
      · exact D_run.at_
      · exact D_status.at_
      · exact D_var.at_
      · exact D_put.at_
      · exact D_option.at_
      · exact D_trap.at_
      · exact D_seq.at_
      · exact D_pipe.at_
      · exact D_andor.at_
      · exact D_not.at_
      · exact D_sub.at_
      · exact D_ife.at_
      · exact D_whl.at_
      · exact D_times.at_
      · exact D_jump.at_
      · exact D_call.at_
      · exact D_ret.at_
      · exact D_exit.at_
    init := Cl.init
    mkk := Cl.mkk
    gC := Cl.gC }
  obtain ⟨fd, FW, gW, _, _, tW⟩ := D_lLaw.ex
  have e := hfa.symm.trans gW
  cases e
  refine ⟨fd, fun s u => tW s [u] rfl, fun base _ _ => ?_⟩
  have GCk : GCk P w K mg base C IP := D_checked.def.go fun _ _ F => (ok_checked F Ds Md0 Z).ok (by decide) (by decide)
  have mg0 : Mg mg := ⟨M.mi, M.mtup, M.msum, M.mmax, M.mrange, M.ml, M.mlist, M.msorted, M.mset⟩
  obtain ⟨fM, dM, FM, gM, kM, bM⟩ := D_lMixed.def.ex
  have GT : GTk P w K mg base := D_lTake.def.go fun _ _ F => (ok_take F (ok_mixed FM M.mint) gM kM bM M.mint).mono (by decide)
  have GPi : GPk P w K mg base := D_lPick.def.go fun _ _ F => ok_pick F GT M.ml
  have GSml : GSm P w K mg base := D_lSmall.def.go fun _ _ F => ok_small F GT GPi
  have tree : ∀ d, GTr P w K mg base d := by
    intro d
    induction d with
    | zero => exact D_lTree.def.go fun _ _ F => ok_tree0 F GT GSml
    | succ d ih =>
      have GB : GBl P w K mg base (d + 1) := D_lBlock.def.go fun _ _ F => ok_block F ih M.mrange M.mtup
      have GD : GBd P w K mg base (d + 1) := D_lBod.def.go fun _ _ F => ok_bod F ih
      exact D_lTree.def.go fun _ _ F => ok_tree F GT GPi GSml ih GB GD
  have wei : ∀ h, GWe P w K mg base h := by
    intro h
    induction h with
    | zero => exact D_lWei.def.go fun _ _ F => ok_wei0 F
    | succ h ih => exact D_lWei.def.go fun _ _ F => ok_weiS F mg0 ih
  have wrd : ∀ h, GWr P w K mg base h := by
    intro h
    induction h with
    | zero => exact D_lWor.def.go fun _ _ F => ok_wrd0 F
    | succ h ih => exact D_lWor.def.go fun _ _ F => ok_wrdS F mg0 ih
  have GL : GLi P w K mg base := D_lLig.def.go fun _ _ F => ok_light F (wei 20)
  have GPlan : GPl P w K mg base := D_lPlan.def.go fun _ _ F => ok_plan F mg0 GT (tree 6) GL (wrd 20)
  have GPart : GPa P w K mg base := D_lParts.def.go fun _ _ F => ok_parts F mg0
  have GAll : GAl P w K mg base := D_lAll.def.go fun _ _ F => ok_allT F GPart
  have un : ∀ h, GUn P w K mg base h := by
    intro h
    induction h with
    | zero => exact D_lUnf.def.go fun _ _ F => ok_unf0 F
    | succ h ih => exact D_lUnf.def.go fun _ _ F => ok_unfS F mg0 GPart ih
  have GSz : GSi P w K mg base := D_lSizes.def.go fun _ _ F => ok_sizes F mg0 GAll (un 30)
  have GNm : GNa P w K mg base := D_lNames.def.go fun _ _ F => ok_names F mg0 GAll
  have GC : GCn P w K mg base := D_lCmds.goK fun _ _ F => ok_cmds F mg0 Z GCk
  have GPs : GPs P w K mg base := D_lSize.goK fun _ _ F => ok_size F Z GCk
  have GR : GRi P w K mg base := D_lRight.def.go fun _ _ F => (ok_right F mg0 GNm GSz GC GPs).mono (by decide)
  have GO : GSo P w K mg base := D_lSource.def.go fun _ _ F => (ok_source F).mono (by decide)
  exact ok_law FW mg0 GO GT GPlan GR
theorem the_walk {l : PySem.W.OpenLaw} {q : Program} {loose : List Str} {XP : (Str → Option Value) → Heap → Prop} {YP : World → Heap → Prop} {d : DefRec} {K : Params → PySem.W.Frag} (hn : l.most = some 63) (hdf : d.params.defaults = [])
    (hY : ∀ (w : World) (h : Heap), YP w h → (K w.params).In h)
    (F : ∀ (w : World) (mg : Str → Option Value) (fa : Addr) (h : Heap), (K w.params).In h → h.Ns mainGlobals mg → mg d.name = some (.ref fa) →
      ∃ fd : FuncData, (∀ (s : Shared) (u : Value), BindsTo s fd ⟨[u], []⟩ [("_law_script", u)]) ∧ ∀ base : Heap, (K w.params).In base → base.Ns mainGlobals mg → FnOk l.prog w (K w.params) mg base CX0 105 fa fd ["_law_script"] (spLaw (K w.params))) :
    PySem.W.WalkO q loose XP YP l.row.toRowW d [] (fun f vs => PySem.call f vs) :=
  L2.walk_of (n := 63) (k := 105) (x := "_law_script") (CX := fun _ => CX0) (sp := fun w => spLaw (K w.params)) hn (by decide) hdf ⟨rfl, by decide, by decide⟩ hY F (fun _ _ a ns hl _ hS => ⟨a, ns, rfl, hS, hl, fun _ => rfl⟩) fun _ _ _ _ _ z => z
end Ck

open PySem PySem.W PyProof.Rows in
set_option maxHeartbeats 0 in
theorem PySem.Challenge.cw_shellways_k03_sizes_and_names_holds : PySem.Challenge.rw_shellways_k03_sizes_and_names.Holds := by
  w_on; o_law; k_head; (case hw => w_witness2)
  k_fill
  refine Ck.the_walk (l := PySem.Challenge.rw_shellways_k03_sizes_and_names) rfl rfl (fun w h Y => PySem.W.kIn_of Y) ?F
  case F =>
    intro w mg fa h KX G hmg
    have zs := PySem.W.mg_none_of (n := "super") KX G (by k_is)
    refine' Ck.with_fil (PySem.Challenge.pw_shellways_k03_sizes_and_names).main.file KX ?fil_0 ?tp_0 ?next_0
    (case fil_0 => with_unfolding_all rfl)
    (case tp_0 => k_is)
    intro fil tp
    refine' Ck.with_err (P := PySem.Challenge.pw_shellways_k03_sizes_and_names) "InvalidProgram" "path" KX G zs tp rfl fil rfl (by decide) (by decide) rfl rfl ?aC_1 ?xL_1 ?iC_1 ?tI_1 ?l1_1 ?c1_1 ?l2_1 ?l3_1 ?f2_1 ?rd_1 ?su_1 ?qi_1 ?sa_1 ?no_1 ?ve_1 ?me_1 ?kC_1 ?ga_1 ?gg_1 ?exC_1 ?hdC_1 ?ca_1 ?cg_1 ?ck_1 ?mo_1 ?isC_1 ?next_1
    (case aC_1 => k_is)
    (case xL_1 => k_is)
    (case iC_1 => k_is)
    (case tI_1 => k_is)
    (case l1_1 => k_is)
    (case c1_1 => k_is)
    (case l2_1 => k_is)
    (case l3_1 => k_is)
    (case f2_1 => exact rfl)
    (case rd_1 => exact ⟨_, fun _ => by with_unfolding_all rfl⟩)
    (case su_1 => ks_is)
    (case qi_1 => with_unfolding_all rfl)
    (case sa_1 => k_is)
    (case no_1 => k_is)
    (case ve_1 => k_is)
    (case me_1 => k_is)
    (case kC_1 => k_is)
    (case ga_1 => k_is)
    (case gg_1 => k_is)
    (case exC_1 => k_is)
    (case hdC_1 => k_is)
    (case ca_1 => k_is)
    (case cg_1 => k_is)
    (case ck_1 => k_is)
    (case mo_1 => k_is)
    (case isC_1 => k_is)
    intro E0
    refine' Ck.with_cls KX G ?aC_2 ?a1_2 ?i1_2 ?l1_2 ?c1_2 ?k1_2 ?pg_2 ?hd_2 ?po_2 ?sa_2 ?mk_2 ?kc_2 ?n1_2 ?n2_2 ?n3_2 ?n4_2 ?n5_2 ?n6_2 ?n7_2 ?n8_2 ?next_2
    (case aC_2 => k_is)
    (case a1_2 => k_is)
    (case i1_2 => k_is)
    (case l1_2 => k_is)
    (case c1_2 => k_is)
    (case k1_2 => k_is)
    (case pg_2 => k_is)
    (case hd_2 => k_is)
    (case po_2 => k_is)
    (case sa_2 => k_is)
    (case mk_2 => k_is)
    (case kc_2 => k_is)
    (case n1_2 => k_is)
    (case n2_2 => k_is)
    (case n3_2 => k_is)
    (case n4_2 => k_is)
    (case n5_2 => k_is)
    (case n6_2 => k_is)
    (case n7_2 => k_is)
    (case n8_2 => k_is)
    intro Cl
    refine' Ck.with_names KX G ?z1_3 ?z2_3 ?z3_3 ?z4_3 ?z5_3 ?z6_3 ?z7_3 ?z8_3 ?z9_3 ?z10_3 ?z11_3 ?z12_3 ?z13_3 ?z14_3 ?c1_3 ?c2_3 ?c3_3 ?c4_3 ?c5_3 ?c6_3 ?c7_3 ?c8_3 ?next_3
    (case z1_3 => k_is)
    (case z2_3 => k_is)
    (case z3_3 => k_is)
    (case z4_3 => k_is)
    (case z5_3 => k_is)
    (case z6_3 => k_is)
    (case z7_3 => k_is)
    (case z8_3 => k_is)
    (case z9_3 => k_is)
    (case z10_3 => k_is)
    (case z11_3 => k_is)
    (case z12_3 => k_is)
    (case z13_3 => k_is)
    (case z14_3 => k_is)
    (case c1_3 => k_is)
    (case c2_3 => k_is)
    (case c3_3 => k_is)
    (case c4_3 => k_is)
    (case c5_3 => k_is)
    (case c6_3 => k_is)
    (case c7_3 => k_is)
    (case c8_3 => k_is)
    intro M0
    refine' Ck.with_defA "is_integer" Ck.sIsInt ["value"] KX G (fun _ _ _ _ _ _ us hl => match us, hl with | [_], _ => rfl) ?a_4 ?l_4 ?c_4 ?k_4 ?next_4
    (case a_4 => k_is)
    (case l_4 => k_is)
    (case c_4 => k_is)
    (case k_4 => k_is)
    intro D_isInt
    refine' Ck.with_defA "is_integer_within" Ck.sIsWithin ["value", "least", "most"] KX G (fun _ _ _ _ _ _ us hl => match us, hl with | [_, _, _], _ => rfl) ?a_5 ?l_5 ?c_5 ?k_5 ?next_5
    (case a_5 => k_is)
    (case l_5 => k_is)
    (case c_5 => k_is)
    (case k_5 => k_is)
    intro D_isWithin
    refine' Ck.with_defA "is_name" Ck.sIsName ["value"] KX G (fun _ _ _ _ _ _ us hl => match us, hl with | [_], _ => rfl) ?a_6 ?l_6 ?c_6 ?k_6 ?next_6
    (case a_6 => k_is)
    (case l_6 => k_is)
    (case c_6 => k_is)
    (case k_6 => k_is)
    intro D_isName
    refine' Ck.with_defA "is_new_name" Ck.sIsNew ["names", "value"] KX G (fun _ _ _ _ _ _ us hl => match us, hl with | [_, _], _ => rfl) ?a_7 ?l_7 ?c_7 ?k_7 ?next_7
    (case a_7 => k_is)
    (case l_7 => k_is)
    (case c_7 => k_is)
    (case k_7 => k_is)
    intro D_isNew
    refine' Ck.with_defA "has_parts" Ck.sHasParts ["tree"] KX G (fun _ _ _ _ _ _ us hl => match us, hl with | [_], _ => rfl) ?a_8 ?l_8 ?c_8 ?k_8 ?next_8
    (case a_8 => k_is)
    (case l_8 => k_is)
    (case c_8 => k_is)
    (case k_8 => k_is)
    intro D_hasParts
    refine' Ck.with_defA "is_outline" Ck.sOutline ["program"] KX G (fun _ _ _ _ _ _ us hl => match us, hl with | [_], _ => rfl) ?a_9 ?l_9 ?c_9 ?k_9 ?next_9
    (case a_9 => k_is)
    (case l_9 => k_is)
    (case c_9 => k_is)
    (case k_9 => k_is)
    intro D_outline
    refine' Ck.with_defA "is_entry" Ck.sEntry ["entry", "functions"] KX G (fun _ _ _ _ _ _ us hl => match us, hl with | [_, _], _ => rfl) ?a_10 ?l_10 ?c_10 ?k_10 ?next_10
    (case a_10 => k_is)
    (case l_10 => k_is)
    (case c_10 => k_is)
    (case k_10 => k_is)
    intro D_entry
    refine' Ck.with_defA "checked" Ck.sChecked ["program"] KX G (fun _ _ _ _ _ _ us hl => match us, hl with | [_], _ => rfl) ?a_11 ?l_11 ?c_11 ?k_11 ?next_11
    (case a_11 => k_is)
    (case l_11 => k_is)
    (case c_11 => k_is)
    (case k_11 => k_is)
    intro D_checked
    refine' Ck.with_defA "size_of_all" Ck.sAll ["check", "trees", "place"] KX G (fun _ _ _ _ _ _ us hl => match us, hl with | [_, _, _], _ => rfl) ?a_12 ?l_12 ?c_12 ?k_12 ?next_12
    (case a_12 => k_is)
    (case l_12 => k_is)
    (case c_12 => k_is)
    (case k_12 => k_is)
    intro D_all
    refine' Ck.with_defA "size_inside" Ck.sInto ["check", "parts", "place"] KX G (fun _ _ _ _ _ _ us hl => match us, hl with | [_, _, _], _ => rfl) ?a_13 ?l_13 ?c_13 ?k_13 ?next_13
    (case a_13 => k_is)
    (case l_13 => k_is)
    (case c_13 => k_is)
    (case k_13 => k_is)
    intro D_into
    refine' Ck.with_defA "size_behind_barrier" Ck.sBar ["check", "parts", "place"] KX G (fun _ _ _ _ _ _ us hl => match us, hl with | [_, _, _], _ => rfl) ?a_14 ?l_14 ?c_14 ?k_14 ?next_14
    (case a_14 => k_is)
    (case l_14 => k_is)
    (case c_14 => k_is)
    (case k_14 => k_is)
    intro D_bar
    refine' Ck.with_defA "size_of_run" Ck.sRun ["check", "tree", "place"] KX G (fun _ _ _ _ _ _ us hl => match us, hl with | [_, _, _], _ => rfl) ?a_15 ?l_15 ?c_15 ?k_15 ?next_15
    (case a_15 => k_is)
    (case l_15 => k_is)
    (case c_15 => k_is)
    (case k_15 => k_is)
    intro D_run
    refine' Ck.with_defA "size_of_status" Ck.sSta ["check", "tree", "place"] KX G (fun _ _ _ _ _ _ us hl => match us, hl with | [_, _, _], _ => rfl) ?a_16 ?l_16 ?c_16 ?k_16 ?next_16
    (case a_16 => k_is)
    (case l_16 => k_is)
    (case c_16 => k_is)
    (case k_16 => k_is)
    intro D_status
    refine' Ck.with_defA "size_with_variable" Ck.sVar ["check", "tree", "place"] KX G (fun _ _ _ _ _ _ us hl => match us, hl with | [_, _, _], _ => rfl) ?a_17 ?l_17 ?c_17 ?k_17 ?next_17
    (case a_17 => k_is)
    (case l_17 => k_is)
    (case c_17 => k_is)
    (case k_17 => k_is)
    intro D_var
    refine' Ck.with_defA "size_of_put" Ck.sPut ["check", "tree", "place"] KX G (fun _ _ _ _ _ _ us hl => match us, hl with | [_, _, _], _ => rfl) ?a_18 ?l_18 ?c_18 ?k_18 ?next_18
    (case a_18 => k_is)
    (case l_18 => k_is)
    (case c_18 => k_is)
    (case k_18 => k_is)
    intro D_put
    refine' Ck.with_defA "size_of_option" Ck.sOpt ["check", "tree", "place"] KX G (fun _ _ _ _ _ _ us hl => match us, hl with | [_, _, _], _ => rfl) ?a_19 ?l_19 ?c_19 ?k_19 ?next_19
    (case a_19 => k_is)
    (case l_19 => k_is)
    (case c_19 => k_is)
    (case k_19 => k_is)
    intro D_option
    refine' Ck.with_defA "size_of_trap" Ck.sTra ["check", "tree", "place"] KX G (fun _ _ _ _ _ _ us hl => match us, hl with | [_, _, _], _ => rfl) ?a_20 ?l_20 ?c_20 ?k_20 ?next_20
    (case a_20 => k_is)
    (case l_20 => k_is)
    (case c_20 => k_is)
    (case k_20 => k_is)
    intro D_trap
    refine' Ck.with_defA "size_of_seq" Ck.sSeq ["check", "tree", "place"] KX G (fun _ _ _ _ _ _ us hl => match us, hl with | [_, _, _], _ => rfl) ?a_21 ?l_21 ?c_21 ?k_21 ?next_21
    (case a_21 => k_is)
    (case l_21 => k_is)
    (case c_21 => k_is)
    (case k_21 => k_is)
    intro D_seq
    refine' Ck.with_defA "size_of_pipe" Ck.sPip ["check", "tree", "place"] KX G (fun _ _ _ _ _ _ us hl => match us, hl with | [_, _, _], _ => rfl) ?a_22 ?l_22 ?c_22 ?k_22 ?next_22
    (case a_22 => k_is)
    (case l_22 => k_is)
    (case c_22 => k_is)
    (case k_22 => k_is)
    intro D_pipe
    refine' Ck.with_defA "size_of_and_or" Ck.sAnd ["check", "tree", "place"] KX G (fun _ _ _ _ _ _ us hl => match us, hl with | [_, _, _], _ => rfl) ?a_23 ?l_23 ?c_23 ?k_23 ?next_23
    (case a_23 => k_is)
    (case l_23 => k_is)
    (case c_23 => k_is)
    (case k_23 => k_is)
    intro D_andor
    refine' Ck.with_defA "size_of_not" Ck.sNot ["check", "tree", "place"] KX G (fun _ _ _ _ _ _ us hl => match us, hl with | [_, _, _], _ => rfl) ?a_24 ?l_24 ?c_24 ?k_24 ?next_24
    (case a_24 => k_is)
    (case l_24 => k_is)
    (case c_24 => k_is)
    (case k_24 => k_is)
    intro D_not
    refine' Ck.with_defA "size_of_sub" Ck.sSub ["check", "tree", "place"] KX G (fun _ _ _ _ _ _ us hl => match us, hl with | [_, _, _], _ => rfl) ?a_25 ?l_25 ?c_25 ?k_25 ?next_25
    (case a_25 => k_is)
    (case l_25 => k_is)
    (case c_25 => k_is)
    (case k_25 => k_is)
    intro D_sub
    refine' Ck.with_defA "size_of_if" Ck.sIff ["check", "tree", "place"] KX G (fun _ _ _ _ _ _ us hl => match us, hl with | [_, _, _], _ => rfl) ?a_26 ?l_26 ?c_26 ?k_26 ?next_26
    (case a_26 => k_is)
    (case l_26 => k_is)
    (case c_26 => k_is)
    (case k_26 => k_is)
    intro D_ife
    refine' Ck.with_defA "size_of_while" Ck.sWhi ["check", "tree", "place"] KX G (fun _ _ _ _ _ _ us hl => match us, hl with | [_, _, _], _ => rfl) ?a_27 ?l_27 ?c_27 ?k_27 ?next_27
    (case a_27 => k_is)
    (case l_27 => k_is)
    (case c_27 => k_is)
    (case k_27 => k_is)
    intro D_whl
    refine' Ck.with_defA "size_of_times" Ck.sTim ["check", "tree", "place"] KX G (fun _ _ _ _ _ _ us hl => match us, hl with | [_, _, _], _ => rfl) ?a_28 ?l_28 ?c_28 ?k_28 ?next_28
    (case a_28 => k_is)
    (case l_28 => k_is)
    (case c_28 => k_is)
    (case k_28 => k_is)
    intro D_times
    refine' Ck.with_defA "size_of_jump" Ck.sJmp ["check", "tree", "place"] KX G (fun _ _ _ _ _ _ us hl => match us, hl with | [_, _, _], _ => rfl) ?a_29 ?l_29 ?c_29 ?k_29 ?next_29
    (case a_29 => k_is)
    (case l_29 => k_is)
    (case c_29 => k_is)
    (case k_29 => k_is)
    intro D_jump
    refine' Ck.with_defA "size_of_call" Ck.sCal ["check", "tree", "place"] KX G (fun _ _ _ _ _ _ us hl => match us, hl with | [_, _, _], _ => rfl) ?a_30 ?l_30 ?c_30 ?k_30 ?next_30
    (case a_30 => k_is)
    (case l_30 => k_is)
    (case c_30 => k_is)
    (case k_30 => k_is)
    intro D_call
    refine' Ck.with_defA "size_of_return" Ck.sRet ["check", "tree", "place"] KX G (fun _ _ _ _ _ _ us hl => match us, hl with | [_, _, _], _ => rfl) ?a_31 ?l_31 ?c_31 ?k_31 ?next_31
    (case a_31 => k_is)
    (case l_31 => k_is)
    (case c_31 => k_is)
    (case k_31 => k_is)
    intro D_ret
    refine' Ck.with_defA "size_of_exit" Ck.sExi ["check", "tree", "place"] KX G (fun _ _ _ _ _ _ us hl => match us, hl with | [_, _, _], _ => rfl) ?a_32 ?l_32 ?c_32 ?k_32 ?next_32
    (case a_32 => k_is)
    (case l_32 => k_is)
    (case c_32 => k_is)
    (case k_32 => k_is)
    intro D_exit
    refine' Ck.with_defA "_law_mixed" Ck.sMixed ["_law_cell", "_law_draw"] KX G (fun _ _ _ _ _ _ us hl => match us, hl with | [_, _], _ => rfl) ?a_33 ?l_33 ?c_33 ?k_33 ?next_33
    (case a_33 => k_is)
    (case l_33 => k_is)
    (case c_33 => k_is)
    (case k_33 => k_is)
    intro D_lMixed
    refine' Ck.with_defA "_law_source" Ck.sSource ["_law_cell"] KX G (fun _ _ _ _ _ _ us hl => match us, hl with | [_], _ => rfl) ?a_34 ?l_34 ?c_34 ?k_34 ?next_34
    (case a_34 => k_is)
    (case l_34 => k_is)
    (case c_34 => k_is)
    (case k_34 => k_is)
    intro D_lSource
    refine' Ck.with_defA "_law_take" Ck.sTake ["_law_source_here", "_law_bound"] KX G (fun _ _ _ _ _ _ us hl => match us, hl with | [_, _], _ => rfl) ?a_35 ?l_35 ?c_35 ?k_35 ?next_35
    (case a_35 => k_is)
    (case l_35 => k_is)
    (case c_35 => k_is)
    (case k_35 => k_is)
    intro D_lTake
    refine' Ck.with_defA "_law_pick" Ck.sPick ["_law_source_here", "_law_options"] KX G (fun _ _ _ _ _ _ us hl => match us, hl with | [_, _], _ => rfl) ?a_36 ?l_36 ?c_36 ?k_36 ?next_36
    (case a_36 => k_is)
    (case l_36 => k_is)
    (case c_36 => k_is)
    (case k_36 => k_is)
    intro D_lPick
    refine' Ck.with_defA "_law_small_tree" Ck.sSmall ["_law_source_here", "_law_loops", "_law_within", "_law_known"] KX G (fun _ _ _ _ _ _ us hl => match us, hl with | [_, _, _, _], _ => rfl) ?a_37 ?l_37 ?c_37 ?k_37 ?next_37
    (case a_37 => k_is)
    (case l_37 => k_is)
    (case c_37 => k_is)
    (case k_37 => k_is)
    intro D_lSmall
    refine' Ck.with_defA "_law_block" Ck.sBlock ["_law_source_here", "_law_many", "_law_deep", "_law_loops", "_law_within", "_law_known"] KX G (fun _ _ _ _ _ _ us hl => match us, hl with | [_, _, _, _, _, _], _ => rfl) ?a_38 ?l_38 ?c_38 ?k_38 ?next_38
    (case a_38 => k_is)
    (case l_38 => k_is)
    (case c_38 => k_is)
    (case k_38 => k_is)
    intro D_lBlock
    refine' Ck.with_defA "_law_tree" Ck.sTree ["_law_source_here", "_law_deep", "_law_loops", "_law_within", "_law_known"] KX G (fun _ _ _ _ _ _ us hl => match us, hl with | [_, _, _, _, _], _ => rfl) ?a_39 ?l_39 ?c_39 ?k_39 ?next_39
    (case a_39 => k_is)
    (case l_39 => k_is)
    (case c_39 => k_is)
    (case k_39 => k_is)
    intro D_lTree
    refine' Ck.with_defA "_law_trap_bodies" Ck.sBod ["_law_source_here", "_law_deep", "_law_known"] KX G (fun _ _ _ _ _ _ us hl => match us, hl with | [_, _, _], _ => rfl) ?a_40 ?l_40 ?c_40 ?k_40 ?next_40
    (case a_40 => k_is)
    (case l_40 => k_is)
    (case c_40 => k_is)
    (case k_40 => k_is)
    intro D_lBod
    refine' Ck.with_defA "_law_weight" Ck.sWei ["_law_tree_here", "_law_sizes_here"] KX G (fun _ _ _ _ _ _ us hl => match us, hl with | [_, _], _ => rfl) ?a_41 ?l_41 ?c_41 ?k_41 ?next_41
    (case a_41 => k_is)
    (case l_41 => k_is)
    (case c_41 => k_is)
    (case k_41 => k_is)
    intro D_lWei
    refine' Ck.with_defA "_law_light" Ck.sLig ["_law_tree_here", "_law_rows"] KX G (fun _ _ _ _ _ _ us hl => match us, hl with | [_, _], _ => rfl) ?a_42 ?l_42 ?c_42 ?k_42 ?next_42
    (case a_42 => k_is)
    (case l_42 => k_is)
    (case c_42 => k_is)
    (case k_42 => k_is)
    intro D_lLig
    refine' Ck.with_defA "_law_worded" Ck.sWor ["_law_tree_here"] KX G (fun _ _ _ _ _ _ us hl => match us, hl with | [_], _ => rfl) ?a_43 ?l_43 ?c_43 ?k_43 ?next_43
    (case a_43 => k_is)
    (case l_43 => k_is)
    (case c_43 => k_is)
    (case k_43 => k_is)
    intro D_lWor
    refine' Ck.with_defA "_law_plan" Ck.sPlan ["_law_source_here", "_law_many", "_law_deep"] KX G (fun _ _ _ _ _ _ us hl => match us, hl with | [_, _, _], _ => rfl) ?a_44 ?l_44 ?c_44 ?k_44 ?next_44
    (case a_44 => k_is)
    (case l_44 => k_is)
    (case c_44 => k_is)
    (case k_44 => k_is)
    intro D_lPlan
    refine' Ck.with_defA "_law_parts" Ck.sParts ["_law_tree_here"] KX G (fun _ _ _ _ _ _ us hl => match us, hl with | [_], _ => rfl) ?a_45 ?l_45 ?c_45 ?k_45 ?next_45
    (case a_45 => k_is)
    (case l_45 => k_is)
    (case c_45 => k_is)
    (case k_45 => k_is)
    intro D_lParts
    refine' Ck.with_defA "_law_all" Ck.sAllT ["_law_tree_here"] KX G (fun _ _ _ _ _ _ us hl => match us, hl with | [_], _ => rfl) ?a_46 ?l_46 ?c_46 ?k_46 ?next_46
    (case a_46 => k_is)
    (case l_46 => k_is)
    (case c_46 => k_is)
    (case k_46 => k_is)
    intro D_lAll
    refine' Ck.with_defA "_law_unfolded" Ck.sUnf ["_law_tree_here", "_law_sizes_here"] KX G (fun _ _ _ _ _ _ us hl => match us, hl with | [_, _], _ => rfl) ?a_47 ?l_47 ?c_47 ?k_47 ?next_47
    (case a_47 => k_is)
    (case l_47 => k_is)
    (case c_47 => k_is)
    (case k_47 => k_is)
    intro D_lUnf
    refine' Ck.with_defA "_law_sizes" Ck.sSizes ["_law_plan_here"] KX G (fun _ _ _ _ _ _ us hl => match us, hl with | [_], _ => rfl) ?a_48 ?l_48 ?c_48 ?k_48 ?next_48
    (case a_48 => k_is)
    (case l_48 => k_is)
    (case c_48 => k_is)
    (case k_48 => k_is)
    intro D_lSizes
    refine' Ck.with_defA "_law_names" Ck.sNames ["_law_plan_here"] KX G (fun _ _ _ _ _ _ us hl => match us, hl with | [_], _ => rfl) ?a_49 ?l_49 ?c_49 ?k_49 ?next_49
    (case a_49 => k_is)
    (case l_49 => k_is)
    (case c_49 => k_is)
    (case k_49 => k_is)
    intro D_lNames
    refine' Ck.with_defA "_law_right" Ck.sRight ["_law_plan_here"] KX G (fun _ _ _ _ _ _ us hl => match us, hl with | [_], _ => rfl) ?a_50 ?l_50 ?c_50 ?k_50 ?next_50
    (case a_50 => k_is)
    (case l_50 => k_is)
    (case c_50 => k_is)
    (case k_50 => k_is)
    intro D_lRight
    refine' Ck.with_defA "law" Ck.sLaw ["_law_script"] KX G (fun _ _ _ _ _ _ us hl => match us, hl with | [_], _ => rfl) ?a_51 ?l_51 ?c_51 ?k_51 ?next_51
    (case a_51 => k_is)
    (case l_51 => k_is)
    (case c_51 => k_is)
    (case k_51 => k_is)
    intro D_lLaw
    refine' Ck.with_defK "program_size" Ck.sSize ["program"] KX G (fun _ _ _ _ _ _ us hl => match us, hl with | [_], _ => rfl) ?hk_52 ?a_52 ?l_52 ?c_52 ?k_52 ?next_52
    (case hk_52 => intro _ _ _ _ _ _ us ws hl; match us, ws, hl with | [_], [], _ => rfl | [], [_], _ => with_unfolding_all rfl)
    (case a_52 => k_is)
    (case l_52 => k_is)
    (case c_52 => k_is)
    (case k_52 => k_is)
    intro D_lSize
    refine' Ck.with_defK "command_names" Ck.sCmds ["program"] KX G (fun _ _ _ _ _ _ us hl => match us, hl with | [_], _ => rfl) ?hk_53 ?a_53 ?l_53 ?c_53 ?k_53 ?next_53
    (case hk_53 => intro _ _ _ _ _ _ us ws hl; match us, ws, hl with | [_], [], _ => rfl | [], [_], _ => with_unfolding_all rfl)
    (case a_53 => k_is)
    (case l_53 => k_is)
    (case c_53 => k_is)
    (case k_53 => k_is)
    intro D_lCmds
    refine' Ck.with_tables (w := w) KX G D_run D_status D_var D_put D_option D_trap D_seq D_pipe D_andor D_not D_sub D_ife D_whl D_times D_jump D_call D_ret D_exit ?aR_54 ?aS_54 ?lR_54 ?lS_54 ?kR_54 ?kS_54 ?oR_54 ?oS_54 ?mR_54 ?mS_54 ?next_54
    (case aR_54 => k_is)
    (case aS_54 => k_is)
    (case lR_54 => k_is)
    (case lS_54 => k_is)
    (case kR_54 => repeat (first | exact Ck.keys_nil | apply Ck.keys_cons ⟨_, _, rfl, rfl⟩))
    (case kS_54 => repeat (first | exact Ck.keys_nil | apply Ck.keys_cons ⟨_, _, rfl, rfl⟩))
    (case oR_54 => decide)
    (case oS_54 => decide)
    (case mR_54 => exact ⟨Ck.reserved.map fun z => (z, PySem.Value.bool true), rfl, rfl⟩)
    (case mS_54 => rfl)
    intro T0
    refine' Ck.the_end KX G hmg E0 ?tyC_55 ?sC_55 Cl M0 T0 D_isInt D_isWithin D_isName D_isNew D_hasParts D_outline D_entry D_checked D_all D_into D_bar D_run D_status D_var D_put D_option D_trap D_seq D_pipe D_andor D_not D_sub D_ife D_whl D_times D_jump D_call D_ret D_exit D_lMixed D_lSource D_lTake D_lPick D_lSmall D_lBlock D_lTree D_lBod D_lWei D_lLig D_lWor D_lPlan D_lParts D_lAll D_lUnf D_lSizes D_lNames D_lRight D_lLaw D_lSize D_lCmds
    (case tyC_55 => k_is)
    (case sC_55 => k_is)

