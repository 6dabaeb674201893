import PyProof.Rows.All
import Wide.All
import OpenK.AllK
import Wide.FinOn
import HandS.ForMost
import HandS.ForExc
import HandS.IsInst
import HandS.StrMore
import HandS.More
import KE.KExcStr
import HandS.ExcInit
import KE.KExcIs
import PyProof.ListMulRoad
import PyProof.FactsAll.tuple_2
import HandS.TupMul
import HandS.ExcField
import HandS.CallLocal
import HandS.TryMany
import HandS.Walk
import HandS.Star
import HandS.Head2
import HandS.Wide
import HandS.TupAny
import PyProof.P3Eq
import KE.DataEq
import HandS.Strs
import HandS.Set
import PyProof.Rows.SetFrom
import HandS.RevRange
import HandS.Defaults
import HandS.Iter
import HandS.DictComp
import KE.GoesNew
import KE.GoesEnum
import HandS.Style
import PyProof.ReprRoads
import PyProof.ReprLen
import PySem.Challenge.RW_shellways_k20_where_trees_lead
set_option Elab.async false
set_option linter.all false
set_option maxRecDepth 100000
set_option maxHeartbeats 4000000
/-! The check of a program as a plain function over data. -/
namespace Ck
open PySem L2
/-- a value as the check sees it -/
inductive T where
  | non
  | bl (b : Bool)
  | int (i : Int)
  | str (z : Str)
  | tup (ts : List T)
  | odd (t : String)
inductive Kind where
  | run | status | var | put | option | trap | seq | pipe | andor | not | sub | ife | whl | times | jump | call | ret | exit
  deriving DecidableEq
structure CS where
  trees : Int
  cmds : List Str
  vars : List Str
  unf : Int
  fns : List (Str × Int)
  places : List Int
  loops : Int
  rets : Bool
def words : List (Str × Kind) := [("run", .run), ("status", .status), ("give", .var), ("zero", .var), ("keep", .var), ("put", .put), ("option", .option), ("trap", .trap), ("seq", .seq), ("and", .andor), ("or", .andor), ("not", .not), ("if", .ife),
  ("while", .whl), ("until", .whl), ("times", .times), ("break", .jump), ("next", .jump), ("call", .call), ("return", .ret), ("exit", .exit), ("sub", .sub), ("pipe", .pipe)]
def kindOf (z : Str) : Option Kind := words.lookup z
def reserved : List Str := ["def", "call", "status", "give", "zero", "keep", "put", "option", "trap", "on", "off", "if", "then", "else", "while", "until", "times", "do", "end", "break", "next", "return", "exit", "fail", "pipes"]
def nameOk (z : Str) : Bool := decide ((z.length : Int) ≤ 12) && (Txt.isascii z && (Txt.isalpha z && (Txt.islower z && !reserved.contains z)))
def isName : T → Bool
  | .str z => nameOk z
  | _ => false
/-- a name of a table, noted where it is new -/
def newName (ns : List Str) : T → Bool × List Str
  | .str z => if ns.contains z then (true, ns) else if nameOk z then (true, ns ++ [z]) else (false, ns)
  | _ => (false, ns)
def within (lo hi : Int) : T → Bool
  | .int i => decide (lo ≤ i) && decide (i ≤ hi)
  | _ => false
def isNon : T → Bool
  | .non => true
  | _ => false
abbrev R := Except (List Int) (Int × CS)
def b2 (b : Bool) : Int := if b then 1 else 0
/-- a size, one more -/
def inc : R → R
  | .ok (i, S) => .ok (1 + i, S)
  | .error e => .error e
def behind (f : CS → CS) : R → R
  | .ok (i, S) => .ok (i, f S)
  | .error e => .error e
section
variable (inside : CS → List T → Int → R)
def barrier (S : CS) (ps : List T) (p : Int) : R := behind (fun S' => { S' with loops := S.loops, rets := S.rets }) (inside { S with loops := 0, rets := false } ps p)
def looped (S : CS) (ps : List T) (p : Int) : R := behind (fun S' => { S' with loops := S'.loops - 1 }) (inside { S with loops := S.loops + 1 } ps p)
def named (S : CS) : List T → R
  | [_, a] => .ok (b2 (newName S.cmds a).1, { S with cmds := (newName S.cmds a).2 })
  | _ => .ok (0, S)
def varied (S : CS) (a : T) : R := .ok (b2 (newName S.vars a).1, { S with vars := (newName S.vars a).2 })
def timed (n : Int) : R → R
  | .ok (i, S) => .ok (1 + n * i, S)
  | .error e => .error e
def exited : List T → Int
  | [_, a] => b2 (isNon a || within 0 255 a)
  | _ => 0
def act (k : Kind) (S : CS) (ds : List T) (p : Int) : R :=
  match k with
  | .run => named S ds
  | .status => match ds with | [_, a] => .ok (b2 (within 0 255 a), S) | _ => .ok (0, S)
  | .var => match ds with | [_, a] => varied S a | _ => .ok (0, S)
  | .put => match ds with | [_, a, n] => if within 0 255 n then varied S a else .ok (0, S) | _ => .ok (0, S)
  | .option => match ds with | [_, .str z, .bl _] => .ok (b2 (decide (z = "fail") || decide (z = "pipes")), S) | _ => .ok (0, S)
  | .trap => match ds with | [_, .str z, b] => if z = "end" ∨ z = "fail" then (if isNon b then .ok (1, S) else inc (barrier inside S [b] p)) else .ok (0, S) | _ => .ok (0, S)
  | .seq => match ds with | [_, .tup ps] => if 2 ≤ ps.length then inc (inside S ps p) else .ok (0, S) | _ => .ok (0, S)
  | .pipe => match ds with | [_, .tup ps] => if 2 ≤ ps.length then inc (barrier inside S ps p) else .ok (0, S) | _ => .ok (0, S)
  | .andor => match ds with | [_, a, b] => inc (inside S [a, b] p) | _ => .ok (0, S)
  | .not => match ds with | [_, a] => inc (inside S [a] p) | _ => .ok (0, S)
  | .sub => match ds with | [_, a] => inc (barrier inside S [a] p) | _ => .ok (0, S)
  | .ife => match ds with | [_, c, a, b] => inc (inside S (if isNon b then [c, a] else [c, a, b]) p) | _ => .ok (0, S)
  | .whl => match ds with | [_, c, b] => inc (looped inside S [c, b] p) | _ => .ok (0, S)
  | .times => match ds with | [_, .int n, b] => if within 0 1000 (.int n) then timed n (looped inside S [b] p) else .ok (0, S) | _ => .ok (0, S)
  | .jump => match ds with | [_, .int k] => .ok (b2 (decide (1 ≤ k) && decide (k ≤ S.loops)), S) | _ => .ok (0, S)
  | .call => match ds with | [_, .str f] => (match S.fns.lookup f with | some v => .ok (1 + v, S) | none => .ok (0, S)) | _ => .ok (0, S)
  | .ret => if S.rets then .ok (exited ds, S) else .ok (0, S)
  | .exit => .ok (exited ds, S)
def one (S : CS) (p : Int) : T → R
  | .tup (.str z :: ds) => (match kindOf z with | some k => act inside k S (.str z :: ds) p | none => .ok (0, S))
  | _ => .ok (0, S)
end
/-- trees side by side -/
def many (f : CS → Int → T → R) : CS → List T → Int → Int → R
  | S, [], _, i => .ok (i, S)
  | S, d :: ds, p, i =>
    if S.trees = 3000 then .error []
    else match f { S with trees := S.trees + 1 } p d with
      | .error e => .error e
      | .ok (j, S') => if j = 0 then .error (S'.places ++ [p]) else many f S' ds (p + 1) (i + j)
def into (all : CS → List T → Int → Int → R) (S : CS) (ps : List T) (p : Int) : R :=
  if S.places.length + 1 = 60 then .error (if S.trees = 3000 then [] else S.places ++ [p] ++ [0])
  else behind (fun S' => { S' with places := S'.places.dropLast }) (all { S with places := S.places ++ [p] } ps 0 0)
def all : Nat → CS → List T → Int → Int → R
  | 0 => many (one (into fun _ _ _ _ => .error []))
  | n + 1 => many (one (into (all n)))
def ins : Nat → CS → List T → Int → R
  | 0 => into fun _ _ _ _ => .error []
  | n + 1 => into (all n)
theorem all_eq (n : Nat) : all n = many (one (ins n)) := by cases n <;> rfl
/-- the entries of the functions -/
def entries : CS → List T → Int → Except (List Int) CS
  | S, [], _ => .ok S
  | S, e :: es, k => match e with
    | .tup [a, b] => (match a with
      | .str z => if nameOk z = true ∧ S.fns.lookup z = none then (match all 59 S [b] k 0 with | .error e => .error e | .ok (i, S') => entries { S' with fns := S'.fns ++ [(z, if 3001 < i then 3001 else i)] } es (k + 1)) else .error [k]
      | _ => .error [k])
    | _ => .error [k]
def start : CS := ⟨0, [], [], 0, [], [], 0, true⟩
def check : T → Except (List Int) CS
  | .tup [.tup fs, m] => if fs.length ≤ 20 then (match entries start fs 0 with
      | .error e => .error e
      | .ok S => match all 59 { S with rets := false } [m] (-1) 0 with
        | .error e => .error e
        | .ok (i, S') => if 40 < S'.vars.length ∨ 3000 < i then .error [] else .ok { S' with unf := i }) else .error []
  | _ => .error []
/-! ### what stands in the heap as such a value -/
mutual
inductive Im (K : PySem.W.Frag) (H : Hp) : V → T → Prop
  | non : Im K H .non .non
  | bl (b : Bool) : Im K H (.bl b) (.bl b)
  | int (i : Int) : Im K H (.int i) (.int i)
  | str {z : Str} : z.length ≤ sizeLine → Im K H (.str z) (.str z)
  | tup {a : Addr} {xs : List V} {ts : List T} : H a = some (.tup xs) → Ims K H xs ts → Im K H (.ref a) (.tup ts)
  | odd {v : V} {t : String} : TyX K H v (.type t) → kitB t "int" = some false → kitB t "bool" = some false → kitB t "str" = some false → kitB t "tuple" = some false → v ≠ .non → Im K H v (.odd t)
inductive Ims (K : PySem.W.Frag) (H : Hp) : List V → List T → Prop
  | nil : Ims K H [] []
  | cons {v : V} {vs : List V} {t : T} {ts : List T} : Im K H v t → Ims K H vs ts → Ims K H (v :: vs) (t :: ts)
end
end Ck

/-! An own error made with its value by keyword: the built-in __new__ lets the keyword by, the own __init__ gets it. -/
namespace PySem
namespace ErrKw
open PySem.HandSPX
section
variable {mo : Model} {ar : Around} {er : Value → Shared → Prop} {hp : Heap} {ge : Array GenState} {dr : Drawn} {tn : Nat} {osx : OsState}
variable {nm qn : Str} {C N : Addr} {bs bm bB : List Value} {hd : Bool} {sn : List Str} {sb : List Value} {ab : Bool} {co : Option Bool} {dd : Option Addr} {k0 k1 k2 k3 k5 : Option Value} {B nI iI : String} {kw : List (Str × Value)}

theorem kw_check (FB : ExcBaseFacts B nI iI bB) (same : ∀ X : String, bm.contains (.type X) = bB.contains (.type X)) {ps : List Value} {Q : Unit → Shared → Prop}
    (cC : hp.get? C = some (excClassObj nm qn C N bs bm hd sn sb ab co dd k0 k1 k2 k3 k5 nI)) (fin : Q () ⟨hp, ge, dr, tn, osx⟩) :
    wpAny mo ar (checkBuiltinCall nI ⟨.ref C :: ps, kw⟩) Q er ⟨hp, ge, dr, tn, osx⟩ := by
  have inB : (Value.ref C :: bm).contains (.type B) = true := by
    rw [List.contains_cons, same, FB.hasB, Bool.or_true]
  have star := FB.noStar
  simp only [checkBuiltinCall, FB.newKind, FB.newSplit, FB.newRow]
  repeat (first
    | refine wpAny_loadPart_at cC ?_
    | (refine wpAny_isSubtype_exc cC ?_; rw [inB])
    | refine wpAny_staticBase_exc cC ?_
    | refine wpAny_madeBy_exc cC ?_
    | simp only [bne_self_eq_false, Bool.false_eq_true, if_false]
    | wp_step)
  exact fin
end

section
variable {prog : Program} {w : World} {ar : Around} {er : Value → Shared → Prop} {R : Result → Shared → Prop} {hp : Heap} {ge : Array GenState} {dr : Drawn} {tn : Nat} {osx : OsState}
variable {nm qn : Str} {C N : Addr} {bs bm bB : List Value} {hd : Bool} {sn : List Str} {sb : List Value} {ab : Bool} {co : Option Bool} {dd : Option Addr} {k0 k1 k2 k3 k5 : Option Value} {B nI iI : String} {kw : List (Str × Value)}

theorem kw_new (FB : ExcBaseFacts B nI iI bB) (same : ∀ X : String, bm.contains (.type X) = bB.contains (.type X)) {ps : List Value}
    (cC : hp.get? C = some (excClassObj nm qn C N bs bm hd sn sb ab co dd k0 k1 k2 k3 k5 nI))
    (fin : R (.ok (.ret (.ref (hp.objs.size + 1)))) ⟨(hp.push (W.kdv_tup ps)).push (excO C hp.objs.size), ge, dr, tn, osx⟩) (small : ps.length ≤ sizeLine) :
    codeAny (model prog w) ar (.builtin nI ⟨.ref C :: ps, kw⟩) R ⟨hp, ge, dr, tn, osx⟩ := by
  have ends := FB.ends
  have inB : (Value.ref C :: bm).contains (.type B) = true := by
    rw [List.contains_cons, same, FB.hasB, Bool.or_true]
  have noA : (Value.ref C :: bm).contains (.type "AttributeError") = false := by
    rw [List.contains_cons, same, FB.noAttr]; rfl
  have noN : (Value.ref C :: bm).contains (.type "NameError") = false := by
    rw [List.contains_cons, same, FB.noName]; rfl
  refine codeAny_builtinAt FB.entry ?_
  unfold Builtin.«BaseException.__new__»
  refine wpAt_bind ?_
  show wpAt _ _ _ (stack >>= _) _ _ _
  refine wpAt_bind (wpAt_stack fun p below => wpAt_of_wpAny ?_)
  wp_walk
  refine wpAt_of_wpAny ?_
  rw [FB.owner]
  repeat (first
    | with_reducible refine wpAny_madeHere_exc FB.canon cC ?_
    | with_reducible refine wpAny_loadPart_at cC ?_
    | (with_reducible refine wpAny_isSubtype_exc cC ?_; first | rw [inB] | rw [noA] | rw [noN])
    | wp_step)
  show R _ _
  rw [Heap.size_push]
  exact fin

theorem kw_typecall (FB : ExcBaseFacts B nI iI bB) (same : ∀ X : String, bm.contains (.type X) = bB.contains (.type X)) {ps : List Value} {fI : Addr} {Q : Fin → Shared → Prop}
    (cC : hp.get? C = some (excClassObj nm qn C N bs bm hd sn sb ab co dd k0 k1 k2 k3 k5 nI))
    (lk : W.Looks (model prog w) hp (typeLookup (.ref C) "__init__") (some (.ref fI)))
    (bd : ∀ self, W.Looks (model prog w) hp (bindSpecial (.ref fI) self) (.ref fI, [self])) (small : ps.length ≤ sizeLine)
    (fin : codeAny (model prog w) ar (.call (.ref fI) ⟨.ref (hp.objs.size + 1) :: ps, kw⟩)
      (fun r s' => match r with | .ok (.ret v) => v = .none ∧ Q (.done (.ret (.ref (hp.objs.size + 1)))) s' | .ok _ => False | .error e => er e s')
      ⟨(hp.push (W.kdv_tup ps)).push (excO C hp.objs.size), ge, dr, tn, osx⟩) :
    wpAny (model prog w) ar (Builtin.«type.__call__» ⟨.ref C :: ps, kw⟩) Q er ⟨hp, ge, dr, tn, osx⟩ := by
  repeat (first
    | with_reducible refine wpAny_loadPart_at cC ?_
    | with_reducible refine wpAny_madeBy_exc cC ?_
    | wp_step)
  refine codeAny_call_builtin_code (Code.quiet_builtin _ FB.quiet) (kw_check FB same cC ?_)
  refine kw_new FB same cC ?_ small
  show wpAny _ _ _ _ _ _
  have keep : ∀ b o, hp.get? b = some o → ((hp.push (W.kdv_tup ps)).push (excO C hp.objs.size)).get? b = some o := fun b o e =>
    Heap.get?_push_of_some _ (Heap.get?_push_of_some _ e)
  have cC' := keep _ _ cC
  have new : ((hp.push (W.kdv_tup ps)).push (excO C hp.objs.size)).get? (hp.objs.size + 1) = some (excO C hp.objs.size) := by heap_get
  have inC : (Value.ref C :: bm).contains (.ref C) = true := by simp
  have lk' := lk.keeps keep
  have bd' := (bd (.ref (hp.objs.size + 1))).keeps keep
  unfold isInstance
  repeat (first
    | with_reducible refine wpAny_loadPart_at new ?_
    | (with_reducible refine wpAny_isSubtype_exc cC' ?_; rw [inC])
    | wp_step)
  show wpAny _ _ (typeLookup (.ref C) _) _ _ _
  refine lk'.at ?_
  refine wpAny_holding (wpAny_bind (bd'.at ?_))
  refine wpAny_bind (wpAny_call (codeAny_mono fin fun r s' z => ?_))
  rcases r with e | (v | _ | _ | _) <;> first | exact z | exact z.elim | skip
  obtain ⟨rfl, z⟩ := z
  first
    | exact wpAny_pure (wpAny_pure z)
    | (wp_walk; exact z)

theorem kw_call (FB : ExcBaseFacts B nI iI bB) (same : ∀ X : String, bm.contains (.type X) = bB.contains (.type X)) {ps : List Value} {fI : Addr}
    (cC : hp.get? C = some (excClassObj nm qn C N bs bm hd sn sb ab co dd k0 k1 k2 k3 k5 nI))
    (lk : W.Looks (model prog w) hp (typeLookup (.ref C) "__init__") (some (.ref fI)))
    (bd : ∀ self, W.Looks (model prog w) hp (bindSpecial (.ref fI) self) (.ref fI, [self])) (small : ps.length ≤ sizeLine)
    (fin : codeAny (model prog w) (ar.under (.builtin "type.__call__" ⟨.ref C :: ps, kw⟩)) (.call (.ref fI) ⟨.ref (hp.objs.size + 1) :: ps, kw⟩) (W.InitBack (hp.objs.size + 1) R)
      ⟨(hp.push (W.kdv_tup ps)).push (excO C hp.objs.size), ge, dr, tn, osx⟩) :
    codeAny (model prog w) ar (.call (.ref C) ⟨ps, kw⟩) R ⟨hp, ge, dr, tn, osx⟩ := by
  have f1 := tc_lookup
  have f2 := tc_bind (.ref C)
  have ty : (⟨hp, ge, dr, tn, osx⟩ : Shared).TypeIs (.ref C) "type" := ⟨_, cC, rfl⟩
  refine codeAny_of_tree ?_
  show wpAny _ _ (callAny (.ref C) _) _ _ _
  repeat (any_goals (first | assumption | with_reducible refine wpAny_loadPart_at cC ?_ | wp_step))
  refine ⟨rfl, ?_⟩
  refine codeAny_call_builtin_at (Code.quiet_builtin _ (by decide +kernel)) entry_typeCall (wpAny_check_type_call_sub cC (kw_typecall FB same cC lk bd small ?_))
  refine codeAny_mono fin fun r s' z => ?_
  rcases r with e | (v | _ | _ | _) <;> exact z
end
end ErrKw
end PySem

/-! The own __init__: the base's one through super, then one field. -/
namespace PySem
namespace ErrKw
open PySem.W PySem.Calls PyProof.Rows PySem.HandSPX
def iArgs (f : Str) (p1 p2 : Pos) : Arguments := { posonlyargs := [], args := [{ arg := "self", annotation := none, pos := p1 }, { arg := f, annotation := none, pos := p2 }], vararg := none, kwonlyargs := [], kw_defaults := [], kwarg := none, defaults := [] }
def iBody (f msg : Str) (k : Nat) (q1 q2 q3 q4 q5 q6 q7 q8 q9 q10 : Pos) : List Stmt :=
  [.Expr (.Call (.Attribute (.Call (.Name "super" q1) [] [] q2) "__init__" q3) [.Constant (.str msg) k q4] [] q5) q6,
   .Assign [.Attribute (.Name "self" q7) f q8] (.Name f q9) q10]
def iScope (f : Str) : Scope := { kind := .function, names := [("self", .local), (f, .local), ("__class__", .free), ("super", .globalImplicit)], isGenerator := false, isCoroutine := false, more := [] }
/-- how the call of the base's __init__ is read, for these places -/
def Reads0 (msg : Str) (k : Nat) (q1 q2 q3 q4 q5 : Pos) : Prop := ∃ pl : Env → Sem Bool, ∀ env : Env, eval (.Call (.Attribute (.Call (.Name "super" q1) [] [] q2) "__init__" q3) [.Constant (.str msg) k q4] [] q5) env = (do
  let ov ← attributeBase (.Call (.Name "super" q1) [] [] q2) "__init__" env (eval (.Call (.Name "super" q1) [] [] q2) env)
  standAt q3.atName
  let (g, first) ← holding [ov] (getMethod ov "__init__" (pl env))
  callWith q5 g first (backTo q5 (starEach [.Constant (.str msg) k q4] env)) [])
/-- what stands of an own error class at C (its field f), and of its __init__ at fI; D: the class that its __class__ cell names (itself) -/
structure Own (K : Frag) (C fI : Addr) (f : Str) : Prop where
  cls : ∃ nm qn N bs bm sn sub ab col dd k0 k1 k2 k3 k5, K.lookup C = some (excClassObj nm qn C N bs bm true sn sub ab col dd k0 k1 k2 k3 k5 "ValueError.__new__") ∧ refsVE bm = true
  sa : findIn K (.ref C) "__setattr__" = some (some (.builtin "object.__setattr__"))
  no : findIn K (.ref C) f = some none
  su : ks_superIn K C C "__init__" = some (some (.builtin "ValueError.__init__"))
  ve : subIn K (.ref C) (.type "ValueError") = some true
  me : mroIn K C (.ref C) = some true
  tp : nsIn K cStatics "thirdparty.any" = some none
  qi : excInitIn K C [.type "ValueError", .type "Exception", .type "BaseException", .type "object"] "ValueError.__new__" = true
  kl : (iScope f).names.lookup f = some .local
  vs : f ≠ "self"
  nd : (f == ("__debug__" : Str)) = false
  ks : (iScope f).names.lookup ("super" : Str) = some .globalImplicit
  kc : (iScope f).names.lookup ("__class__" : Str) = some .free
  fn : ∃ (qn msg : Str) (k : Nat) (oc doc pm ct ccl cll : Value) (od an cdd cld : Option Addr) (osl ccs csl : Array (Option Value)) (cda cc : Addr) (fs : Array Value) (file : Str) (tf : Tok) (p1 p2 q1 q2 q3 q4 q5 q6 q7 q8 q9 q10 : Pos),
    K.lookup fI = some ⟨oc, od, .func (ksFn "__init__" qn (iArgs f p1 p2) (iBody f msg k q1 q2 q3 q4 q5 q6 q7 q8 q9 q10) (iScope f) .none .none doc pm an (.ref cda) ct cc), osl⟩ ∧ codeIn K (.ref cda) qn = true ∧
    K.lookup cda = some ⟨ccl, cdd, .fields fs, ccs⟩ ∧ fs[2]? = some (.str file tf) ∧ K.lookup cc = some ⟨cll, cld, .cell (some (.ref C)), csl⟩ ∧ Reads0 msg k q1 q2 q3 q4 q5
/-- how the value comes to the field's parameter: by place, by keyword -/
structure Giv (f : Str) : Prop where
  place : ∀ (s : Shared) (x u : Value) qn p1 p2 body doc pm an cdv ct cc, BindsTo s (ksFn "__init__" qn (iArgs f p1 p2) body (iScope f) .none .none doc pm an cdv ct cc) ⟨[x, u], []⟩ [("self", x), (f, u)]
  word : ∀ (s : Shared) (x u : Value) qn p1 p2 body doc pm an cdv ct cc, BindsTo s (ksFn "__init__" qn (iArgs f p1 p2) body (iScope f) .none .none doc pm an cdv ct cc) ⟨[x], [(f, u)]⟩ [("self", x), (f, u)]
theorem given_path : Giv "path" := ⟨fun _ _ _ _ _ _ _ _ _ _ _ _ _ => .of_eq rfl, fun _ _ _ _ _ _ _ _ _ _ _ _ _ => .of_eq (by with_unfolding_all rfl)⟩
/-- what __init__ leaves -/
structure After (h h' : Heap) (x C dx t1 : Addr) (f : Str) (v : Value) : Prop where
  keep : ∀ b o, b ≠ x → h.get? b = some o → h'.get? b = some o
  obj : h'.get? x = some { cls := .ref C, dict := some dx, data := .fields #[.ref t1, .none, .none, .none, .bool false, .none] }
  big : h.objs.size ≤ dx
  ne : dx ≠ x
  ns : h'.Ns1 dx (fun y => if y = f then some v else none)
section
variable {prog : Program} {w : World} {A : Around} {R : Result → Shared → Prop} {s : Shared} {K : Frag} {mg mb : Str → Option Value} {C fI : Addr} {f : Str}
theorem err_init (T : Own K C fI f) {x t0 : Addr} {v : Value} {args : Args} (X : K.In s.heap) (G : s.heap.Ns mainGlobals mg) (Bt : s.heap.Ns builtinsNs mb) (hmg : mg "super" = none) (hmb : mb "super" = some (.type "super")) (hlim : s.heap.NoLimit)
    (hx : s.heap.get? x = some (excO C t0)) (hnx : K.lookup x = none) (hroom : A.depth < recursionLimit) (htop : (prog.main.scope.names.lookup ("super" : Str)).isSome = false)
    (hfile : ∀ cda ccl cdd fs ccs file tf, K.lookup cda = some ⟨ccl, cdd, .fields fs, ccs⟩ → fs[2]? = some (.str file tf) → ((prog.main.file : Str) == file) = true)
    (bnd : ∀ qn p1 p2 body doc pm an cdv ct cc, BindsTo s (ksFn "__init__" qn (iArgs f p1 p2) body (iScope f) .none .none doc pm an cdv ct cc) args [("self", .ref x), (f, v)])
    (hq : ∀ h' tk dx t1, After s.heap h' x C dx t1 f v → R (.ok (.ret .none)) { s with heap := h', toks := tk }) :
    codeAny (model prog w) A (.call (.ref fI) args) R s := by
  obtain ⟨qn, msg, k, oc, doc, pm, ct, ccl, cll, od, an, cdd, cld, osl, ccs, csl, cda, cc, fs, file, tf, p1, p2, q1, q2, q3, q4, q5, q6, q7, q8, q9, q10, ho, hcd, hcode, hfs, hcell, pl, hread⟩ := T.fn
  obtain ⟨nm, qc, N, bs, bm, sn, sub, ab, col, dd, k0, k1, k2, k3, k5, hC, hbm⟩ := T.cls
  have fl := hfile _ _ _ _ _ _ _ hcode hfs
  have nsf : (f == ("self" : Str)) = false := by simpa using T.vs
  refine ks_codeAny_call_defAt (fd := ksFn "__init__" qn (iArgs f p1 p2) (iBody f msg k q1 q2 q3 q4 q5 q6 q7 q8 q9 q10) (iScope f) .none .none doc pm an (.ref cda) ct cc) (body := iBody f msg k q1 q2 q3 q4 q5 q6 q7 q8 q9 q10)
    (binds := [("self", .ref x), (f, v)]) hroom (X _ _ ho) rfl hlim (codeRec_of X hcd) rfl (bnd _ _ _ _ _ _ _ _ _ _) ?_ ?_ (fun h₁ ns₁ kp₁ => ?_) rfl rfl rfl
  · intro y hy
    simp only [ksFn, fnX, iScope, List.mem_cons, List.not_mem_nil, or_false] at hy
    rcases hy with rfl | rfl | rfl | rfl <;> first | decide | (show NameKind.local ≠ NameKind.cell; decide)
  · intro y hy
    simp only [List.mem_cons, List.not_mem_nil, or_false] at hy
    rcases hy with rfl | rfl
    · rfl
    · exact T.kl
  show PySem.wpAt (model prog w) (A.deeper (ksEnv qn (iScope f) s.heap.objs.size fI (.ref cda) cc)) (.func _ (ksEnv qn (iScope f) s.heap.objs.size fI (.ref cda) cc)) (execs _ (ksEnv qn (iScope f) s.heap.objs.size fI (.ref cda) cc)) _ _ _
  have lt : x < s.heap.objs.size := Heap.lt_size hx
  have F₁ : Fr (hideAll s.heap [x]) s.heap.objs.size h₁ (fun y => List.lookup y [(f, v), (("self" : Str), Value.ref x)]) :=
    ⟨ns₁, fun b o e => kp₁ b o (of_hideAll _ e), Nat.le_of_eq (hideAll_size _ _)⟩
  have N₁ : News (hideAll s.heap [x]) s.heap.objs.size h₁ [(x, excObj C t0 none .none)] := by
    intro p hp
    simp only [List.mem_cons, List.not_mem_nil, or_false] at hp
    subst hp
    exact ⟨kp₁ _ _ hx, Nat.ne_of_lt lt, hideAll_none _ (by simp)⟩
  have X₀ : K.In (hideAll s.heap [x]) := fun a o e => hideAll_get _ (X a o e) (by
    intro z
    simp only [List.mem_cons, List.not_mem_nil, or_false] at z
    rw [z, hnx] at e
    cases e)
  have X₁ : K.In h₁ := X.keeps kp₁
  have vself : (fun y => List.lookup y [(f, v), (("self" : Str), Value.ref x)]) "self" = some (.ref x) := by
    show List.lookup ("self" : Str) [(f, v), (("self" : Str), Value.ref x)] = some (.ref x)
    have : (("self" : Str) == f) = false := by
      rw [Bool.eq_false_iff]; intro z; exact T.vs (beq_iff_eq.mp z).symm
    simp [List.lookup, this]
  refine ks_wpAt_execs_cons ?_
  refine ks_wpAt_Expr_any ?_ (hi := by rfl) (hs := by rfl)
  refine ks_wpAt_MethodCall (pl := pl _) ?_ (he := hread _)
  refine ks_wpAt_super_base (f := fI) (cc := cda) (ar := { arg := "self", annotation := none, pos := p1 }) ?a1 ?a2 (by decide) rfl (X₁ _ _ ho) rfl rfl rfl (X₁ _ _ hcode) rfl hfs fl htop ?_
  case a1 => exact T.ks
  case a2 => exact T.kc
  refine ks_loadName_global rfl T.ks (Calls.loadGlobal_builtin (mg := mg) (mb := mb) (G.at fun o e => kp₁ _ _ e) hmg (Bt.at fun o e => kp₁ _ _ e) hmb ⟨rfl, ?_⟩)
  refine wpAny_loadName_free rfl T.kc rfl ⟨_, X₁ _ _ hcell, rfl⟩ ?_
  refine wpAny_loadName_local rfl rfl F₁.ns vself ?_
  refine ks_wpAny_isType_cls (X₁ _ _ hC) rfl ⟨rfl, ?_⟩
  refine ks_wpAny_call_super (X₁ _ _ hC) rfl (N₁ (x, excObj C t0 none .none) (by simp)).1 rfl (fun c z => by cases z) (looks_mroIn X₁ T.me) (fun h₂ e₂ kp₂ => ?_)
  obtain ⟨F₂, N₂, l₂⟩ := ks_newsPush (s := ⟨h₁, s.gens, s.drawn, s.toks + 2, s.os⟩) F₁ N₁ rfl e₂ kp₂
  refine kxs_method (i := "ValueError.__init__") kxs_ValueError F₂ X₀ N₂ (so := h₁.objs.size) (x := x) (C := C) (D := C) (by simp) (InstAt.of_exc0 N₂ (t := t0) (c2 := .none) (by simp)) T.tp T.su T.ve (by decide) (fun q h₃ F₃ N₃ l₃ => ?_)
  refine kxs_callWith1 N₃ (x := x) (i := "ValueError.__init__") (by simp) ?_ (by rfl) (by rfl)
  refine spliced_more (Calls.Constant_str (spliced_none ⟨kxs_at N₃ (by simp), ?_⟩))
  have qx : q ≠ x := Nat.ne_of_gt (l₃ (x, excObj C t0 none .none) (by simp))
  have sx : h₁.objs.size ≠ x := Nat.ne_of_gt (l₂ (x, excObj C t0 none .none) (by simp))
  refine kxs_call (i := "ValueError.__init__") F₃ X₀ N₃ F.excBase_ValueError T.qi (by simp) (UpdF.tail qx (UpdF.tail sx (UpdF.head (fun p hp => by simp at hp)))) (show 1 ≤ sizeLine by rw [sizeLine_eq]; decide) (fun t' h₄ F₄ N₄ l₄ => ?_)
  have hx₄ := (N₄ (x, excObj C t' none .none) (by simp)).1
  have X₄ : K.In h₄ := X₀.keeps F₄.keep
  have hcl : clsIn K C = some { name := nm, bases := bs, mro := .ref C :: bm, ns := N, qualname := qc, hasDict := true, slotNames := sn, subclasses := sub, abstract := ab, collection := col, hasDel := false } := by
    unfold clsIn; rw [hC] <;> rfl
  show PySem.wpAt _ _ _ (execs _ _) _ _ _
  refine ks_wpAt_execs_cons (wpAt_of_wpAny (plainObj_wpAny_Assign_Attribute ?_ (by rfl)))
  refine wpAny_Name (wpAny_loadName_local rfl T.kl F₄.ns (v := v) (by simp [List.lookup]) ?_) T.nd
  refine wpAny_Name (wpAny_loadName_local rfl rfl F₄.ns vself ?_) (by decide)
  refine set_plain X₄ (ox := excObj C t' none .none) (od := none) ⟨hx₄, rfl, rfl, trivial⟩ T.sa ?_
  refine exc_osa X₄ hx₄ hcl (show refsVE (.ref C :: bm) = true from hbm) rfl T.no (fun h₅ tk₅ dx k₅ dn dne hx₅ hn₅ => ?_)
  show PySem.wpAt _ _ _ (execs [] _) _ _ _
  have sz : s.heap.objs.size < h₄.objs.size := F₄.ns.lt
  refine wpAt_of_wpAny (wpAny_execs_nil (hq h₅ tk₅ dx t' ⟨fun b o hb e => k₅ b o hb (F₄.keep b o (hideAll_get _ e (by
    intro z
    simp only [List.mem_cons, List.not_mem_nil, or_false] at z
    exact hb z))), hx₅, Nat.le_of_lt (Nat.lt_of_lt_of_le sz dn), dne, hn₅⟩))
end
end ErrKw
end PySem

namespace L2
open PySem PySem.Spec PyProof.Rows PySem.ErrKw
/-- an own error class of this program, at C, called x, with the field f -/
structure ErrC (P : Program) (K : PySem.W.Frag) (mg : Str → Option Value) (x f : Str) (C fI : Addr) : Prop where
  own : Own K C fI f
  gC : mg x = some (.ref C)
  kC : PySem.W.keepIn K (.ref C) = true
  iC : PySem.W.findIn K (.ref C) "__init__" = some (some (.ref fI))
  tI : PySem.W.typeIn K (.ref fI) = some (.type "function")
  ga : PySem.W.findIn K (.ref C) "__getattribute__" = some (some (.builtin "BaseException.__getattribute__"))
  gg : PySem.W.findIn K (.ref C) "__getattr__" = some none
  exC : PySem.W.subIn K (.ref C) (.type "BaseException") = some true
  hdC : PySem.W.hasDictIn K C = true
  ca : PySem.W.findIn K (.ref C) "__class__" = some (some (.builtin "object.__class__"))
  cg : PySem.W.specialIn K (.builtin "object.__class__") "__get__" = some (some (.builtin "getset_descriptor.__get__"))
  ct : PySem.W.takesIn K (.builtin "object.__class__") = some true
  mo : PySem.W.mroIn K C (.type "object") = some true
  isC : (PySem.W.clsIn K C).isSome = true
  sup : mg "super" = none
  top : (P.main.scope.names.lookup ("super" : Str)).isSome = false
  fil : ∀ cda ccl cdd fs ccs file tf, K.lookup cda = some ⟨ccl, cdd, .fields fs, ccs⟩ → fs[2]? = some (.str file tf) → ((P.main.file : Str) == file) = true
section
variable {X : Cx} {x f : Str} {C fI : Addr} {pins : List (Addr × Obj)} {σ : St}
end
end L2

/-! Rules of my own: an own error raised, a try whose first clause names it, a def out of a table called. -/
namespace L2
open PySem PySem.Spec PyProof.Rows PySem.ErrKw
/-- an own error class that is raised and caught -/
structure ErrR (P : Program) (K : PySem.W.Frag) (mg : Str → Option Value) (x f : Str) (C fI : Addr) : Prop where
  c : ErrC P K mg x f C fI
  tyC : PySem.W.typeIn K (.ref C) = some (.type "type")
  te : PySem.W.exmOne K (.ref C) (.ref C) = some true
/-- C(e), to be raised -/
def tMkE (C : Addr) (f : Str) (te : TE) : St → Hp → XK → Prop := fun σ H Q => te σ H fun v H1 => ∀ d, H1 d = none → Q (.ref C) (some d) (upd H1 d (.xd [(f, v)]))
section
variable {X : Cx} {x f : Str} {C fI : Addr}
theorem pmk_err {a : Expr} {te : TE} {p pos : Pos} (Z : ErrR X.prog X.K X.mg x f C fI) (Bf : Giv f) (hr : Room 1 X.A) (ha : PE X a te) (hg : Gl X x := by rfl) (hdb : (x == ("__debug__" : Str)) = false := by decide)
    (he : starEach (a :: []) X.env = (false, eval a X.env) :: starEach [] X.env := by rfl) (hpl : (backTo pos (starEach [] X.env)).any (·.1) = false := by rfl) : PMk X (.Call (.Name x p) [a] [] pos) (tMkE C f te) := by
  intro pins s σ H Q I h
  refine wpAny_Call_Name_kw (ld_glob I hg Z.c.gC ?_ hdb)
  have pa : PA X [a] (tCons te tNil) := pa_cons ha pa_nil he
  refine PySem.W.callWith_K (h₀ := X.base) I.ok.mod.kin Z.c.kC (thn (pa.run pos pins s σ H (fun vs H1 => match vs with | [v] => ∀ d, H1 d = none → Q (.ref C) (some d) (upd H1 d (.xd [(f, v)])) | _ => False) I h) fun us s1 hh => ?_) he hpl
  obtain ⟨vs, H1, I1, r1, q1⟩ := hh
  refine ⟨I1.kIn, ?_⟩
  cases r1 with
  | nil => exact q1.elim
  | @cons v u vs us rv rn =>
    cases rn with
    | cons _ _ => exact q1.elim
    | nil =>
      obtain ⟨nm, qn, N, bs, bm, sn, sub, ab, col, dd, k0, k1, k2, k3, k5, hC, hbm⟩ := Z.c.own.cls
      have lim := I1.nolimit
      have Kn := I1.kIn
      have G := I1.mod.glob.keeps I1.bk
      obtain ⟨mb, B0, hmb⟩ := I1.mod.blt
      have Bt := B0.keeps I1.bk
      have sup : mb "super" = some (.type "super") := (hmb _ (by decide)).trans PyProof.Rows.Boot.«super»
      obtain ⟨hp, g, dr, tk, os⟩ := s1
      have up : ∀ b o, hp.get? b = some o → ((hp.push (PySem.W.kdv_tup [u])).push (PySem.HandSPX.excO C hp.objs.size)).get? b = some o := fun b o e => Heap.get?_push_of_some _ (Heap.get?_push_of_some _ e)
      have at1 : ((hp.push (PySem.W.kdv_tup [u])).push (PySem.HandSPX.excO C hp.objs.size)).get? (hp.objs.size + 1) = some (PySem.HandSPX.excO C hp.objs.size) := by heap_get
      have not1 : X.K.lookup (hp.objs.size + 1) = none := by
        cases e : X.K.lookup (hp.objs.size + 1) with
        | none => rfl
        | some o =>
          have z : hp.get? (hp.objs.size + 1) = some o := Kn _ _ e
          exact absurd (Nat.lt_of_succ_lt (Heap.lt_size z)) (Nat.lt_irrefl _)
      show wpAny _ _ (call (.ref C) [u]) _ _ _
      refine wpAny_call (kw_call F.excBase_ValueError (fun Y => PySem.HandSPX.refsVE_contains Y bm hbm) (Kn _ _ hC) (PySem.W.looks_findIn Kn Z.c.iC) (fun self => PySem.W.bind_fn Kn self Z.c.tI) (show 1 ≤ sizeLine by rw [sizeLine_eq]; decide) ?_)
      refine err_init (s := ⟨(hp.push (PySem.W.kdv_tup [u])).push (PySem.HandSPX.excO C hp.objs.size), g, dr, tk, os⟩) (mg := X.mg) (mb := mb) Z.c.own (v := u) (Kn.keeps up) (G.at fun o e => up _ _ e) (Bt.at fun o e => up _ _ e) Z.c.sup sup (lim.keeps up) at1 not1 ?_ Z.c.top Z.c.fil (Bf.place _ _ _) fun h' tk' d t1 M => ?_
      · have z := (hr.make C [u] []).dp
        omega
      · have ob := M.obj
        have old : ∀ b o, hp.get? b = some o → h'.get? b = some o := fun b o e => M.keep b o (Nat.ne_of_lt (Nat.lt_succ_of_lt (Heap.lt_size e))) (up b o e)
        have big : hp.objs.size ≤ d := by
          have z := M.big
          rw [Heap.size_push, Heap.size_push] at z
          omega
        obtain ⟨B, b1, b2⟩ := restrict h' fun b => decide (b ≠ hp.objs.size + 1)
        have bk : ∀ b, b ≠ hp.objs.size + 1 → B.get? b = h'.get? b := fun b z => b1 b (decide_eq_true z)
        have be : B.get? (hp.objs.size + 1) = none := b2 _ (by simp)
        have oldB : ∀ b o, hp.get? b = some o → B.get? b = some o := fun b o z => (bk b (Nat.ne_of_lt (Nat.lt_succ_of_lt (Heap.lt_size z)))).trans (old b o z)
        have new : ObjOk X.prog X.w (upd H1 d (.xd [(f, v)])) B d (.xd [(f, v)]) := ⟨_, M.ns.at (fun o z => (bk d M.ne).trans z), relO_put (fs := []) rv fun _ => True.intro⟩
        have J : Inv X pins σ (upd H1 d (.xd [(f, v)])) ⟨B, g, dr, tk', os⟩ := I1.laid (t' := tk') oldB big new
        refine ⟨rfl, hp.objs.size + 1, _, _, ⟨B, g, dr, tk', os⟩, _, .ref C, some d, rfl, J, fun b o z => ?_, be, ob, ⟨rfl, rfl⟩, rfl, rfl, ?_, rfl, I1.bare, raises_own Z.c.exC Z.tyC, q1 d (I1.hok.fresh big)⟩
        · by_cases e : b = hp.objs.size + 1
          · have z' : B.get? b = some o := z
            rw [e, be] at z'
            cases z'
          · exact (bk b e).symm.trans z
        · rw [upd_ne (Ne.symm M.ne)]
          exact I1.hok.fresh (Nat.le_succ _)
/-- raise C(e) -/
theorem ps_raiseE {a : Expr} {te : TE} {W : WX} {p pos pos2 : Pos} (hc : X.calm = true) (Z : ErrR X.prog X.K X.mg x f C fI) (Bf : Giv f) (hr : Room 1 X.A) (tk : Takes X W) (ha : PE X a te) (hg : Gl X x := by rfl) (hdb : (x == ("__debug__" : Str)) = false := by decide)
    (he : starEach (a :: []) X.env = (false, eval a X.env) :: starEach [] X.env := by rfl) (hpl : (backTo pos (starEach [] X.env)).any (·.1) = false := by rfl) :
    PS X (.Raise (some (.Call (.Name x p) [a] [] pos)) none pos2) (fun _ σ H => te σ H fun v H1 => ∀ d, H1 d = none → W (.ref C) (some d) σ (upd H1 d (.xd [(f, v)]))) := ps_raise hc tk (pmk_err Z Bf hr ha hg hdb he hpl)
end
/-! ### a table of defs -/
def tCallT {ι : Type} (i : Nat) (adr : ι → Addr) (sp : ι → Sp) (E : XK) (t : TA) : TE := fun σ H Q => ∃ j : ι, σ[i]? = some (some (.ref (adr j))) ∧ t σ H fun vs H1 => sp j vs H1 Q E
section
variable {X : Cx} {CX : CXT} {k i : Nat} {E : XK} {x : Str} {p pos : Pos} {e : Expr} {es : List Expr} {t : TA} {ι : Type} {adr : ι → Addr} {sp : ι → Sp}
end
end L2

/-! The small defs: integers, names. -/
namespace Ck
open PySem PySem.Spec PyProof.Rows L2
def topS (i : Nat) : Stmt := PySem.Challenge.pw_shellways_k20_where_trees_lead.main.body.getD i (.Pass ⟨0, 0, 0, 0⟩)
abbrev sIsInt : Stmt := topS 6
abbrev sIsWithin : Stmt := topS 7
abbrev sIsName : Stmt := topS 8
abbrev sIsNew : Stmt := topS 24
abbrev sHasParts : Stmt := topS 25
/-- what the module's names hold -/
structure Md (K : PySem.W.Frag) (mg : Str → Option Value) (w : World) (dR dS : Addr) (adr : Kind → Addr) : Prop where
  mi : mg "isinstance" = none
  ml : mg "len" = none
  mm : mg "min" = none
  mint : mg "int" = none
  mbool : mg "bool" = none
  mstr : mg "str" = none
  mtup : mg "tuple" = none
  ln : ∃ t, mg "LONGEST_NAME" = some (.int 12 t)
  mf : ∃ t, mg "MOST_FUNCTIONS" = some (.int 20 t)
  mt : ∃ t, mg "MOST_TREES" = some (.int 3000 t)
  mv : ∃ t, mg "MOST_VARIABLES" = some (.int 40 t)
  mu : ∃ t, mg "MOST_UNFOLDED" = some (.int 3000 t)
  lp : ∃ t, mg "LONGEST_PATH" = some (.int 60 t)
  gn : ∃ t, mg "GREATEST_NUMBER" = some (.int 255 t)
  mr : ∃ t, mg "MOST_ROUNDS" = some (.int 1000 t)
  gR : mg "RESERVED" = some (.ref dR)
  gS : mg "SIZES" = some (.ref dS)
  kR : ∃ es n, KDict K w dR es n
  kS : ∃ es n, KDict K w dS es n
  inR : ∀ z, ∃ r, PySem.W.nsIn K dR z = some r ∧ r.isSome = reserved.contains z
  inS : ∀ z, PySem.W.nsIn K dS z = some ((kindOf z).map fun k => .ref (adr k))
def isIb : T → Bool
  | .int _ => true
  | .bl _ => true
  | _ => false
def isBl : T → Bool
  | .bl _ => true
  | _ => false
def isSt : T → Bool
  | .str _ => true
  | _ => false
def isTu : T → Bool
  | .tup _ => true
  | _ => false
theorem Im.ty {K : PySem.W.Frag} {H : Hp} {v : V} {t : T} (h : Im K H v t) : ∃ n, TyX K H v (.type n) ∧ kitB n "int" = some (isIb t) ∧ kitB n "bool" = some (isBl t) ∧ kitB n "str" = some (isSt t) ∧ kitB n "tuple" = some (isTu t) := by
  cases h with
  | non => exact ⟨_, .base .non, (by show kitB "NoneType" "int" = some false; decide +kernel), (by show kitB "NoneType" "bool" = some false; decide +kernel), (by show kitB "NoneType" "str" = some false; decide +kernel), (by show kitB "NoneType" "tuple" = some false; decide +kernel)⟩
  | bl b => exact ⟨_, .base (.bl b), (by show kitB "bool" "int" = some true; decide +kernel), (by show kitB "bool" "bool" = some true; decide +kernel), (by show kitB "bool" "str" = some false; decide +kernel), (by show kitB "bool" "tuple" = some false; decide +kernel)⟩
  | int i => exact ⟨_, .base (.int i), (by show kitB "int" "int" = some true; decide +kernel), (by show kitB "int" "bool" = some false; decide +kernel), (by show kitB "int" "str" = some false; decide +kernel), (by show kitB "int" "tuple" = some false; decide +kernel)⟩
  | @str z _ => exact ⟨_, .base (.str z), (by show kitB "str" "int" = some false; decide +kernel), (by show kitB "str" "bool" = some false; decide +kernel), (by show kitB "str" "str" = some true; decide +kernel), (by show kitB "str" "tuple" = some false; decide +kernel)⟩
  | tup e _ => exact ⟨_, .base (.tup e), (by show kitB "tuple" "int" = some false; decide +kernel), (by show kitB "tuple" "bool" = some false; decide +kernel), (by show kitB "tuple" "str" = some false; decide +kernel), (by show kitB "tuple" "tuple" = some true; decide +kernel)⟩
  | odd a b c d e _ => exact ⟨_, a, b, c, d, e⟩
theorem if_yes {c : Bool} {A B : Prop} (hc : c = true) (h : A) : if c = true then A else B := by
  rw [if_pos hc]
  exact h
theorem if_no {c : Bool} {A B : Prop} (hc : c = false) (h : B) : if c = true then A else B := by
  rw [hc, if_neg Bool.false_ne_true]
  exact h
section
variable {K : PySem.W.Frag} {H : Hp} {v : V} {t : T} {Q : VK}
/-- isinstance's reading, by the four classes that are asked for -/
theorem is_int (h : Im K H v t) (q : Q (.bl (isIb t)) H) : rIsi K [v, .ty "int"] H Q := by
  obtain ⟨n, a, b, _⟩ := h.ty
  exact ⟨_, _, _, _, _, rfl, .ty _, a, kit_ty b, q⟩
theorem is_bool (h : Im K H v t) (q : Q (.bl (isBl t)) H) : rIsi K [v, .ty "bool"] H Q := by
  obtain ⟨n, a, _, b, _⟩ := h.ty
  exact ⟨_, _, _, _, _, rfl, .ty _, a, kit_ty b, q⟩
theorem is_str (h : Im K H v t) (q : Q (.bl (isSt t)) H) : rIsi K [v, .ty "str"] H Q := by
  obtain ⟨n, a, _, _, b, _⟩ := h.ty
  exact ⟨_, _, _, _, _, rfl, .ty _, a, kit_ty b, q⟩
theorem is_tup (h : Im K H v t) (q : Q (.bl (isTu t)) H) : rIsi K [v, .ty "tuple"] H Q := by
  obtain ⟨n, a, _, _, _, b⟩ := h.ty
  exact ⟨_, _, _, _, _, rfl, .ty _, a, kit_ty b, q⟩
end
section
variable {X : Cx} {e : Expr} {te : TE} {p q pos : Pos}
abbrev tIs (K : PySem.W.Frag) (c : String) (te : TE) : TE := tCB (rIsi K) (tCons te (tCons (tC (.ty c)) tNil))
theorem pe_is {c : Str} {n : String} (mi : X.mg "isinstance" = none) (mc : X.mg c = none) (bc : bootBuiltins c = some (.type n)) (hg : Gl X "isinstance") (hc : Gl X c) (he : PE X e te)
    (hn : c ≠ "__name__" := by decide) (hd : (c == ("__debug__" : Str)) = false := by decide)
    (h1 : starEach [e, .Name c p] X.env = (false, eval e X.env) :: starEach [.Name c p] X.env := by rfl) (h2 : starEach [.Name c p] X.env = (false, eval (.Name c p) X.env) :: starEach [] X.env := by rfl) (h3 : (backTo pos (starEach [.Name c p] X.env)).any (·.1) = false := by rfl) :
    PE X (.Call (.Name "isinstance" q) [e, .Name c p] [] pos) (tIs X.K n te) :=
  pe_callB call_isi hg mi (by decide +kernel) (pa_cons he (pa_cons (pe_bltn hc mc bc rfl hn hd) pa_nil h2) h1) (by decide) (by decide) h1 h3
end
section
variable {P : Program} {w : World} {K : PySem.W.Frag} {mg : Str → Option Value} {base : Heap} {dR dS : Addr} {adr : Kind → Addr}
theorem scI : FnScope ["value"] ["value"] (defScope sIsInt) := ⟨rfl, rfl, rfl, by decide +kernel, rfl, by decide +kernel, by decide +kernel⟩
theorem scW : FnScope ["value", "least", "most"] ["value", "least", "most"] (defScope sIsWithin) := ⟨rfl, rfl, rfl, by decide +kernel, rfl, by decide +kernel, by decide +kernel⟩
theorem scN : FnScope ["value"] ["value"] (defScope sIsName) := ⟨rfl, rfl, rfl, by decide +kernel, rfl, by decide +kernel, by decide +kernel⟩
def isInt : T → Bool
  | .int _ => true
  | _ => false
def spIsInt (K : PySem.W.Frag) : Sp := fun vs H Q _ => ∃ v t, vs = [v] ∧ Im K H v t ∧ Q (.bl (isInt t)) H
theorem ok_isInt {f : Addr} {fd : FuncData} (F : Fun K "is_integer" "is_integer" sIsInt f fd) (M : Md K mg w dR dS adr) : FnOk P w K mg base CX0 1 f fd ["value"] (spIsInt K) := by
  refine F.ok scI (fun vs H Q E h => ?_) (fun cdv A outer s H vs Q E hr h => ?_)
  · obtain ⟨_, _, rfl, _⟩ := h
    rfl
  obtain ⟨v, t, rfl, im, q⟩ := h
  refine ⟨_, pss_one (ps_ret (pe_and (pe_is (n := "int") M.mi M.mint (by decide +kernel) rfl rfl (pv 0)) (pe_one (pe_not (pe_is (n := "bool") M.mi M.mbool (by decide +kernel) rfl rfl (pv 0)))))), ?_⟩
  dsimp only [L2.tRet, L2.tRetN, tAndV, tOrV, tNotV, tCB, L2.tCons, L2.tNil, tC, tVar, L2.tOp, L2.tUn, tSeq, tAsg, gName, tIfS, tTest, tNext, tAnd, tOr, tNot, L2.tIf, tFld, sFld, sFldAug, tCall, tTup, tB, tAug, tDrop, L2.tSl, tPart, tNoPart, tBM, tBM0, tChain, gTup, gCons, gNil, tPar, tIs, List.set]
  refine ⟨_, rfl, is_int im ⟨_, rfl, ?_⟩⟩
  cases t with
  | int i => exact if_yes rfl ⟨_, rfl, is_bool im ⟨_, rfl, q⟩⟩
  | bl b => exact if_yes rfl ⟨_, rfl, is_bool im ⟨_, rfl, q⟩⟩
  | non => exact if_no rfl q
  | str _ => exact if_no rfl q
  | tup _ => exact if_no rfl q
  | odd _ => exact if_no rfl q
def spIsWithin (K : PySem.W.Frag) : Sp := fun vs H Q _ => ∃ v t lo hi, vs = [v, .int lo, .int hi] ∧ Im K H v t ∧ Q (.bl (within lo hi t)) H
theorem ok_isWithin {f : Addr} {fd : FuncData} (F : Fun K "is_integer_within" "is_integer_within" sIsWithin f fd) (M : Md K mg w dR dS adr) : FnOk P w K mg base CX0 1 f fd ["value", "least", "most"] (spIsWithin K) := by
  refine F.ok scW (fun vs H Q E h => ?_) (fun cdv A outer s H vs Q E hr h => ?_)
  · obtain ⟨_, _, _, _, rfl, _⟩ := h
    rfl
  obtain ⟨v, t, lo, hi, rfl, im, q⟩ := h
  refine ⟨_, pss_one (ps_ret (pe_and (pe_is (n := "int") M.mi M.mint (by decide +kernel) rfl rfl (pv 0)) (pe_and (pe_not (pe_is (n := "bool") M.mi M.mbool (by decide +kernel) rfl rfl (pv 0))) (pe_one (pe_chain op_le op_le (pv 1) (pv 0) (pv 2)))))), ?_⟩
  dsimp only [L2.tRet, L2.tRetN, tAndV, tOrV, tNotV, tCB, L2.tCons, L2.tNil, tC, tVar, L2.tOp, L2.tUn, tSeq, tAsg, gName, tIfS, tTest, tNext, tAnd, tOr, tNot, L2.tIf, tFld, sFld, sFldAug, tCall, tTup, tB, tAug, tDrop, L2.tSl, tPart, tNoPart, tBM, tBM0, tChain, gTup, gCons, gNil, tPar, tIs, List.set]
  refine ⟨_, rfl, is_int im ⟨_, rfl, ?_⟩⟩
  cases t with
  | int i =>
    cases im with
    | int _ =>
      refine if_yes rfl ⟨_, rfl, is_bool (.int i) ⟨_, rfl, ⟨_, rfl, if_yes rfl ?_⟩⟩⟩
      refine ⟨_, rfl, _, rfl, _, _, rfl, rfl, _, rfl, ?_⟩
      by_cases c : lo ≤ i
      · refine if_yes (decide_eq_true c) ⟨_, rfl, _, _, rfl, rfl, ?_⟩
        have e : within lo hi (.int i) = decide (i ≤ hi) := by simp [within, c]
        rw [e] at q
        exact q
      · refine if_no (decide_eq_false c) ?_
        have e : within lo hi (.int i) = false := by simp [within, c]
        rw [e] at q
        exact q
  | bl b => exact if_yes rfl ⟨_, rfl, is_bool im ⟨_, rfl, ⟨_, rfl, if_no rfl q⟩⟩⟩
  | non => exact if_no rfl q
  | str _ => exact if_no rfl q
  | tup _ => exact if_no rfl q
  | odd _ => exact if_no rfl q
/-! ### names -/
theorem reading {R : R2} {x y : V} {H : Hp} {Q Q' : VK} (h : R x y H Q) (e : Q = Q') : R x y H Q' := e ▸ h
def spIsName (K : PySem.W.Frag) : Sp := fun vs H Q _ => ∃ v t, vs = [v] ∧ Im K H v t ∧ Q (.bl (isName t)) H
theorem b3 {a b : Bool} {P : Bool → Prop} (h1 : a = true → P b) (h0 : a = false → P false) : P (a && b) := by cases a with | true => exact h1 rfl | false => exact h0 rfl
theorem ok_isName {f : Addr} {fd : FuncData} (F : Fun K "is_name" "is_name" sIsName f fd) (M : Md K mg w dR dS adr) : FnOk P w K mg base CX0 1 f fd ["value"] (spIsName K) := by
  obtain ⟨lt, hln⟩ := M.ln
  obtain ⟨es, n, hD⟩ := M.kR
  refine F.ok scN (fun vs H Q E h => ?_) (fun cdv A outer s H vs Q E hr h => ?_)
  · obtain ⟨_, _, rfl, _⟩ := h
    rfl
  obtain ⟨v, t, rfl, im, q⟩ := h
  refine ⟨_, pss_cons (ps_if (PW.pt (pw_or (pt_not (pt_val (pe_is (n := "str") M.mi M.mstr (by decide +kernel) rfl rfl (pv 0)))) (pw_or1 (pt_cmpR op_gt (pe_callB call_len_str rfl M.ml PySem.boot_len (pa_cons (pv 0) pa_nil)) (pe_glob (v := .int 12) rfl hln ⟨_, rfl⟩) (nomark _))))) (pss_one (ps_ret pe_bl)) pss_nil)
    (pss_one (ps_ret (pe_and (pe_bm0 PySem.F.plainAttrs_str PySem.F.slot_str_isascii PySem.F.type_str_isascii mt_isascii (pv 0)) (pe_and (pe_bm0 PySem.F.plainAttrs_str PySem.F.slot_str_isalpha PySem.F.type_str_isalpha mt_isalpha (pv 0))
      (pe_and (pe_bm0 PySem.F.plainAttrs_str PySem.F.slot_str_islower PySem.F.type_str_islower mt_islower (pv 0)) (pe_one (pe_cmpR (op_notIn_kd hD) (pv 0) (pe_glob (v := .ref dR) rfl M.gR rfl) (by rfl)))))))), ?_⟩
  dsimp only [L2.tRet, L2.tRetN, tAndV, tOrV, tNotV, tCB, L2.tCons, L2.tNil, tC, tVar, L2.tOp, L2.tUn, tSeq, tAsg, gName, tIfS, tTest, tNext, tAnd, tOr, tNot, L2.tIf, tFld, sFld, sFldAug, tCall, tTup, tB, tAug, tDrop, L2.tSl, tPart, tNoPart, tBM, tBM0, tChain, gTup, gCons, gNil, tPar, tIs, List.set]
  refine ⟨_, rfl, is_str im ⟨_, rfl, ?_⟩⟩
  have no : isSt t = false → Q (.bl false) H := fun e => by
    have z : isName t = false := by cases t <;> simp_all [isSt, isName]
    rw [z] at q
    exact q
  cases e : isSt t with
  | false => exact if_yes rfl (no e)
  | true =>
    cases t with
    | str z =>
      cases im with
      | str hz =>
      refine if_no rfl ?_
      refine ⟨_, rfl, _, rfl, hz, _, _, rfl, rfl, _, rfl, ?_⟩
      have qq : Q (.bl (nameOk z)) H := q
      unfold nameOk at qq
      by_cases c : (z.length : Int) ≤ 12
      · rw [decide_eq_true c, Bool.true_and] at qq
        refine if_no (decide_eq_false (by omega)) ?_
        refine ⟨_, rfl, rfl, _, rfl, rfl, True.intro, _, rfl, ?_⟩
        cases a1 : Txt.isascii z with
        | false => rw [a1] at qq; exact if_no rfl qq
        | true =>
          rw [a1, Bool.true_and] at qq
          refine if_yes rfl ⟨_, rfl, rfl, _, rfl, rfl, True.intro, _, rfl, ?_⟩
          cases a2 : Txt.isalpha z with
          | false => rw [a2] at qq; exact if_no rfl qq
          | true =>
            rw [a2, Bool.true_and] at qq
            refine if_yes rfl ⟨_, rfl, rfl, _, rfl, rfl, True.intro, _, rfl, ?_⟩
            cases a3 : Txt.islower z with
            | false => rw [a3] at qq; exact if_no rfl qq
            | true =>
              rw [a3, Bool.true_and] at qq
              obtain ⟨r, h1, h2⟩ := M.inR z
              rw [← h2] at qq
              exact if_yes rfl ⟨_, rfl, _, _, rfl, rfl, h1, qq⟩
      · rw [decide_eq_false c, Bool.false_and] at qq
        exact if_yes (decide_eq_true (by omega)) qq
    | non => simp [isSt] at e
    | bl _ => simp [isSt] at e
    | int _ => simp [isSt] at e
    | tup _ => simp [isSt] at e
    | odd _ => simp [isSt] at e
end
end Ck

set_option maxHeartbeats 0
/-! What the module's top leaves: the objects that the walk reads; the top by one run. -/
namespace Wk
open PySem PySem.Spec PyProof.Rows L2 Ck
abbrev kE (P : Params) (x : Str) (t : Tok) (v : Value) : DictEntry := ⟨PyData.keyHash P x, .str x t, v⟩
abbrev kFn (n q : Str) (s : Stmt) (d k doc pm : Value) (an : Option Addr) (c ct : Value) : FuncData := PySem.W.fnOf n q (defArgs s) (defBody s) (defScope s) d k doc pm an c ct
def kHeap : Params → PySem.W.Frag := fun P =>
  (nat_lit 2, ⟨.none, none, .dict [].toArray 0, [].toArray⟩) ::
  (nat_lit 3, ⟨.type "dict", none, .dict [kE P "__name__" 165 (.str "law_shellways_k20_where_trees_lead" 828), kE P "__doc__" 166 (.none), kE P "__package__" 167 (.none), kE P "__loader__" 168 (.builtin "__main__.__loader__#opaque"), kE P "__spec__" 169 (.none), kE P "__annotations__" 170 (.ref 6), kE P "__builtins__" 171 (.ref 4), kE P "__file__" 173 (.str "/claim/cut.py" 172), kE P "__cached__" 174 (.none), kE P "ShellError" 206 (.ref 24), kE P "InvalidProgram" 233 (.ref 46), kE P "LONGEST_NAME" 237 (.int (12) 236), kE P "RESERVED" 288 (.ref 49), kE P "is_integer" 295 (.ref 57), kE P "is_integer_within" 304 (.ref 64), kE P "is_name" 311 (.ref 71), kE P "MOST_FUNCTIONS" 315 (.int (20) 314), kE P "MOST_TREES" 317 (.int (3000) 316), kE P "MOST_VARIABLES" 319 (.int (40) 318), kE P "MOST_UNFOLDED" 321 (.int (3000) 320), kE P "LONGEST_PATH" 323 (.int (60) 322), kE P "GREATEST_NUMBER" 325 (.int (255) 324), kE P "MOST_ROUNDS" 327 (.int (1000) 326), kE P "Check" 362 (.ref 88), kE P "checked" 376 (.ref 99), kE P "is_outline" 383 (.ref 106), kE P "is_entry" 391 (.ref 113), kE P "size_of_all" 404 (.ref 120), kE P "size_inside" 414 (.ref 127), kE P "size_behind_barrier" 426 (.ref 134), kE P "is_new_name" 434 (.ref 141), kE P "has_parts" 441 (.ref 148), kE P "size_of_run" 450 (.ref 155), kE P "size_of_status" 459 (.ref 162), kE P "size_with_variable" 468 (.ref 169), kE P "size_of_put" 477 (.ref 176), kE P "size_of_option" 486 (.ref 183), kE P "size_of_trap" 495 (.ref 190), kE P "size_of_seq" 504 (.ref 197), kE P "size_of_pipe" 513 (.ref 204), kE P "size_of_and_or" 522 (.ref 211), kE P "size_of_not" 531 (.ref 218), kE P "size_of_sub" 540 (.ref 225), kE P "size_of_if" 549 (.ref 232), kE P "size_of_while" 559 (.ref 239), kE P "size_of_times" 569 (.ref 246), kE P "size_of_jump" 578 (.ref 253), kE P "size_of_call" 587 (.ref 260), kE P "size_of_return" 596 (.ref 267), kE P "size_of_exit" 605 (.ref 274), kE P "SIZES" 652 (.ref 275), kE P "PLACES" 688 (.ref 277), kE P "parts_of" 694 (.ref 291), kE P "LOOPS" 700 (.ref 292), kE P "Node" 743 (.ref 316), kE P "Plan" 779 (.ref 337), kE P "plan_of" 786 (.ref 348), kE P "all_nodes" 795 (.ref 355), kE P "nodes_within" 801 (.ref 362), kE P "targets" 809 (.ref 367), kE P "loop_around" 818 (.ref 374), kE P "shell_around" 827 (.ref 381), kE P "_law_mixed" 838 (.ref 388), kE P "_law_source" 845 (.ref 395), kE P "_law_take" 854 (.ref 402), kE P "_law_pick" 862 (.ref 409), kE P "_law_jump" 877 (.ref 416), kE P "_law_form" 883 (.ref 421), kE P "_law_weight" 889 (.ref 426), kE P "_law_light" 900 (.ref 433), kE P "_law_plan" 914 (.ref 440), kE P "_law_kids" 920 (.ref 445), kE P "_law_spots" 931 (.ref 452), kE P "_law_all_spots" 942 (.ref 459), kE P "_law_leads" 957 (.ref 466), kE P "law" 974 (.ref 473)].toArray 76, [].toArray⟩) ::
  (nat_lit 15, ⟨.type "tuple", none, .seq [.type "ValueError"].toArray 0, [].toArray⟩) ::
  (nat_lit 22, ⟨.type "tuple", none, .seq [].toArray 0, [].toArray⟩) ::
  (nat_lit 23, ⟨.type "dict", none, .dict [kE P "__module__" 196 (.str "shellways.errors" 187), kE P "__firstlineno__" 200 (.int (2) 199), kE P "__static_attributes__" 201 (.ref 22), kE P "__weakref__" 203 (.ref 25), kE P "__doc__" 204 (.none)].toArray 3, [].toArray⟩) ::
  (nat_lit 24, ⟨.type "type", none, .cls ⟨"ShellError", [.type "ValueError"], [.ref 24, .type "ValueError", .type "Exception", .type "BaseException", .type "object"], 23, "ShellError", true, [], [.ref 46], false, none, false⟩, [(some (.ref 15)), none, (some (.str "ShellError" 189)), (some (.str "ShellError" 197)), (some (.builtin "ValueError.__new__")), (some (.bool true))].toArray⟩) ::
  (nat_lit 25, ⟨.type "getset_descriptor", none, .fields [.str "__weakref__" 202, .ref 24, .builtin "ExceptionGroup.__weakref__", .none].toArray, [].toArray⟩) ::
  (nat_lit 28, ⟨.type "tuple", none, .seq [.ref 24].toArray 0, [].toArray⟩) ::
  (nat_lit 31, ⟨.type "cell", none, .cell (some (.ref 46)), [].toArray⟩) ::
  (nat_lit 36, ⟨.type "tuple", none, .seq [.ref 31].toArray 0, [].toArray⟩) ::
  (nat_lit 37, ⟨.type "tuple", none, .seq [.str "__class__" 222].toArray 0, [].toArray⟩) ::
  (nat_lit 39, ⟨.type "tuple", none, .seq [.str "self" 223, .str "path" 224].toArray 0, [].toArray⟩) ::
  (nat_lit 40, ⟨.type "tuple", none, .seq [].toArray 0, [].toArray⟩) ::
  (nat_lit 42, ⟨.type "code", none, .fields [.str "__init__" 219, .str "InvalidProgram.__init__" 220, .str "/claim/cut.py" 221, .int (6) 0, .int (2) 0, .int (0) 0, .int (0) 0, .int (3) 0, .ref 37, .bool true, .int (181) 0, .ref 38, .none, .ref 39, .ref 40, .ref 41, .int (225) 0, .int (6) 0, .str "/claim/cut.py" 226].toArray, [].toArray⟩) ::
  (nat_lit 43, ⟨.type "function", none, .func ⟨"__init__", "InvalidProgram.__init__", defArgs (inClass (topS 2) 0), .stmts (defBody (inClass (topS 2) 0)), defScope (inClass (topS 2) 0), 3, [("__class__", 31)], .none, .none, .none, .str "shellways.errors" 187, none, .ref 42, .ref 36, 0⟩, [].toArray⟩) ::
  (nat_lit 44, ⟨.type "tuple", none, .seq [.str "path" 228].toArray 0, [].toArray⟩) ::
  (nat_lit 45, ⟨.type "dict", none, .dict [kE P "__module__" 214 (.str "shellways.errors" 187), kE P "__firstlineno__" 218 (.int (4) 217), kE P "__init__" 227 (.ref 43), kE P "__static_attributes__" 229 (.ref 44), kE P "__doc__" 231 (.none)].toArray 3, [].toArray⟩) ::
  (nat_lit 46, ⟨.type "type", none, .cls ⟨"InvalidProgram", [.ref 24], [.ref 46, .ref 24, .type "ValueError", .type "Exception", .type "BaseException", .type "object"], 45, "InvalidProgram", true, [], [], false, none, false⟩, [(some (.ref 28)), none, (some (.str "InvalidProgram" 207)), (some (.str "InvalidProgram" 215)), (some (.builtin "ValueError.__new__")), (some (.bool true))].toArray⟩) ::
  (nat_lit 49, ⟨.type "dict", none, .dict [kE P "def" 238 (.bool true), kE P "call" 240 (.bool true), kE P "status" 242 (.bool true), kE P "give" 244 (.bool true), kE P "zero" 246 (.bool true), kE P "keep" 248 (.bool true), kE P "put" 250 (.bool true), kE P "option" 252 (.bool true), kE P "trap" 254 (.bool true), kE P "on" 256 (.bool true), kE P "off" 258 (.bool true), kE P "if" 260 (.bool true), kE P "then" 262 (.bool true), kE P "else" 264 (.bool true), kE P "while" 266 (.bool true), kE P "until" 268 (.bool true), kE P "times" 270 (.bool true), kE P "do" 272 (.bool true), kE P "end" 273 (.bool true), kE P "break" 274 (.bool true), kE P "next" 275 (.bool true), kE P "return" 276 (.bool true), kE P "exit" 277 (.bool true), kE P "fail" 278 (.bool true), kE P "pipes" 279 (.bool true)].toArray 25, [].toArray⟩) ::
  (nat_lit 51, ⟨.type "tuple", none, .seq [].toArray 0, [].toArray⟩) ::
  (nat_lit 53, ⟨.type "tuple", none, .seq [.str "value" 292].toArray 0, [].toArray⟩) ::
  (nat_lit 54, ⟨.type "tuple", none, .seq [].toArray 0, [].toArray⟩) ::
  (nat_lit 56, ⟨.type "code", none, .fields [.str "is_integer" 289, .str "is_integer" 290, .str "/claim/cut.py" 291, .int (12) 0, .int (1) 0, .int (0) 0, .int (0) 0, .int (3) 0, .ref 51, .bool true, .int (181) 0, .ref 52, .none, .ref 53, .ref 54, .ref 55, .int (293) 0, .int (12) 0, .str "/claim/cut.py" 294].toArray, [].toArray⟩) ::
  (nat_lit 57, ⟨.type "function", none, .func (kFn "is_integer" "is_integer" (topS 6) (.none) (.none) (.none) (.str "shellways.kinds" 234) none (.ref 56) (.none)), [].toArray⟩) ::
  (nat_lit 58, ⟨.type "tuple", none, .seq [].toArray 0, [].toArray⟩) ::
  (nat_lit 60, ⟨.type "tuple", none, .seq [.str "value" 299, .str "least" 300, .str "most" 301].toArray 0, [].toArray⟩) ::
  (nat_lit 61, ⟨.type "tuple", none, .seq [].toArray 0, [].toArray⟩) ::
  (nat_lit 63, ⟨.type "code", none, .fields [.str "is_integer_within" 296, .str "is_integer_within" 297, .str "/claim/cut.py" 298, .int (14) 0, .int (3) 0, .int (0) 0, .int (0) 0, .int (3) 0, .ref 58, .bool true, .int (181) 0, .ref 59, .none, .ref 60, .ref 61, .ref 62, .int (302) 0, .int (14) 0, .str "/claim/cut.py" 303].toArray, [].toArray⟩) ::
  (nat_lit 64, ⟨.type "function", none, .func (kFn "is_integer_within" "is_integer_within" (topS 7) (.none) (.none) (.none) (.str "shellways.kinds" 234) none (.ref 63) (.none)), [].toArray⟩) ::
  (nat_lit 65, ⟨.type "tuple", none, .seq [].toArray 0, [].toArray⟩) ::
  (nat_lit 67, ⟨.type "tuple", none, .seq [.str "value" 308].toArray 0, [].toArray⟩) ::
  (nat_lit 68, ⟨.type "tuple", none, .seq [].toArray 0, [].toArray⟩) ::
  (nat_lit 70, ⟨.type "code", none, .fields [.str "is_name" 305, .str "is_name" 306, .str "/claim/cut.py" 307, .int (16) 0, .int (1) 0, .int (0) 0, .int (0) 0, .int (3) 0, .ref 65, .bool true, .int (181) 0, .ref 66, .none, .ref 67, .ref 68, .ref 69, .int (309) 0, .int (16) 0, .str "/claim/cut.py" 310].toArray, [].toArray⟩) ::
  (nat_lit 71, ⟨.type "function", none, .func (kFn "is_name" "is_name" (topS 8) (.none) (.none) (.none) (.str "shellways.kinds" 234) none (.ref 70) (.none)), [].toArray⟩) ::
  (nat_lit 79, ⟨.type "tuple", none, .seq [].toArray 0, [].toArray⟩) ::
  (nat_lit 81, ⟨.type "tuple", none, .seq [.str "self" 343].toArray 0, [].toArray⟩) ::
  (nat_lit 82, ⟨.type "tuple", none, .seq [].toArray 0, [].toArray⟩) ::
  (nat_lit 84, ⟨.type "code", none, .fields [.str "__init__" 340, .str "Check.__init__" 341, .str "/claim/cut.py" 342, .int (30) 0, .int (1) 0, .int (0) 0, .int (0) 0, .int (3) 0, .ref 79, .bool true, .int (181) 0, .ref 80, .none, .ref 81, .ref 82, .ref 83, .int (344) 0, .int (30) 0, .str "/claim/cut.py" 345].toArray, [].toArray⟩) ::
  (nat_lit 85, ⟨.type "function", none, .func (kFn "__init__" "Check.__init__" (inClass (topS 17) 0) (.none) (.none) (.none) (.str "shellways.checks" 312) none (.ref 84) (.none)), [].toArray⟩) ::
  (nat_lit 86, ⟨.type "tuple", none, .seq [.str "commands" 347, .str "functions" 348, .str "loops" 349, .str "places" 350, .str "returns" 351, .str "trees" 352, .str "unfolded" 353, .str "variables" 354].toArray 0, [].toArray⟩) ::
  (nat_lit 87, ⟨.type "dict", none, .dict [kE P "__module__" 335 (.str "shellways.checks" 312), kE P "__firstlineno__" 339 (.int (28) 338), kE P "__init__" 346 (.ref 85), kE P "__static_attributes__" 355 (.ref 86), kE P "__dict__" 357 (.ref 89), kE P "__weakref__" 359 (.ref 90), kE P "__doc__" 360 (.none)].toArray 4, [].toArray⟩) ::
  (nat_lit 88, ⟨.type "type", none, .cls ⟨"Check", [.type "object"], [.ref 88, .type "object"], 87, "Check", true, [], [], false, none, false⟩, [none, none, (some (.str "Check" 328)), (some (.str "Check" 336)), (some (.builtin "object.__new__")), (some (.bool true))].toArray⟩) ::
  (nat_lit 89, ⟨.type "getset_descriptor", none, .fields [.str "__dict__" 356, .ref 88, .builtin "function.__dict__", .builtin "function.__dict__#set"].toArray, [].toArray⟩) ::
  (nat_lit 90, ⟨.type "getset_descriptor", none, .fields [.str "__weakref__" 358, .ref 88, .builtin "ExceptionGroup.__weakref__", .none].toArray, [].toArray⟩) ::
  (nat_lit 93, ⟨.type "tuple", none, .seq [].toArray 0, [].toArray⟩) ::
  (nat_lit 95, ⟨.type "tuple", none, .seq [.str "program" 366, .str "functions" 367, .str "main" 368, .str "check" 369, .str "number" 370, .str "entry" 371, .str "name" 372, .str "body" 373].toArray 0, [].toArray⟩) ::
  (nat_lit 96, ⟨.type "tuple", none, .seq [].toArray 0, [].toArray⟩) ::
  (nat_lit 98, ⟨.type "code", none, .fields [.str "checked" 363, .str "checked" 364, .str "/claim/cut.py" 365, .int (39) 0, .int (1) 0, .int (0) 0, .int (0) 0, .int (3) 0, .ref 93, .bool true, .int (181) 0, .ref 94, .none, .ref 95, .ref 96, .ref 97, .int (374) 0, .int (39) 0, .str "/claim/cut.py" 375].toArray, [].toArray⟩) ::
  (nat_lit 99, ⟨.type "function", none, .func (kFn "checked" "checked" (topS 18) (.none) (.none) (.none) (.str "shellways.checks" 312) none (.ref 98) (.none)), [].toArray⟩) ::
  (nat_lit 100, ⟨.type "tuple", none, .seq [].toArray 0, [].toArray⟩) ::
  (nat_lit 102, ⟨.type "tuple", none, .seq [.str "program" 380].toArray 0, [].toArray⟩) ::
  (nat_lit 103, ⟨.type "tuple", none, .seq [].toArray 0, [].toArray⟩) ::
  (nat_lit 105, ⟨.type "code", none, .fields [.str "is_outline" 377, .str "is_outline" 378, .str "/claim/cut.py" 379, .int (57) 0, .int (1) 0, .int (0) 0, .int (0) 0, .int (3) 0, .ref 100, .bool true, .int (181) 0, .ref 101, .none, .ref 102, .ref 103, .ref 104, .int (381) 0, .int (57) 0, .str "/claim/cut.py" 382].toArray, [].toArray⟩) ::
  (nat_lit 106, ⟨.type "function", none, .func (kFn "is_outline" "is_outline" (topS 19) (.none) (.none) (.none) (.str "shellways.checks" 312) none (.ref 105) (.none)), [].toArray⟩) ::
  (nat_lit 107, ⟨.type "tuple", none, .seq [].toArray 0, [].toArray⟩) ::
  (nat_lit 109, ⟨.type "tuple", none, .seq [.str "entry" 387, .str "functions" 388].toArray 0, [].toArray⟩) ::
  (nat_lit 110, ⟨.type "tuple", none, .seq [].toArray 0, [].toArray⟩) ::
  (nat_lit 112, ⟨.type "code", none, .fields [.str "is_entry" 384, .str "is_entry" 385, .str "/claim/cut.py" 386, .int (61) 0, .int (2) 0, .int (0) 0, .int (0) 0, .int (3) 0, .ref 107, .bool true, .int (181) 0, .ref 108, .none, .ref 109, .ref 110, .ref 111, .int (389) 0, .int (61) 0, .str "/claim/cut.py" 390].toArray, [].toArray⟩) ::
  (nat_lit 113, ⟨.type "function", none, .func (kFn "is_entry" "is_entry" (topS 20) (.none) (.none) (.none) (.str "shellways.checks" 312) none (.ref 112) (.none)), [].toArray⟩) ::
  (nat_lit 114, ⟨.type "tuple", none, .seq [].toArray 0, [].toArray⟩) ::
  (nat_lit 116, ⟨.type "tuple", none, .seq [.str "check" 395, .str "trees" 396, .str "place" 397, .str "size" 398, .str "tree" 399, .str "inside" 400, .str "action" 401].toArray 0, [].toArray⟩) ::
  (nat_lit 117, ⟨.type "tuple", none, .seq [].toArray 0, [].toArray⟩) ::
  (nat_lit 119, ⟨.type "code", none, .fields [.str "size_of_all" 392, .str "size_of_all" 393, .str "/claim/cut.py" 394, .int (65) 0, .int (3) 0, .int (0) 0, .int (0) 0, .int (3) 0, .ref 114, .bool true, .int (181) 0, .ref 115, .none, .ref 116, .ref 117, .ref 118, .int (402) 0, .int (65) 0, .str "/claim/cut.py" 403].toArray, [].toArray⟩) ::
  (nat_lit 120, ⟨.type "function", none, .func (kFn "size_of_all" "size_of_all" (topS 21) (.none) (.none) (.none) (.str "shellways.checks" 312) none (.ref 119) (.none)), [].toArray⟩) ::
  (nat_lit 121, ⟨.type "tuple", none, .seq [].toArray 0, [].toArray⟩) ::
  (nat_lit 123, ⟨.type "tuple", none, .seq [.str "check" 408, .str "parts" 409, .str "place" 410, .str "size" 411].toArray 0, [].toArray⟩) ::
  (nat_lit 124, ⟨.type "tuple", none, .seq [].toArray 0, [].toArray⟩) ::
  (nat_lit 126, ⟨.type "code", none, .fields [.str "size_inside" 405, .str "size_inside" 406, .str "/claim/cut.py" 407, .int (80) 0, .int (3) 0, .int (0) 0, .int (0) 0, .int (3) 0, .ref 121, .bool true, .int (181) 0, .ref 122, .none, .ref 123, .ref 124, .ref 125, .int (412) 0, .int (80) 0, .str "/claim/cut.py" 413].toArray, [].toArray⟩) ::
  (nat_lit 127, ⟨.type "function", none, .func (kFn "size_inside" "size_inside" (topS 22) (.none) (.none) (.none) (.str "shellways.checks" 312) none (.ref 126) (.none)), [].toArray⟩) ::
  (nat_lit 128, ⟨.type "tuple", none, .seq [].toArray 0, [].toArray⟩) ::
  (nat_lit 130, ⟨.type "tuple", none, .seq [.str "check" 418, .str "parts" 419, .str "place" 420, .str "loops" 421, .str "returns" 422, .str "size" 423].toArray 0, [].toArray⟩) ::
  (nat_lit 131, ⟨.type "tuple", none, .seq [].toArray 0, [].toArray⟩) ::
  (nat_lit 133, ⟨.type "code", none, .fields [.str "size_behind_barrier" 415, .str "size_behind_barrier" 416, .str "/claim/cut.py" 417, .int (87) 0, .int (3) 0, .int (0) 0, .int (0) 0, .int (3) 0, .ref 128, .bool true, .int (181) 0, .ref 129, .none, .ref 130, .ref 131, .ref 132, .int (424) 0, .int (87) 0, .str "/claim/cut.py" 425].toArray, [].toArray⟩) ::
  (nat_lit 134, ⟨.type "function", none, .func (kFn "size_behind_barrier" "size_behind_barrier" (topS 23) (.none) (.none) (.none) (.str "shellways.checks" 312) none (.ref 133) (.none)), [].toArray⟩) ::
  (nat_lit 135, ⟨.type "tuple", none, .seq [].toArray 0, [].toArray⟩) ::
  (nat_lit 137, ⟨.type "tuple", none, .seq [.str "names" 430, .str "value" 431].toArray 0, [].toArray⟩) ::
  (nat_lit 138, ⟨.type "tuple", none, .seq [].toArray 0, [].toArray⟩) ::
  (nat_lit 140, ⟨.type "code", none, .fields [.str "is_new_name" 427, .str "is_new_name" 428, .str "/claim/cut.py" 429, .int (96) 0, .int (2) 0, .int (0) 0, .int (0) 0, .int (3) 0, .ref 135, .bool true, .int (181) 0, .ref 136, .none, .ref 137, .ref 138, .ref 139, .int (432) 0, .int (96) 0, .str "/claim/cut.py" 433].toArray, [].toArray⟩) ::
  (nat_lit 141, ⟨.type "function", none, .func (kFn "is_new_name" "is_new_name" (topS 24) (.none) (.none) (.none) (.str "shellways.checks" 312) none (.ref 140) (.none)), [].toArray⟩) ::
  (nat_lit 142, ⟨.type "tuple", none, .seq [].toArray 0, [].toArray⟩) ::
  (nat_lit 144, ⟨.type "tuple", none, .seq [.str "tree" 438].toArray 0, [].toArray⟩) ::
  (nat_lit 145, ⟨.type "tuple", none, .seq [].toArray 0, [].toArray⟩) ::
  (nat_lit 147, ⟨.type "code", none, .fields [.str "has_parts" 435, .str "has_parts" 436, .str "/claim/cut.py" 437, .int (103) 0, .int (1) 0, .int (0) 0, .int (0) 0, .int (3) 0, .ref 142, .bool true, .int (181) 0, .ref 143, .none, .ref 144, .ref 145, .ref 146, .int (439) 0, .int (103) 0, .str "/claim/cut.py" 440].toArray, [].toArray⟩) ::
  (nat_lit 148, ⟨.type "function", none, .func (kFn "has_parts" "has_parts" (topS 25) (.none) (.none) (.none) (.str "shellways.checks" 312) none (.ref 147) (.none)), [].toArray⟩) ::
  (nat_lit 149, ⟨.type "tuple", none, .seq [].toArray 0, [].toArray⟩) ::
  (nat_lit 151, ⟨.type "tuple", none, .seq [.str "check" 445, .str "tree" 446, .str "place" 447].toArray 0, [].toArray⟩) ::
  (nat_lit 152, ⟨.type "tuple", none, .seq [].toArray 0, [].toArray⟩) ::
  (nat_lit 154, ⟨.type "code", none, .fields [.str "size_of_run" 442, .str "size_of_run" 443, .str "/claim/cut.py" 444, .int (105) 0, .int (3) 0, .int (0) 0, .int (0) 0, .int (3) 0, .ref 149, .bool true, .int (181) 0, .ref 150, .none, .ref 151, .ref 152, .ref 153, .int (448) 0, .int (105) 0, .str "/claim/cut.py" 449].toArray, [].toArray⟩) ::
  (nat_lit 155, ⟨.type "function", none, .func (kFn "size_of_run" "size_of_run" (topS 26) (.none) (.none) (.none) (.str "shellways.checks" 312) none (.ref 154) (.none)), [].toArray⟩) ::
  (nat_lit 156, ⟨.type "tuple", none, .seq [].toArray 0, [].toArray⟩) ::
  (nat_lit 158, ⟨.type "tuple", none, .seq [.str "check" 454, .str "tree" 455, .str "place" 456].toArray 0, [].toArray⟩) ::
  (nat_lit 159, ⟨.type "tuple", none, .seq [].toArray 0, [].toArray⟩) ::
  (nat_lit 161, ⟨.type "code", none, .fields [.str "size_of_status" 451, .str "size_of_status" 452, .str "/claim/cut.py" 453, .int (107) 0, .int (3) 0, .int (0) 0, .int (0) 0, .int (3) 0, .ref 156, .bool true, .int (181) 0, .ref 157, .none, .ref 158, .ref 159, .ref 160, .int (457) 0, .int (107) 0, .str "/claim/cut.py" 458].toArray, [].toArray⟩) ::
  (nat_lit 162, ⟨.type "function", none, .func (kFn "size_of_status" "size_of_status" (topS 27) (.none) (.none) (.none) (.str "shellways.checks" 312) none (.ref 161) (.none)), [].toArray⟩) ::
  (nat_lit 163, ⟨.type "tuple", none, .seq [].toArray 0, [].toArray⟩) ::
  (nat_lit 165, ⟨.type "tuple", none, .seq [.str "check" 463, .str "tree" 464, .str "place" 465].toArray 0, [].toArray⟩) ::
  (nat_lit 166, ⟨.type "tuple", none, .seq [].toArray 0, [].toArray⟩) ::
  (nat_lit 168, ⟨.type "code", none, .fields [.str "size_with_variable" 460, .str "size_with_variable" 461, .str "/claim/cut.py" 462, .int (109) 0, .int (3) 0, .int (0) 0, .int (0) 0, .int (3) 0, .ref 163, .bool true, .int (181) 0, .ref 164, .none, .ref 165, .ref 166, .ref 167, .int (466) 0, .int (109) 0, .str "/claim/cut.py" 467].toArray, [].toArray⟩) ::
  (nat_lit 169, ⟨.type "function", none, .func (kFn "size_with_variable" "size_with_variable" (topS 28) (.none) (.none) (.none) (.str "shellways.checks" 312) none (.ref 168) (.none)), [].toArray⟩) ::
  (nat_lit 170, ⟨.type "tuple", none, .seq [].toArray 0, [].toArray⟩) ::
  (nat_lit 172, ⟨.type "tuple", none, .seq [.str "check" 472, .str "tree" 473, .str "place" 474].toArray 0, [].toArray⟩) ::
  (nat_lit 173, ⟨.type "tuple", none, .seq [].toArray 0, [].toArray⟩) ::
  (nat_lit 175, ⟨.type "code", none, .fields [.str "size_of_put" 469, .str "size_of_put" 470, .str "/claim/cut.py" 471, .int (111) 0, .int (3) 0, .int (0) 0, .int (0) 0, .int (3) 0, .ref 170, .bool true, .int (181) 0, .ref 171, .none, .ref 172, .ref 173, .ref 174, .int (475) 0, .int (111) 0, .str "/claim/cut.py" 476].toArray, [].toArray⟩) ::
  (nat_lit 176, ⟨.type "function", none, .func (kFn "size_of_put" "size_of_put" (topS 29) (.none) (.none) (.none) (.str "shellways.checks" 312) none (.ref 175) (.none)), [].toArray⟩) ::
  (nat_lit 177, ⟨.type "tuple", none, .seq [].toArray 0, [].toArray⟩) ::
  (nat_lit 179, ⟨.type "tuple", none, .seq [.str "check" 481, .str "tree" 482, .str "place" 483].toArray 0, [].toArray⟩) ::
  (nat_lit 180, ⟨.type "tuple", none, .seq [].toArray 0, [].toArray⟩) ::
  (nat_lit 182, ⟨.type "code", none, .fields [.str "size_of_option" 478, .str "size_of_option" 479, .str "/claim/cut.py" 480, .int (115) 0, .int (3) 0, .int (0) 0, .int (0) 0, .int (3) 0, .ref 177, .bool true, .int (181) 0, .ref 178, .none, .ref 179, .ref 180, .ref 181, .int (484) 0, .int (115) 0, .str "/claim/cut.py" 485].toArray, [].toArray⟩) ::
  (nat_lit 183, ⟨.type "function", none, .func (kFn "size_of_option" "size_of_option" (topS 30) (.none) (.none) (.none) (.str "shellways.checks" 312) none (.ref 182) (.none)), [].toArray⟩) ::
  (nat_lit 184, ⟨.type "tuple", none, .seq [].toArray 0, [].toArray⟩) ::
  (nat_lit 186, ⟨.type "tuple", none, .seq [.str "check" 490, .str "tree" 491, .str "place" 492].toArray 0, [].toArray⟩) ::
  (nat_lit 187, ⟨.type "tuple", none, .seq [].toArray 0, [].toArray⟩) ::
  (nat_lit 189, ⟨.type "code", none, .fields [.str "size_of_trap" 487, .str "size_of_trap" 488, .str "/claim/cut.py" 489, .int (119) 0, .int (3) 0, .int (0) 0, .int (0) 0, .int (3) 0, .ref 184, .bool true, .int (181) 0, .ref 185, .none, .ref 186, .ref 187, .ref 188, .int (493) 0, .int (119) 0, .str "/claim/cut.py" 494].toArray, [].toArray⟩) ::
  (nat_lit 190, ⟨.type "function", none, .func (kFn "size_of_trap" "size_of_trap" (topS 31) (.none) (.none) (.none) (.str "shellways.checks" 312) none (.ref 189) (.none)), [].toArray⟩) ::
  (nat_lit 191, ⟨.type "tuple", none, .seq [].toArray 0, [].toArray⟩) ::
  (nat_lit 193, ⟨.type "tuple", none, .seq [.str "check" 499, .str "tree" 500, .str "place" 501].toArray 0, [].toArray⟩) ::
  (nat_lit 194, ⟨.type "tuple", none, .seq [].toArray 0, [].toArray⟩) ::
  (nat_lit 196, ⟨.type "code", none, .fields [.str "size_of_seq" 496, .str "size_of_seq" 497, .str "/claim/cut.py" 498, .int (123) 0, .int (3) 0, .int (0) 0, .int (0) 0, .int (3) 0, .ref 191, .bool true, .int (181) 0, .ref 192, .none, .ref 193, .ref 194, .ref 195, .int (502) 0, .int (123) 0, .str "/claim/cut.py" 503].toArray, [].toArray⟩) ::
  (nat_lit 197, ⟨.type "function", none, .func (kFn "size_of_seq" "size_of_seq" (topS 32) (.none) (.none) (.none) (.str "shellways.checks" 312) none (.ref 196) (.none)), [].toArray⟩) ::
  (nat_lit 198, ⟨.type "tuple", none, .seq [].toArray 0, [].toArray⟩) ::
  (nat_lit 200, ⟨.type "tuple", none, .seq [.str "check" 508, .str "tree" 509, .str "place" 510].toArray 0, [].toArray⟩) ::
  (nat_lit 201, ⟨.type "tuple", none, .seq [].toArray 0, [].toArray⟩) ::
  (nat_lit 203, ⟨.type "code", none, .fields [.str "size_of_pipe" 505, .str "size_of_pipe" 506, .str "/claim/cut.py" 507, .int (125) 0, .int (3) 0, .int (0) 0, .int (0) 0, .int (3) 0, .ref 198, .bool true, .int (181) 0, .ref 199, .none, .ref 200, .ref 201, .ref 202, .int (511) 0, .int (125) 0, .str "/claim/cut.py" 512].toArray, [].toArray⟩) ::
  (nat_lit 204, ⟨.type "function", none, .func (kFn "size_of_pipe" "size_of_pipe" (topS 33) (.none) (.none) (.none) (.str "shellways.checks" 312) none (.ref 203) (.none)), [].toArray⟩) ::
  (nat_lit 205, ⟨.type "tuple", none, .seq [].toArray 0, [].toArray⟩) ::
  (nat_lit 207, ⟨.type "tuple", none, .seq [.str "check" 517, .str "tree" 518, .str "place" 519].toArray 0, [].toArray⟩) ::
  (nat_lit 208, ⟨.type "tuple", none, .seq [].toArray 0, [].toArray⟩) ::
  (nat_lit 210, ⟨.type "code", none, .fields [.str "size_of_and_or" 514, .str "size_of_and_or" 515, .str "/claim/cut.py" 516, .int (127) 0, .int (3) 0, .int (0) 0, .int (0) 0, .int (3) 0, .ref 205, .bool true, .int (181) 0, .ref 206, .none, .ref 207, .ref 208, .ref 209, .int (520) 0, .int (127) 0, .str "/claim/cut.py" 521].toArray, [].toArray⟩) ::
  (nat_lit 211, ⟨.type "function", none, .func (kFn "size_of_and_or" "size_of_and_or" (topS 34) (.none) (.none) (.none) (.str "shellways.checks" 312) none (.ref 210) (.none)), [].toArray⟩) ::
  (nat_lit 212, ⟨.type "tuple", none, .seq [].toArray 0, [].toArray⟩) ::
  (nat_lit 214, ⟨.type "tuple", none, .seq [.str "check" 526, .str "tree" 527, .str "place" 528].toArray 0, [].toArray⟩) ::
  (nat_lit 215, ⟨.type "tuple", none, .seq [].toArray 0, [].toArray⟩) ::
  (nat_lit 217, ⟨.type "code", none, .fields [.str "size_of_not" 523, .str "size_of_not" 524, .str "/claim/cut.py" 525, .int (129) 0, .int (3) 0, .int (0) 0, .int (0) 0, .int (3) 0, .ref 212, .bool true, .int (181) 0, .ref 213, .none, .ref 214, .ref 215, .ref 216, .int (529) 0, .int (129) 0, .str "/claim/cut.py" 530].toArray, [].toArray⟩) ::
  (nat_lit 218, ⟨.type "function", none, .func (kFn "size_of_not" "size_of_not" (topS 35) (.none) (.none) (.none) (.str "shellways.checks" 312) none (.ref 217) (.none)), [].toArray⟩) ::
  (nat_lit 219, ⟨.type "tuple", none, .seq [].toArray 0, [].toArray⟩) ::
  (nat_lit 221, ⟨.type "tuple", none, .seq [.str "check" 535, .str "tree" 536, .str "place" 537].toArray 0, [].toArray⟩) ::
  (nat_lit 222, ⟨.type "tuple", none, .seq [].toArray 0, [].toArray⟩) ::
  (nat_lit 224, ⟨.type "code", none, .fields [.str "size_of_sub" 532, .str "size_of_sub" 533, .str "/claim/cut.py" 534, .int (131) 0, .int (3) 0, .int (0) 0, .int (0) 0, .int (3) 0, .ref 219, .bool true, .int (181) 0, .ref 220, .none, .ref 221, .ref 222, .ref 223, .int (538) 0, .int (131) 0, .str "/claim/cut.py" 539].toArray, [].toArray⟩) ::
  (nat_lit 225, ⟨.type "function", none, .func (kFn "size_of_sub" "size_of_sub" (topS 36) (.none) (.none) (.none) (.str "shellways.checks" 312) none (.ref 224) (.none)), [].toArray⟩) ::
  (nat_lit 226, ⟨.type "tuple", none, .seq [].toArray 0, [].toArray⟩) ::
  (nat_lit 228, ⟨.type "tuple", none, .seq [.str "check" 544, .str "tree" 545, .str "place" 546].toArray 0, [].toArray⟩) ::
  (nat_lit 229, ⟨.type "tuple", none, .seq [].toArray 0, [].toArray⟩) ::
  (nat_lit 231, ⟨.type "code", none, .fields [.str "size_of_if" 541, .str "size_of_if" 542, .str "/claim/cut.py" 543, .int (133) 0, .int (3) 0, .int (0) 0, .int (0) 0, .int (3) 0, .ref 226, .bool true, .int (181) 0, .ref 227, .none, .ref 228, .ref 229, .ref 230, .int (547) 0, .int (133) 0, .str "/claim/cut.py" 548].toArray, [].toArray⟩) ::
  (nat_lit 232, ⟨.type "function", none, .func (kFn "size_of_if" "size_of_if" (topS 37) (.none) (.none) (.none) (.str "shellways.checks" 312) none (.ref 231) (.none)), [].toArray⟩) ::
  (nat_lit 233, ⟨.type "tuple", none, .seq [].toArray 0, [].toArray⟩) ::
  (nat_lit 235, ⟨.type "tuple", none, .seq [.str "check" 553, .str "tree" 554, .str "place" 555, .str "size" 556].toArray 0, [].toArray⟩) ::
  (nat_lit 236, ⟨.type "tuple", none, .seq [].toArray 0, [].toArray⟩) ::
  (nat_lit 238, ⟨.type "code", none, .fields [.str "size_of_while" 550, .str "size_of_while" 551, .str "/claim/cut.py" 552, .int (137) 0, .int (3) 0, .int (0) 0, .int (0) 0, .int (3) 0, .ref 233, .bool true, .int (181) 0, .ref 234, .none, .ref 235, .ref 236, .ref 237, .int (557) 0, .int (137) 0, .str "/claim/cut.py" 558].toArray, [].toArray⟩) ::
  (nat_lit 239, ⟨.type "function", none, .func (kFn "size_of_while" "size_of_while" (topS 38) (.none) (.none) (.none) (.str "shellways.checks" 312) none (.ref 238) (.none)), [].toArray⟩) ::
  (nat_lit 240, ⟨.type "tuple", none, .seq [].toArray 0, [].toArray⟩) ::
  (nat_lit 242, ⟨.type "tuple", none, .seq [.str "check" 563, .str "tree" 564, .str "place" 565, .str "size" 566].toArray 0, [].toArray⟩) ::
  (nat_lit 243, ⟨.type "tuple", none, .seq [].toArray 0, [].toArray⟩) ::
  (nat_lit 245, ⟨.type "code", none, .fields [.str "size_of_times" 560, .str "size_of_times" 561, .str "/claim/cut.py" 562, .int (144) 0, .int (3) 0, .int (0) 0, .int (0) 0, .int (3) 0, .ref 240, .bool true, .int (181) 0, .ref 241, .none, .ref 242, .ref 243, .ref 244, .int (567) 0, .int (144) 0, .str "/claim/cut.py" 568].toArray, [].toArray⟩) ::
  (nat_lit 246, ⟨.type "function", none, .func (kFn "size_of_times" "size_of_times" (topS 39) (.none) (.none) (.none) (.str "shellways.checks" 312) none (.ref 245) (.none)), [].toArray⟩) ::
  (nat_lit 247, ⟨.type "tuple", none, .seq [].toArray 0, [].toArray⟩) ::
  (nat_lit 249, ⟨.type "tuple", none, .seq [.str "check" 573, .str "tree" 574, .str "place" 575].toArray 0, [].toArray⟩) ::
  (nat_lit 250, ⟨.type "tuple", none, .seq [].toArray 0, [].toArray⟩) ::
  (nat_lit 252, ⟨.type "code", none, .fields [.str "size_of_jump" 570, .str "size_of_jump" 571, .str "/claim/cut.py" 572, .int (151) 0, .int (3) 0, .int (0) 0, .int (0) 0, .int (3) 0, .ref 247, .bool true, .int (181) 0, .ref 248, .none, .ref 249, .ref 250, .ref 251, .int (576) 0, .int (151) 0, .str "/claim/cut.py" 577].toArray, [].toArray⟩) ::
  (nat_lit 253, ⟨.type "function", none, .func (kFn "size_of_jump" "size_of_jump" (topS 40) (.none) (.none) (.none) (.str "shellways.checks" 312) none (.ref 252) (.none)), [].toArray⟩) ::
  (nat_lit 254, ⟨.type "tuple", none, .seq [].toArray 0, [].toArray⟩) ::
  (nat_lit 256, ⟨.type "tuple", none, .seq [.str "check" 582, .str "tree" 583, .str "place" 584].toArray 0, [].toArray⟩) ::
  (nat_lit 257, ⟨.type "tuple", none, .seq [].toArray 0, [].toArray⟩) ::
  (nat_lit 259, ⟨.type "code", none, .fields [.str "size_of_call" 579, .str "size_of_call" 580, .str "/claim/cut.py" 581, .int (153) 0, .int (3) 0, .int (0) 0, .int (0) 0, .int (3) 0, .ref 254, .bool true, .int (181) 0, .ref 255, .none, .ref 256, .ref 257, .ref 258, .int (585) 0, .int (153) 0, .str "/claim/cut.py" 586].toArray, [].toArray⟩) ::
  (nat_lit 260, ⟨.type "function", none, .func (kFn "size_of_call" "size_of_call" (topS 41) (.none) (.none) (.none) (.str "shellways.checks" 312) none (.ref 259) (.none)), [].toArray⟩) ::
  (nat_lit 261, ⟨.type "tuple", none, .seq [].toArray 0, [].toArray⟩) ::
  (nat_lit 263, ⟨.type "tuple", none, .seq [.str "check" 591, .str "tree" 592, .str "place" 593].toArray 0, [].toArray⟩) ::
  (nat_lit 264, ⟨.type "tuple", none, .seq [].toArray 0, [].toArray⟩) ::
  (nat_lit 266, ⟨.type "code", none, .fields [.str "size_of_return" 588, .str "size_of_return" 589, .str "/claim/cut.py" 590, .int (157) 0, .int (3) 0, .int (0) 0, .int (0) 0, .int (3) 0, .ref 261, .bool true, .int (181) 0, .ref 262, .none, .ref 263, .ref 264, .ref 265, .int (594) 0, .int (157) 0, .str "/claim/cut.py" 595].toArray, [].toArray⟩) ::
  (nat_lit 267, ⟨.type "function", none, .func (kFn "size_of_return" "size_of_return" (topS 42) (.none) (.none) (.none) (.str "shellways.checks" 312) none (.ref 266) (.none)), [].toArray⟩) ::
  (nat_lit 268, ⟨.type "tuple", none, .seq [].toArray 0, [].toArray⟩) ::
  (nat_lit 270, ⟨.type "tuple", none, .seq [.str "check" 600, .str "tree" 601, .str "place" 602].toArray 0, [].toArray⟩) ::
  (nat_lit 271, ⟨.type "tuple", none, .seq [].toArray 0, [].toArray⟩) ::
  (nat_lit 273, ⟨.type "code", none, .fields [.str "size_of_exit" 597, .str "size_of_exit" 598, .str "/claim/cut.py" 599, .int (159) 0, .int (3) 0, .int (0) 0, .int (0) 0, .int (3) 0, .ref 268, .bool true, .int (181) 0, .ref 269, .none, .ref 270, .ref 271, .ref 272, .int (603) 0, .int (159) 0, .str "/claim/cut.py" 604].toArray, [].toArray⟩) ::
  (nat_lit 274, ⟨.type "function", none, .func (kFn "size_of_exit" "size_of_exit" (topS 43) (.none) (.none) (.none) (.str "shellways.checks" 312) none (.ref 273) (.none)), [].toArray⟩) ::
  (nat_lit 275, ⟨.type "dict", none, .dict [kE P "run" 606 (.ref 155), kE P "status" 608 (.ref 162), kE P "give" 610 (.ref 169), kE P "zero" 612 (.ref 169), kE P "keep" 614 (.ref 169), kE P "put" 616 (.ref 176), kE P "option" 618 (.ref 183), kE P "trap" 620 (.ref 190), kE P "seq" 622 (.ref 197), kE P "and" 624 (.ref 211), kE P "or" 626 (.ref 211), kE P "not" 628 (.ref 218), kE P "if" 630 (.ref 232), kE P "while" 632 (.ref 239), kE P "until" 634 (.ref 239), kE P "times" 636 (.ref 246), kE P "break" 638 (.ref 253), kE P "next" 640 (.ref 253), kE P "call" 641 (.ref 260), kE P "return" 642 (.ref 267), kE P "exit" 643 (.ref 274), kE P "sub" 644 (.ref 225), kE P "pipe" 645 (.ref 204)].toArray 23, [].toArray⟩) ::
  (nat_lit 277, ⟨.type "dict", none, .dict [kE P "trap" 655 (.ref 278), kE P "and" 657 (.ref 279), kE P "or" 660 (.ref 280), kE P "not" 663 (.ref 281), kE P "if" 665 (.ref 282), kE P "while" 669 (.ref 283), kE P "until" 672 (.ref 284), kE P "times" 675 (.ref 285), kE P "sub" 677 (.ref 286)].toArray 9, [].toArray⟩) ::
  (nat_lit 278, ⟨.type "tuple", none, .seq [.int (2) 656].toArray 0, [].toArray⟩) ::
  (nat_lit 279, ⟨.type "tuple", none, .seq [.int (1) 658, .int (2) 659].toArray 0, [].toArray⟩) ::
  (nat_lit 280, ⟨.type "tuple", none, .seq [.int (1) 661, .int (2) 662].toArray 0, [].toArray⟩) ::
  (nat_lit 281, ⟨.type "tuple", none, .seq [.int (1) 664].toArray 0, [].toArray⟩) ::
  (nat_lit 282, ⟨.type "tuple", none, .seq [.int (1) 666, .int (2) 667, .int (3) 668].toArray 0, [].toArray⟩) ::
  (nat_lit 283, ⟨.type "tuple", none, .seq [.int (1) 670, .int (2) 671].toArray 0, [].toArray⟩) ::
  (nat_lit 284, ⟨.type "tuple", none, .seq [.int (1) 673, .int (2) 674].toArray 0, [].toArray⟩) ::
  (nat_lit 285, ⟨.type "tuple", none, .seq [.int (2) 676].toArray 0, [].toArray⟩) ::
  (nat_lit 286, ⟨.type "tuple", none, .seq [.int (1) 678].toArray 0, [].toArray⟩) ::
  (nat_lit 287, ⟨.type "tuple", none, .seq [].toArray 0, [].toArray⟩) ::
  (nat_lit 290, ⟨.type "code", none, .fields [.str "parts_of" 689, .str "parts_of" 690, .str "/claim/cut.py" 691, .int (166) 0, .int (1) 0, .int (0) 0, .int (0) 0, .int (3) 0, .ref 287, .bool true, .int (181) 0, .ref 288, .none, .none, .none, .ref 289, .int (692) 0, .int (166) 0, .str "/claim/cut.py" 693].toArray, [].toArray⟩) ::
  (nat_lit 291, ⟨.type "function", none, .func (kFn "parts_of" "parts_of" (topS 47) (.none) (.none) (.none) (.str "shellways.trees" 653) none (.ref 290) (.none)), [].toArray⟩) ::
  (nat_lit 292, ⟨.type "tuple", none, .seq [.str "while" 697, .str "until" 698, .str "times" 699].toArray 0, [].toArray⟩) ::
  (nat_lit 300, ⟨.type "tuple", none, .seq [].toArray 0, [].toArray⟩) ::
  (nat_lit 302, ⟨.type "tuple", none, .seq [.str "self" 716, .str "tree" 717, .str "path" 718].toArray 0, [].toArray⟩) ::
  (nat_lit 303, ⟨.type "tuple", none, .seq [].toArray 0, [].toArray⟩) ::
  (nat_lit 305, ⟨.type "code", none, .fields [.str "__init__" 713, .str "Node.__init__" 714, .str "/claim/cut.py" 715, .int (177) 0, .int (3) 0, .int (0) 0, .int (0) 0, .int (3) 0, .ref 300, .bool true, .int (181) 0, .ref 301, .none, .ref 302, .ref 303, .ref 304, .int (719) 0, .int (177) 0, .str "/claim/cut.py" 720].toArray, [].toArray⟩) ::
  (nat_lit 306, ⟨.type "function", none, .func (kFn "__init__" "Node.__init__" (inClass (topS 50) 0) (.none) (.none) (.none) (.str "shellways.plans" 695) none (.ref 305) (.none)), [].toArray⟩) ::
  (nat_lit 307, ⟨.type "tuple", none, .seq [].toArray 0, [].toArray⟩) ::
  (nat_lit 309, ⟨.type "tuple", none, .seq [.str "self" 725, .str "place" 726, .str "node" 727].toArray 0, [].toArray⟩) ::
  (nat_lit 310, ⟨.type "tuple", none, .seq [].toArray 0, [].toArray⟩) ::
  (nat_lit 312, ⟨.type "code", none, .fields [.str "part" 722, .str "Node.part" 723, .str "/claim/cut.py" 724, .int (184) 0, .int (2) 0, .int (0) 0, .int (0) 0, .int (3) 0, .ref 307, .bool true, .int (181) 0, .ref 308, .none, .ref 309, .ref 310, .ref 311, .int (728) 0, .int (184) 0, .str "/claim/cut.py" 729].toArray, [].toArray⟩) ::
  (nat_lit 313, ⟨.type "function", none, .func (kFn "part" "Node.part" (inClass (topS 50) 1) (.none) (.none) (.none) (.str "shellways.plans" 695) none (.ref 312) (.none)), [].toArray⟩) ::
  (nat_lit 314, ⟨.type "tuple", none, .seq [.str "nodes" 731, .str "parts" 732, .str "path" 733, .str "tree" 734, .str "word" 735].toArray 0, [].toArray⟩) ::
  (nat_lit 315, ⟨.type "dict", none, .dict [kE P "__module__" 708 (.str "shellways.plans" 695), kE P "__firstlineno__" 712 (.int (175) 711), kE P "__init__" 721 (.ref 306), kE P "part" 730 (.ref 313), kE P "__static_attributes__" 736 (.ref 314), kE P "__dict__" 738 (.ref 317), kE P "__weakref__" 740 (.ref 318), kE P "__doc__" 741 (.none)].toArray 4, [].toArray⟩) ::
  (nat_lit 316, ⟨.type "type", none, .cls ⟨"Node", [.type "object"], [.ref 316, .type "object"], 315, "Node", true, [], [], false, none, false⟩, [none, none, (some (.str "Node" 701)), (some (.str "Node" 709)), (some (.builtin "object.__new__")), (some (.bool true))].toArray⟩) ::
  (nat_lit 317, ⟨.type "getset_descriptor", none, .fields [.str "__dict__" 737, .ref 316, .builtin "function.__dict__", .builtin "function.__dict__#set"].toArray, [].toArray⟩) ::
  (nat_lit 318, ⟨.type "getset_descriptor", none, .fields [.str "__weakref__" 739, .ref 316, .builtin "ExceptionGroup.__weakref__", .none].toArray, [].toArray⟩) ::
  (nat_lit 328, ⟨.type "tuple", none, .seq [].toArray 0, [].toArray⟩) ::
  (nat_lit 330, ⟨.type "tuple", none, .seq [.str "self" 759, .str "program" 760, .str "check" 761, .str "functions" 762, .str "main" 763, .str "entry" 764].toArray 0, [].toArray⟩) ::
  (nat_lit 331, ⟨.type "tuple", none, .seq [].toArray 0, [].toArray⟩) ::
  (nat_lit 333, ⟨.type "code", none, .fields [.str "__init__" 756, .str "Plan.__init__" 757, .str "/claim/cut.py" 758, .int (192) 0, .int (3) 0, .int (0) 0, .int (0) 0, .int (3) 0, .ref 328, .bool true, .int (181) 0, .ref 329, .none, .ref 330, .ref 331, .ref 332, .int (765) 0, .int (192) 0, .str "/claim/cut.py" 766].toArray, [].toArray⟩) ::
  (nat_lit 334, ⟨.type "function", none, .func (kFn "__init__" "Plan.__init__" (inClass (topS 51) 0) (.none) (.none) (.none) (.str "shellways.plans" 695) none (.ref 333) (.none)), [].toArray⟩) ::
  (nat_lit 335, ⟨.type "tuple", none, .seq [.str "bodies" 768, .str "check" 769, .str "main" 770, .str "variables" 771].toArray 0, [].toArray⟩) ::
  (nat_lit 336, ⟨.type "dict", none, .dict [kE P "__module__" 751 (.str "shellways.plans" 695), kE P "__firstlineno__" 755 (.int (190) 754), kE P "__init__" 767 (.ref 334), kE P "__static_attributes__" 772 (.ref 335), kE P "__dict__" 774 (.ref 338), kE P "__weakref__" 776 (.ref 339), kE P "__doc__" 777 (.none)].toArray 4, [].toArray⟩) ::
  (nat_lit 337, ⟨.type "type", none, .cls ⟨"Plan", [.type "object"], [.ref 337, .type "object"], 336, "Plan", true, [], [], false, none, false⟩, [none, none, (some (.str "Plan" 744)), (some (.str "Plan" 752)), (some (.builtin "object.__new__")), (some (.bool true))].toArray⟩) ::
  (nat_lit 338, ⟨.type "getset_descriptor", none, .fields [.str "__dict__" 773, .ref 337, .builtin "function.__dict__", .builtin "function.__dict__#set"].toArray, [].toArray⟩) ::
  (nat_lit 339, ⟨.type "getset_descriptor", none, .fields [.str "__weakref__" 775, .ref 337, .builtin "ExceptionGroup.__weakref__", .none].toArray, [].toArray⟩) ::
  (nat_lit 342, ⟨.type "tuple", none, .seq [].toArray 0, [].toArray⟩) ::
  (nat_lit 344, ⟨.type "tuple", none, .seq [.str "program" 783].toArray 0, [].toArray⟩) ::
  (nat_lit 345, ⟨.type "tuple", none, .seq [].toArray 0, [].toArray⟩) ::
  (nat_lit 347, ⟨.type "code", none, .fields [.str "plan_of" 780, .str "plan_of" 781, .str "/claim/cut.py" 782, .int (200) 0, .int (1) 0, .int (0) 0, .int (0) 0, .int (3) 0, .ref 342, .bool true, .int (181) 0, .ref 343, .none, .ref 344, .ref 345, .ref 346, .int (784) 0, .int (200) 0, .str "/claim/cut.py" 785].toArray, [].toArray⟩) ::
  (nat_lit 348, ⟨.type "function", none, .func (kFn "plan_of" "plan_of" (topS 52) (.none) (.none) (.none) (.str "shellways.plans" 695) none (.ref 347) (.none)), [].toArray⟩) ::
  (nat_lit 349, ⟨.type "tuple", none, .seq [].toArray 0, [].toArray⟩) ::
  (nat_lit 351, ⟨.type "tuple", none, .seq [.str "plan" 790, .str "nodes" 791, .str "body" 792].toArray 0, [].toArray⟩) ::
  (nat_lit 352, ⟨.type "tuple", none, .seq [].toArray 0, [].toArray⟩) ::
  (nat_lit 354, ⟨.type "code", none, .fields [.str "all_nodes" 787, .str "all_nodes" 788, .str "/claim/cut.py" 789, .int (202) 0, .int (1) 0, .int (0) 0, .int (0) 0, .int (3) 0, .ref 349, .bool true, .int (181) 0, .ref 350, .none, .ref 351, .ref 352, .ref 353, .int (793) 0, .int (202) 0, .str "/claim/cut.py" 794].toArray, [].toArray⟩) ::
  (nat_lit 355, ⟨.type "function", none, .func (kFn "all_nodes" "all_nodes" (topS 53) (.none) (.none) (.none) (.str "shellways.plans" 695) none (.ref 354) (.none)), [].toArray⟩) ::
  (nat_lit 356, ⟨.type "tuple", none, .seq [].toArray 0, [].toArray⟩) ::
  (nat_lit 357, ⟨.type "tuple", none, .seq [.ref 356].toArray 0, [].toArray⟩) ::
  (nat_lit 358, ⟨.type "tuple", none, .seq [].toArray 0, [].toArray⟩) ::
  (nat_lit 361, ⟨.type "code", none, .fields [.str "nodes_within" 796, .str "nodes_within" 797, .str "/claim/cut.py" 798, .int (208) 0, .int (2) 0, .int (0) 0, .int (0) 0, .int (3) 0, .ref 358, .bool true, .int (181) 0, .ref 359, .none, .none, .none, .ref 360, .int (799) 0, .int (208) 0, .str "/claim/cut.py" 800].toArray, [].toArray⟩) ::
  (nat_lit 362, ⟨.type "function", none, .func (kFn "nodes_within" "nodes_within" (topS 54) (.ref 357) (.none) (.none) (.str "shellways.plans" 695) none (.ref 361) (.none)), [].toArray⟩) ::
  (nat_lit 363, ⟨.type "tuple", none, .seq [].toArray 0, [].toArray⟩) ::
  (nat_lit 366, ⟨.type "code", none, .fields [.str "targets" 804, .str "targets" 805, .str "/claim/cut.py" 806, .int (218) 0, .int (1) 0, .int (0) 0, .int (0) 0, .int (3) 0, .ref 363, .bool true, .int (181) 0, .ref 364, .none, .none, .none, .ref 365, .int (807) 0, .int (218) 0, .str "/claim/cut.py" 808].toArray, [].toArray⟩) ::
  (nat_lit 367, ⟨.type "function", none, .func (kFn "targets" "targets" (topS 56) (.none) (.none) (.none) (.str "shellways.loops" 802) none (.ref 366) (.none)), [].toArray⟩) ::
  (nat_lit 368, ⟨.type "tuple", none, .seq [].toArray 0, [].toArray⟩) ::
  (nat_lit 370, ⟨.type "tuple", none, .seq [.str "words" 813, .str "path" 814, .str "count" 815].toArray 0, [].toArray⟩) ::
  (nat_lit 371, ⟨.type "tuple", none, .seq [].toArray 0, [].toArray⟩) ::
  (nat_lit 373, ⟨.type "code", none, .fields [.str "loop_around" 810, .str "loop_around" 811, .str "/claim/cut.py" 812, .int (230) 0, .int (3) 0, .int (0) 0, .int (0) 0, .int (3) 0, .ref 368, .bool true, .int (181) 0, .ref 369, .none, .ref 370, .ref 371, .ref 372, .int (816) 0, .int (230) 0, .str "/claim/cut.py" 817].toArray, [].toArray⟩) ::
  (nat_lit 374, ⟨.type "function", none, .func (kFn "loop_around" "loop_around" (topS 57) (.none) (.none) (.none) (.str "shellways.loops" 802) none (.ref 373) (.none)), [].toArray⟩) ::
  (nat_lit 375, ⟨.type "tuple", none, .seq [].toArray 0, [].toArray⟩) ::
  (nat_lit 377, ⟨.type "tuple", none, .seq [.str "words" 822, .str "path" 823, .str "length" 824].toArray 0, [].toArray⟩) ::
  (nat_lit 378, ⟨.type "tuple", none, .seq [].toArray 0, [].toArray⟩) ::
  (nat_lit 380, ⟨.type "code", none, .fields [.str "shell_around" 819, .str "shell_around" 820, .str "/claim/cut.py" 821, .int (236) 0, .int (2) 0, .int (0) 0, .int (0) 0, .int (3) 0, .ref 375, .bool true, .int (181) 0, .ref 376, .none, .ref 377, .ref 378, .ref 379, .int (825) 0, .int (236) 0, .str "/claim/cut.py" 826].toArray, [].toArray⟩) ::
  (nat_lit 381, ⟨.type "function", none, .func (kFn "shell_around" "shell_around" (topS 58) (.none) (.none) (.none) (.str "shellways.loops" 802) none (.ref 380) (.none)), [].toArray⟩) ::
  (nat_lit 382, ⟨.type "tuple", none, .seq [].toArray 0, [].toArray⟩) ::
  (nat_lit 384, ⟨.type "tuple", none, .seq [.str "_law_cell" 833, .str "_law_draw" 834, .str "_law_figure" 835].toArray 0, [].toArray⟩) ::
  (nat_lit 385, ⟨.type "tuple", none, .seq [].toArray 0, [].toArray⟩) ::
  (nat_lit 387, ⟨.type "code", none, .fields [.str "_law_mixed" 830, .str "_law_mixed" 831, .str "/claim/cut.py" 832, .int (242) 0, .int (2) 0, .int (0) 0, .int (0) 0, .int (3) 0, .ref 382, .bool true, .int (181) 0, .ref 383, .none, .ref 384, .ref 385, .ref 386, .int (836) 0, .int (242) 0, .str "/claim/cut.py" 837].toArray, [].toArray⟩) ::
  (nat_lit 388, ⟨.type "function", none, .func (kFn "_law_mixed" "_law_mixed" (topS 60) (.none) (.none) (.none) (.str "law_shellways_k20_where_trees_lead" 828) none (.ref 387) (.none)), [].toArray⟩) ::
  (nat_lit 389, ⟨.type "tuple", none, .seq [].toArray 0, [].toArray⟩) ::
  (nat_lit 391, ⟨.type "tuple", none, .seq [.str "_law_cell" 842].toArray 0, [].toArray⟩) ::
  (nat_lit 392, ⟨.type "tuple", none, .seq [].toArray 0, [].toArray⟩) ::
  (nat_lit 394, ⟨.type "code", none, .fields [.str "_law_source" 839, .str "_law_source" 840, .str "/claim/cut.py" 841, .int (247) 0, .int (1) 0, .int (0) 0, .int (0) 0, .int (3) 0, .ref 389, .bool true, .int (181) 0, .ref 390, .none, .ref 391, .ref 392, .ref 393, .int (843) 0, .int (247) 0, .str "/claim/cut.py" 844].toArray, [].toArray⟩) ::
  (nat_lit 395, ⟨.type "function", none, .func (kFn "_law_source" "_law_source" (topS 61) (.none) (.none) (.none) (.str "law_shellways_k20_where_trees_lead" 828) none (.ref 394) (.none)), [].toArray⟩) ::
  (nat_lit 396, ⟨.type "tuple", none, .seq [].toArray 0, [].toArray⟩) ::
  (nat_lit 398, ⟨.type "tuple", none, .seq [.str "_law_source_here" 849, .str "_law_bound" 850, .str "_law_drawn" 851].toArray 0, [].toArray⟩) ::
  (nat_lit 399, ⟨.type "tuple", none, .seq [].toArray 0, [].toArray⟩) ::
  (nat_lit 401, ⟨.type "code", none, .fields [.str "_law_take" 846, .str "_law_take" 847, .str "/claim/cut.py" 848, .int (249) 0, .int (2) 0, .int (0) 0, .int (0) 0, .int (3) 0, .ref 396, .bool true, .int (181) 0, .ref 397, .none, .ref 398, .ref 399, .ref 400, .int (852) 0, .int (249) 0, .str "/claim/cut.py" 853].toArray, [].toArray⟩) ::
  (nat_lit 402, ⟨.type "function", none, .func (kFn "_law_take" "_law_take" (topS 62) (.none) (.none) (.none) (.str "law_shellways_k20_where_trees_lead" 828) none (.ref 401) (.none)), [].toArray⟩) ::
  (nat_lit 403, ⟨.type "tuple", none, .seq [].toArray 0, [].toArray⟩) ::
  (nat_lit 405, ⟨.type "tuple", none, .seq [.str "_law_source_here" 858, .str "_law_options" 859].toArray 0, [].toArray⟩) ::
  (nat_lit 406, ⟨.type "tuple", none, .seq [].toArray 0, [].toArray⟩) ::
  (nat_lit 408, ⟨.type "code", none, .fields [.str "_law_pick" 855, .str "_law_pick" 856, .str "/claim/cut.py" 857, .int (256) 0, .int (2) 0, .int (0) 0, .int (0) 0, .int (3) 0, .ref 403, .bool true, .int (181) 0, .ref 404, .none, .ref 405, .ref 406, .ref 407, .int (860) 0, .int (256) 0, .str "/claim/cut.py" 861].toArray, [].toArray⟩) ::
  (nat_lit 409, ⟨.type "function", none, .func (kFn "_law_pick" "_law_pick" (topS 63) (.none) (.none) (.none) (.str "law_shellways_k20_where_trees_lead" 828) none (.ref 408) (.none)), [].toArray⟩) ::
  (nat_lit 410, ⟨.type "tuple", none, .seq [].toArray 0, [].toArray⟩) ::
  (nat_lit 412, ⟨.type "tuple", none, .seq [.str "_law_source_here" 866, .str "_law_loops" 867, .str "_law_within" 868, .str "_law_known" 869, .str "_law_way" 870, .str "_law_number" 871, .str "_law_one" 872, .str "_law_some" 873, .str "_law_mode" 874].toArray 0, [].toArray⟩) ::
  (nat_lit 413, ⟨.type "tuple", none, .seq [].toArray 0, [].toArray⟩) ::
  (nat_lit 415, ⟨.type "code", none, .fields [.str "_law_jump" 863, .str "_law_jump" 864, .str "/claim/cut.py" 865, .int (258) 0, .int (4) 0, .int (0) 0, .int (0) 0, .int (3) 0, .ref 410, .bool true, .int (181) 0, .ref 411, .none, .ref 412, .ref 413, .ref 414, .int (875) 0, .int (258) 0, .str "/claim/cut.py" 876].toArray, [].toArray⟩) ::
  (nat_lit 416, ⟨.type "function", none, .func (kFn "_law_jump" "_law_jump" (topS 64) (.none) (.none) (.none) (.str "law_shellways_k20_where_trees_lead" 828) none (.ref 415) (.none)), [].toArray⟩) ::
  (nat_lit 417, ⟨.type "tuple", none, .seq [].toArray 0, [].toArray⟩) ::
  (nat_lit 420, ⟨.type "code", none, .fields [.str "_law_form" 878, .str "_law_form" 879, .str "/claim/cut.py" 880, .int (275) 0, .int (5) 0, .int (0) 0, .int (0) 0, .int (3) 0, .ref 417, .bool true, .int (181) 0, .ref 418, .none, .none, .none, .ref 419, .int (881) 0, .int (275) 0, .str "/claim/cut.py" 882].toArray, [].toArray⟩) ::
  (nat_lit 421, ⟨.type "function", none, .func (kFn "_law_form" "_law_form" (topS 65) (.none) (.none) (.none) (.str "law_shellways_k20_where_trees_lead" 828) none (.ref 420) (.none)), [].toArray⟩) ::
  (nat_lit 422, ⟨.type "tuple", none, .seq [].toArray 0, [].toArray⟩) ::
  (nat_lit 425, ⟨.type "code", none, .fields [.str "_law_weight" 884, .str "_law_weight" 885, .str "/claim/cut.py" 886, .int (301) 0, .int (2) 0, .int (0) 0, .int (0) 0, .int (3) 0, .ref 422, .bool true, .int (181) 0, .ref 423, .none, .none, .none, .ref 424, .int (887) 0, .int (301) 0, .str "/claim/cut.py" 888].toArray, [].toArray⟩) ::
  (nat_lit 426, ⟨.type "function", none, .func (kFn "_law_weight" "_law_weight" (topS 66) (.none) (.none) (.none) (.str "law_shellways_k20_where_trees_lead" 828) none (.ref 425) (.none)), [].toArray⟩) ::
  (nat_lit 427, ⟨.type "tuple", none, .seq [].toArray 0, [].toArray⟩) ::
  (nat_lit 429, ⟨.type "tuple", none, .seq [.str "_law_tree" 893, .str "_law_rows" 894, .str "_law_sizes" 895, .str "_law_title" 896, .str "_law_body" 897].toArray 0, [].toArray⟩) ::
  (nat_lit 430, ⟨.type "tuple", none, .seq [].toArray 0, [].toArray⟩) ::
  (nat_lit 432, ⟨.type "code", none, .fields [.str "_law_light" 890, .str "_law_light" 891, .str "/claim/cut.py" 892, .int (307) 0, .int (2) 0, .int (0) 0, .int (0) 0, .int (3) 0, .ref 427, .bool true, .int (181) 0, .ref 428, .none, .ref 429, .ref 430, .ref 431, .int (898) 0, .int (307) 0, .str "/claim/cut.py" 899].toArray, [].toArray⟩) ::
  (nat_lit 433, ⟨.type "function", none, .func (kFn "_law_light" "_law_light" (topS 67) (.none) (.none) (.none) (.str "law_shellways_k20_where_trees_lead" 828) none (.ref 432) (.none)), [].toArray⟩) ::
  (nat_lit 434, ⟨.type "tuple", none, .seq [].toArray 0, [].toArray⟩) ::
  (nat_lit 436, ⟨.type "tuple", none, .seq [.str "_law_source_here" 904, .str "_law_many" 905, .str "_law_deep" 906, .str "_law_rows" 907, .str "_law_known" 908, .str "_law_k" 909, .str "_law_body" 910, .str "_law_main" 911].toArray 0, [].toArray⟩) ::
  (nat_lit 437, ⟨.type "tuple", none, .seq [].toArray 0, [].toArray⟩) ::
  (nat_lit 439, ⟨.type "code", none, .fields [.str "_law_plan" 901, .str "_law_plan" 902, .str "/claim/cut.py" 903, .int (312) 0, .int (3) 0, .int (0) 0, .int (0) 0, .int (3) 0, .ref 434, .bool true, .int (181) 0, .ref 435, .none, .ref 436, .ref 437, .ref 438, .int (912) 0, .int (312) 0, .str "/claim/cut.py" 913].toArray, [].toArray⟩) ::
  (nat_lit 440, ⟨.type "function", none, .func (kFn "_law_plan" "_law_plan" (topS 68) (.none) (.none) (.none) (.str "law_shellways_k20_where_trees_lead" 828) none (.ref 439) (.none)), [].toArray⟩) ::
  (nat_lit 441, ⟨.type "tuple", none, .seq [].toArray 0, [].toArray⟩) ::
  (nat_lit 444, ⟨.type "code", none, .fields [.str "_law_kids" 915, .str "_law_kids" 916, .str "/claim/cut.py" 917, .int (320) 0, .int (1) 0, .int (0) 0, .int (0) 0, .int (3) 0, .ref 441, .bool true, .int (181) 0, .ref 442, .none, .none, .none, .ref 443, .int (918) 0, .int (320) 0, .str "/claim/cut.py" 919].toArray, [].toArray⟩) ::
  (nat_lit 445, ⟨.type "function", none, .func (kFn "_law_kids" "_law_kids" (topS 69) (.none) (.none) (.none) (.str "law_shellways_k20_where_trees_lead" 828) none (.ref 444) (.none)), [].toArray⟩) ::
  (nat_lit 460, ⟨.type "tuple", none, .seq [].toArray 0, [].toArray⟩) ::
  (nat_lit 462, ⟨.type "tuple", none, .seq [.str "_law_tree" 946, .str "_law_spot" 947, .str "_law_loops" 948, .str "_law_shell" 949, .str "_law_word" 950, .str "_law_found" 951, .str "_law_k" 952, .str "_law_part" 953, .str "_law_inner" 954].toArray 0, [].toArray⟩) ::
  (nat_lit 463, ⟨.type "tuple", none, .seq [].toArray 0, [].toArray⟩) ::
  (nat_lit 465, ⟨.type "code", none, .fields [.str "_law_leads" 943, .str "_law_leads" 944, .str "/claim/cut.py" 945, .int (333) 0, .int (4) 0, .int (0) 0, .int (0) 0, .int (3) 0, .ref 460, .bool true, .int (181) 0, .ref 461, .none, .ref 462, .ref 463, .ref 464, .int (955) 0, .int (333) 0, .str "/claim/cut.py" 956].toArray, [].toArray⟩) ::
  (nat_lit 466, ⟨.type "function", none, .func (kFn "_law_leads" "_law_leads" (topS 72) (.none) (.none) (.none) (.str "law_shellways_k20_where_trees_lead" 828) none (.ref 465) (.none)), [].toArray⟩) ::
  (nat_lit 467, ⟨.type "tuple", none, .seq [].toArray 0, [].toArray⟩) ::
  (nat_lit 469, ⟨.type "tuple", none, .seq [.str "_law_script" 961, .str "_law_cell" 962, .str "_law_source_here" 963, .str "_law_turn" 964, .str "_law_plan_here" 965, .str "_law_due" 966, .str "_law_shape" 967, .str "_law_k" 968, .str "_law_title" 969, .str "_law_body" 970, .str "_law_told" 971].toArray 0, [].toArray⟩) ::
  (nat_lit 470, ⟨.type "tuple", none, .seq [].toArray 0, [].toArray⟩) ::
  (nat_lit 472, ⟨.type "code", none, .fields [.str "law" 958, .str "law" 959, .str "/claim/cut.py" 960, .int (348) 0, .int (1) 0, .int (0) 0, .int (0) 0, .int (3) 0, .ref 467, .bool true, .int (181) 0, .ref 468, .none, .ref 469, .ref 470, .ref 471, .int (972) 0, .int (348) 0, .str "/claim/cut.py" 973].toArray, [].toArray⟩) ::
  (nat_lit 473, ⟨.type "function", none, .func (kFn "law" "law" (topS 73) (.none) (.none) (.none) (.str "law_shellways_k20_where_trees_lead" 828) none (.ref 472) (.none)), [].toArray⟩) ::
  []
def kAs : List Addr := 2 :: 3 :: 15 :: 22 :: 23 :: 24 :: 25 :: 28 :: 31 :: 36 :: 37 :: 39 :: 40 :: 42 :: 43 :: 44 :: 45 :: 46 :: 49 :: 51 :: 53 :: 54 :: 56 :: 57 :: 58 :: 60 :: 61 :: 63 :: 64 :: 65 :: 67 :: 68 :: 70 :: 71 :: 79 :: 81 :: 82 :: 84 :: 85 :: 86 :: 87 :: 88 :: 89 :: 90 :: 93 :: 95 :: 96 :: 98 :: 99 :: 100 :: 102 :: 103 :: 105 :: 106 :: 107 :: 109 :: 110 :: 112 :: 113 :: 114 :: 116 :: 117 :: 119 :: 120 :: 121 :: 123 :: 124 :: 126 :: 127 :: 128 :: 130 :: 131 :: 133 :: 134 :: 135 :: 137 :: 138 :: 140 :: 141 :: 142 :: 144 :: 145 :: 147 :: 148 :: 149 :: 151 :: 152 :: 154 :: 155 :: 156 :: 158 :: 159 :: 161 :: 162 :: 163 :: 165 :: 166 :: 168 :: 169 :: 170 :: 172 :: 173 :: 175 :: 176 :: 177 :: 179 :: 180 :: 182 :: 183 :: 184 :: 186 :: 187 :: 189 :: 190 :: 191 :: 193 :: 194 :: 196 :: 197 :: 198 :: 200 :: 201 :: 203 :: 204 :: 205 :: 207 :: 208 :: 210 :: 211 :: 212 :: 214 :: 215 :: 217 :: 218 :: 219 :: 221 :: 222 :: 224 :: 225 :: 226 :: 228 :: 229 :: 231 :: 232 :: 233 :: 235 :: 236 :: 238 :: 239 :: 240 :: 242 :: 243 :: 245 :: 246 :: 247 :: 249 :: 250 :: 252 :: 253 :: 254 :: 256 :: 257 :: 259 :: 260 :: 261 :: 263 :: 264 :: 266 :: 267 :: 268 :: 270 :: 271 :: 273 :: 274 :: 275 :: 277 :: 278 :: 279 :: 280 :: 281 :: 282 :: 283 :: 284 :: 285 :: 286 :: 287 :: 290 :: 291 :: 292 :: 300 :: 302 :: 303 :: 305 :: 306 :: 307 :: 309 :: 310 :: 312 :: 313 :: 314 :: 315 :: 316 :: 317 :: 318 :: 328 :: 330 :: 331 :: 333 :: 334 :: 335 :: 336 :: 337 :: 338 :: 339 :: 342 :: 344 :: 345 :: 347 :: 348 :: 349 :: 351 :: 352 :: 354 :: 355 :: 356 :: 357 :: 358 :: 361 :: 362 :: 363 :: 366 :: 367 :: 368 :: 370 :: 371 :: 373 :: 374 :: 375 :: 377 :: 378 :: 380 :: 381 :: 382 :: 384 :: 385 :: 387 :: 388 :: 389 :: 391 :: 392 :: 394 :: 395 :: 396 :: 398 :: 399 :: 401 :: 402 :: 403 :: 405 :: 406 :: 408 :: 409 :: 410 :: 412 :: 413 :: 415 :: 416 :: 417 :: 420 :: 421 :: 422 :: 425 :: 426 :: 427 :: 429 :: 430 :: 432 :: 433 :: 434 :: 436 :: 437 :: 439 :: 440 :: 441 :: 444 :: 445 :: 460 :: 462 :: 463 :: 465 :: 466 :: 467 :: 469 :: 470 :: 472 :: 473 :: []
theorem kEq : ∀ P, kAs = (kHeap P).map (·.1) := fun _ => by kernel_rfl
abbrev kR : PySem.W.OpenRow := PySem.W.OpenLaw.row PySem.Challenge.rw_shellways_k20_where_trees_lead
abbrev kQ : Program := PySem.W.view (PySem.W.OpenLaw.row PySem.Challenge.rw_shellways_k20_where_trees_lead).prog (73 :: [])
def kL : List PySem.Str := ("ShellError" : PySem.Str) :: ("InvalidProgram" : PySem.Str) :: ("LONGEST_NAME" : PySem.Str) :: ("RESERVED" : PySem.Str) :: ("is_integer" : PySem.Str) :: ("is_integer_within" : PySem.Str) :: ("is_name" : PySem.Str) :: ("MOST_FUNCTIONS" : PySem.Str) :: ("MOST_TREES" : PySem.Str) :: ("MOST_VARIABLES" : PySem.Str) :: ("MOST_UNFOLDED" : PySem.Str) :: ("LONGEST_PATH" : PySem.Str) :: ("GREATEST_NUMBER" : PySem.Str) :: ("MOST_ROUNDS" : PySem.Str) :: ("Check" : PySem.Str) :: ("checked" : PySem.Str) :: ("is_outline" : PySem.Str) :: ("is_entry" : PySem.Str) :: ("size_of_all" : PySem.Str) :: ("size_inside" : PySem.Str) :: ("size_behind_barrier" : PySem.Str) :: ("is_new_name" : PySem.Str) :: ("has_parts" : PySem.Str) :: ("size_of_run" : PySem.Str) :: ("size_of_status" : PySem.Str) :: ("size_with_variable" : PySem.Str) :: ("size_of_put" : PySem.Str) :: ("size_of_option" : PySem.Str) :: ("size_of_trap" : PySem.Str) :: ("size_of_seq" : PySem.Str) :: ("size_of_pipe" : PySem.Str) :: ("size_of_and_or" : PySem.Str) :: ("size_of_not" : PySem.Str) :: ("size_of_sub" : PySem.Str) :: ("size_of_if" : PySem.Str) :: ("size_of_while" : PySem.Str) :: ("size_of_times" : PySem.Str) :: ("size_of_jump" : PySem.Str) :: ("size_of_call" : PySem.Str) :: ("size_of_return" : PySem.Str) :: ("size_of_exit" : PySem.Str) :: ("SIZES" : PySem.Str) :: ("PLACES" : PySem.Str) :: ("parts_of" : PySem.Str) :: ("LOOPS" : PySem.Str) :: ("Node" : PySem.Str) :: ("Plan" : PySem.Str) :: ("plan_of" : PySem.Str) :: ("all_nodes" : PySem.Str) :: ("nodes_within" : PySem.Str) :: ("targets" : PySem.Str) :: ("loop_around" : PySem.Str) :: ("shell_around" : PySem.Str) :: ("_law_mixed" : PySem.Str) :: ("_law_source" : PySem.Str) :: ("_law_take" : PySem.Str) :: ("_law_pick" : PySem.Str) :: ("_law_jump" : PySem.Str) :: ("_law_form" : PySem.Str) :: ("_law_weight" : PySem.Str) :: ("_law_light" : PySem.Str) :: ("_law_plan" : PySem.Str) :: ("_law_kids" : PySem.Str) :: ("_law_spots" : PySem.Str) :: ("_law_all_spots" : PySem.Str) :: ("_law_leads" : PySem.Str) :: []
def kOb (s : PySem.W.SharedT) : (PySem.W.kHook kHeap kAs kEq).α := kAs.map (HandSHeadRun.getT s)
theorem kOb_eq (s : PySem.W.SharedT) : kOb s = (PySem.W.kHook kHeap kAs kEq).obs s.abs := List.map_congr_left fun a _ => HandSHeadRun.getT_eq s a
theorem kRun0 (w : World) : HandSHeadRun.RunEq kR kQ (PySem.W.kHook kHeap kAs kEq) kOb 4884 kL (w.withFollow "special-get-raises" false) := by
  intro os
  kernel_rfl
theorem kRun1 (w : World) : HandSHeadRun.RunEq kR kQ (PySem.W.kHook kHeap kAs kEq) kOb 4884 kL (w.withFollow "special-get-raises" true) := by
  intro os
  kernel_rfl
theorem kRun (w : World) : HandSHeadRun.RunEq kR kQ (PySem.W.kHook kHeap kAs kEq) kOb 4884 kL w := PySem.W.byRow2 "special-get-raises" (P := fun w => HandSHeadRun.RunEq kR kQ (PySem.W.kHook kHeap kAs kEq) kOb 4884 kL w) kRun0 kRun1 w
theorem kOk1 : PySem.W.chainsOk kQ = true := by decide +kernel
theorem kOk2 : PySem.W.opensWell kR.prog = true := by decide +kernel
theorem kOk3 : PySem.W.frees kR.toRowW = true := by decide +kernel
theorem kOk4 : kR.within.isEmpty = true := by decide +kernel
theorem kOkA : (PySem.W.chainsOk kQ && PySem.W.opensWell kR.prog && (PySem.W.frees kR.toRowW && kR.within.isEmpty)) = true := by
  rw [kOk1, kOk2, kOk3, kOk4]
  rfl
theorem kBare : kR.prog.bare := ⟨rfl, rfl, rfl, rfl, rfl, by decide +kernel⟩
end Wk

/-! Names that are new, parts that are there. -/
namespace L2
open PySem PySem.Spec PyProof.Rows
/-- a def of the module, by its name -/
structure Go (P : Program) (w : World) (K : PySem.W.Frag) (mg : Str → Option Value) (base : Heap) (CX : CXT) (n : Nat) (x : Str) (ps : List Str) (sp : Sp) : Prop where
  ex : ∃ f fd, FnOk P w K mg base CX n f fd ps sp ∧ mg x = some (.ref f) ∧ PySem.W.keepIn K (.ref f) = true ∧ Binds K fd ps []
section
variable {X : Cx} {CX : CXT} {n : Nat} {x : Str} {ps : List Str} {sp : Sp} {p pos : Pos} {e : Expr} {es : List Expr} {t : TA} {E : XK}
theorem pe_go (G : Go X.prog X.w X.K X.mg X.base CX n x ps sp) (hr : Room n X.A) (hx : Passes CX X E) (hg : Gl X x) (ha : PA X (e :: es) t) (hdb : (x == ("__debug__" : Str)) = false := by decide)
    (he : starEach (e :: es) X.env = (false, eval e X.env) :: starEach es X.env := by rfl) (hpl : (backTo pos (starEach es X.env)).any (·.1) = false := by rfl) : PE X (.Call (.Name x p) (e :: es) [] pos) (tCall sp [] E t) := by
  obtain ⟨f, fd, F, g, k, b⟩ := G.ex
  exact pe_call F hr hg g k b .nil hx ha hdb he hpl
end
theorem upd_self {H : Hp} {a : Addr} {o : HO} (h : H a = some o) : upd H a o = H := by
  funext b
  by_cases e : b = a
  · rw [e, upd_same, h]
  · rw [upd_ne e]
end L2
namespace Ck
open PySem PySem.Spec PyProof.Rows L2
/-- a table of names -/
def tab (ns : List Str) : List (Key × V) := ns.map fun z => (.inr z, .bl true)
theorem valV_tab (z : Str) : ∀ ns : List Str, (valV (tab ns) (.inr z)).isSome = ns.contains z
  | [] => rfl
  | n :: ns => by
    show (valV ((Sum.inr n, V.bl true) :: tab ns) (.inr z)).isSome = _
    by_cases e : n = z
    · rw [valV_pos (by rw [e])]
      simp [e]
    · rw [valV_neg (fun q => e (Sum.inr.inj q)), valV_tab z ns]
      simp [Ne.symm e]
theorem putK_tab {z : Str} {ns : List Str} (h : ns.contains z = false) : putK (tab ns) (.inr z) (.bl true) = tab (ns ++ [z]) := by
  unfold putK
  have e : ((tab ns).any fun kv => decide (kv.1 = (Sum.inr z : Key))) = false := by
    rw [valV_any, valV_tab, h]
  rw [e, if_neg Bool.false_ne_true]
  simp [tab]
section
variable {P : Program} {w : World} {K : PySem.W.Frag} {mg : Str → Option Value} {base : Heap} {dR dS : Addr} {adr : Kind → Addr}
theorem scNew : FnScope ["names", "value"] ["names", "value"] (defScope sIsNew) := ⟨rfl, rfl, rfl, by decide +kernel, rfl, by decide +kernel, by decide +kernel⟩
theorem scHp : FnScope ["tree"] ["tree"] (defScope sHasParts) := ⟨rfl, rfl, rfl, by decide +kernel, rfl, by decide +kernel, by decide +kernel⟩
def spNew (K : PySem.W.Frag) : Sp := fun vs H Q _ => ∃ d v t ns, vs = [.ref d, v] ∧ H d = some (.dK (tab ns)) ∧ ns.length ≤ 5000 ∧ Im K H v t ∧ Q (.bl (newName ns t).1) (upd H d (.dK (tab (newName ns t).2)))
theorem newName_str (ns : List Str) (z : Str) : newName ns (.str z) = if ns.contains z = true then (true, ns) else if nameOk z = true then (true, ns ++ [z]) else (false, ns) := rfl
abbrev GN (P : Program) (w : World) (K : PySem.W.Frag) (mg : Str → Option Value) (base : Heap) : Prop := Go P w K mg base CX0 1 "is_name" ["value"] (spIsName K)
theorem ok_isNew {f : Addr} {fd : FuncData} (F : Fun K "is_new_name" "is_new_name" sIsNew f fd) (M : Md K mg w dR dS adr) (G : GN P w K mg base) : FnOk P w K mg base CX0 2 f fd ["names", "value"] (spNew K) := by
  refine F.ok scNew (fun vs H Q E h => ?_) (fun cdv A outer s H vs Q E hr h => ?_)
  · obtain ⟨_, _, _, _, rfl, _⟩ := h
    rfl
  obtain ⟨d, v, t, ns, rfl, hd, few, im, q⟩ := h
  have hu := hu_of hr
  refine ⟨_, pss_cons (ps_if (PW.pt (pw_and (pt_val (pe_is (n := "str") M.mi M.mstr (by decide +kernel) rfl rfl (pv 1))) (pw_and1 (pt_cmp (pc_din hu (pv 1) (pv 0)) (by rfl))))) (pss_one (ps_ret pe_bl)) pss_nil)
    (pss_cons (ps_if (pt_not (pt_val (pe_go G hr pass0 rfl (pa_cons (pv 1) pa_nil)))) (pss_one (ps_ret pe_bl)) pss_nil)
    (pss_cons (ps_dput hu (pv 0) (pv 1) pe_bl rfl) (pss_one (ps_ret pe_bl)))), ?_⟩
  dsimp only [L2.tRet, L2.tRetN, tAndV, tOrV, tNotV, tCB, L2.tCons, L2.tNil, tC, tVar, L2.tOp, L2.tUn, tSeq, tAsg, gName, tIfS, tTest, tNext, tAnd, tOr, tNot, L2.tIf, tFld, sFld, sFldAug, tCall, tTup, tB, tAug, tDrop, L2.tSl, tPart, tNoPart, tBM, tBM0, tChain, gTup, gCons, gNil, tPar, tIs, List.set, tDIn, sDPut]
  refine ⟨_, rfl, is_str im ⟨_, rfl, ?_⟩⟩
  have self : upd H d (.dK (tab ns)) = H := upd_self hd
  have out : isName t = false → Q (.bl (newName ns t).1) (upd H d (.dK (tab (newName ns t).2))) → isSt t = false → Q (.bl false) H := fun _ z e => by
    have y : newName ns t = (false, ns) := by cases t <;> simp_all [isSt, newName]
    rw [y] at z
    dsimp only at z
    rw [self] at z
    exact z
  cases e : isSt t with
  | false =>
    have n : isName t = false := by cases t <;> simp_all [isSt, isName]
    refine if_no rfl (if_no rfl ?_)
    refine ⟨_, rfl, v, t, rfl, im, _, rfl, ?_⟩
    rw [n]
    exact if_yes rfl (out n q e)
  | true =>
    cases t with
    | str z =>
      cases im with
      | str hz =>
      refine if_yes rfl ⟨_, rfl, _, rfl, d, _, rfl, DGet.k (k := Sum.inr z) hd, _, rfl, ?_⟩
      rw [valV_tab]
      have qq : Q (.bl (newName ns (.str z)).1) (upd H d (.dK (tab (newName ns (.str z)).2))) := q
      rw [newName_str] at qq
      cases c : ns.contains z with
      | true =>
        rw [c, if_pos rfl] at qq
        dsimp only at qq
        rw [self] at qq
        exact if_yes rfl qq
      | false =>
        rw [c, if_neg Bool.false_ne_true] at qq
        refine if_no rfl ⟨_, rfl, _, .str z, rfl, .str hz, _, rfl, ?_⟩
        show if (!nameOk z) = true then _ else _
        cases m : nameOk z with
        | false =>
          rw [m, if_neg Bool.false_ne_true] at qq
          dsimp only at qq
          rw [self] at qq
          exact if_yes rfl qq
        | true =>
          rw [m, if_pos rfl] at qq
          refine if_no rfl ⟨_, rfl, _, rfl, d, _, rfl, DPut.k (k := Sum.inr z) hd (by unfold tab; rw [List.length_map, sizeLine_eq]; omega), ?_⟩
          rw [putK_tab c]
          exact qq
    | non => simp [isSt] at e
    | bl _ => simp [isSt] at e
    | int _ => simp [isSt] at e
    | tup _ => simp [isSt] at e
    | odd _ => simp [isSt] at e
def hasParts : List T → Bool
  | [_, .tup ps] => decide (2 ≤ ps.length)
  | _ => false
theorem Ims.len {H : Hp} : ∀ {xs : List V} {ts : List T}, Ims K H xs ts → xs.length = ts.length
  | _, _, .nil => rfl
  | _, _, .cons _ r => by rw [List.length_cons, List.length_cons, Ims.len r]
def spHp (K : PySem.W.Frag) : Sp := fun vs H Q _ => ∃ a xs ts, vs = [.ref a] ∧ H a = some (.tup xs) ∧ Ims K H xs ts ∧ Q (.bl (hasParts ts)) H
theorem sqt {H : Hp} {a : Addr} {xs : List V} (h : H a = some (.tup xs)) : SqT K H a xs := Or.inl (Or.inl h)
theorem ok_hp {f : Addr} {fd : FuncData} (F : Fun K "has_parts" "has_parts" sHasParts f fd) (M : Md K mg w dR dS adr) : FnOk P w K mg base CX0 1 f fd ["tree"] (spHp K) := by
  refine F.ok scHp (fun vs H Q E h => ?_) (fun cdv A outer s H vs Q E hr h => ?_)
  · obtain ⟨_, _, _, rfl, _⟩ := h
    rfl
  obtain ⟨a, xs, ts, rfl, ha, im, q⟩ := h
  refine ⟨_, pss_one (ps_ret (pe_and (pe_cmpR op_eq (pe_callB call_len_seq rfl M.ml PySem.boot_len (pa_cons (pv 0) pa_nil)) pe_int (nomark _)) (pe_and (pe_is (n := "tuple") M.mi M.mtup (by decide +kernel) rfl rfl (pe_ix ix_tup (pv 0) pe_int fun _ _ => rfl))
    (pe_one (pe_cmpR op_ge (pe_callB call_len_seq rfl M.ml PySem.boot_len (pa_cons (pe_ix ix_tup (pv 0) pe_int fun _ _ => rfl) pa_nil)) pe_int (nomark _)))))), ?_⟩
  dsimp only [L2.tRet, L2.tRetN, tAndV, tOrV, tNotV, tCB, L2.tCons, L2.tNil, tC, tVar, L2.tOp, L2.tUn, tSeq, tAsg, gName, tIfS, tTest, tNext, tAnd, tOr, tNot, L2.tIf, tFld, sFld, sFldAug, tCall, tTup, tB, tAug, tDrop, L2.tSl, tPart, tNoPart, tBM, tBM0, tChain, gTup, gCons, gNil, tPar, tIs, List.set]
  have ln := im.len
  refine ⟨_, rfl, a, xs, rfl, .inr (sqt ha), rfl, _, rfl, ?_⟩
  have no : xs.length ≠ 2 → Q (.bl false) H := fun c => by
    have z : hasParts ts = false := by
      rcases ts with _ | ⟨a, _ | ⟨b, _ | ⟨c, r⟩⟩⟩ <;> first | rfl | (exfalso; apply c; rw [ln]; rfl) | (cases b <;> rfl)
    rw [z] at q
    exact q
  by_cases c : xs.length = 2
  · refine if_yes (decide_eq_true (by rw [c]; rfl)) ?_
    obtain ⟨x0, x1, rfl⟩ : ∃ x0 x1, xs = [x0, x1] := by
      rcases xs with _ | ⟨x0, _ | ⟨x1, _ | ⟨x2, r⟩⟩⟩ <;> simp at c
      exact ⟨_, _, rfl⟩
    rcases im with _ | ⟨i0, _ | ⟨i1, _ | _⟩⟩
    rename_i t0 t1
    refine ⟨_, rfl, a, _, _, _, rfl, rfl, sqt ha, rfl, is_tup i1 ⟨_, rfl, ?_⟩⟩
    cases e : isTu t1 with
    | false =>
      have z : hasParts [t0, t1] = false := by cases t1 <;> simp_all [isTu, hasParts]
      rw [z] at q
      exact if_no rfl q
    | true =>
      cases t1 with
      | tup ps =>
        cases i1 with
        | @tup b ys _ hb ip =>
        have l2 := ip.len
        refine if_yes rfl ⟨_, rfl, a, _, _, _, rfl, rfl, sqt ha, rfl, b, ys, rfl, .inr (sqt hb), _, _, rfl, rfl, ?_⟩
        have z : hasParts [t0, .tup ps] = decide ((ys.length : Int) ≥ 2) := by
          show decide (2 ≤ ps.length) = _
          rw [l2]
          exact decide_eq_decide.mpr (by omega)
        rw [z] at q
        exact q
      | non => simp [isTu] at e
      | bl _ => simp [isTu] at e
      | int _ => simp [isTu] at e
      | str _ => simp [isTu] at e
      | odd _ => simp [isTu] at e
  · exact if_no (decide_eq_false (by intro z; apply c; have y := V.int.inj z; omega)) (no c)
end
end Ck

/-! The check's own object, and what each def does with it. -/
namespace Ck
open PySem PySem.Spec PyProof.Rows L2
/-- where the check, its dict, its tables and its list stand -/
structure Foot where
  c : Addr
  dx : Addr
  dc : Addr
  dv : Addr
  df : Addr
  dp : Addr
def flds (F : Foot) (S : CS) : List (Str × V) := [("trees", .int S.trees), ("commands", .ref F.dc), ("variables", .ref F.dv), ("unfolded", .int S.unf), ("functions", .ref F.df), ("places", .ref F.dp), ("loops", .int S.loops), ("returns", .bl S.rets)]
def ftab (fs : List (Str × Int)) : List (Key × V) := fs.map fun p => (.inr p.1, .int p.2)
structure At (C : Addr) (H : Hp) (F : Foot) (S : CS) : Prop where
  c : H F.c = some (.ins C F.dx (flds F S))
  dc : H F.dc = some (.dK (tab S.cmds))
  dv : H F.dv = some (.dK (tab S.vars))
  df : H F.df = some (.dK (ftab S.fns))
  dp : H F.dp = some (.lst (S.places.map V.int))
  cv : F.dc ≠ F.dv
  cf : F.dc ≠ F.df
  vf : F.dv ≠ F.df
structure Ok (S : CS) : Prop where
  lo : 0 ≤ S.trees
  hi : S.trees ≤ 3000
  cm : (S.cmds.length : Int) ≤ S.trees
  va : (S.vars.length : Int) ≤ S.trees
/-- with one tree more than names -/
structure Ok1 (S : CS) : Prop where
  lo : 0 ≤ S.trees
  hi : S.trees ≤ 3000
  cm : (S.cmds.length : Int) + 1 ≤ S.trees
  va : (S.vars.length : Int) + 1 ≤ S.trees
theorem Ok1.ok {S : CS} (h : Ok1 S) : Ok S := ⟨h.lo, h.hi, by have := h.cm; omega, by have := h.va; omega⟩
theorem newName_len (ns : List Str) (t : T) : (newName ns t).2.length ≤ ns.length + 1 := by
  cases t with
  | str z =>
    rw [newName_str]
    split
    · exact Nat.le_succ _
    · split
      · simp
      · exact Nat.le_succ _
  | _ => exact Nat.le_succ _
structure Free (F : Foot) (G : Hp) : Prop where
  c : G F.c = none
  dc : G F.dc = none
  dv : G F.dv = none
  df : G F.df = none
  dp : G F.dp = none
/-- what comes of a def that gives a size, over the data G -/
def Res (C IP : Addr) (F : Foot) (G : Hp) (pl : List Int) (r : R) (Q : VK) (E : XK) : Prop := match r with
  | .ok (i, S) => ∀ H', Same G H' → At C H' F S → Ok S → S.places = pl → Q (.int i) H'
  | .error path => ∀ H' d p, Same G H' → H' d = some (.xd [("path", .ref p)]) → H' p = some (.tup (path.map V.int)) → E (.ref IP) (some d) H'
section
variable {C IP : Addr} {F : Foot} {G H : Hp} {S : CS} {K : PySem.W.Frag}
theorem Same.up {p : Addr} {o : HO} (h : Same G H) (n : G p = none) : Same G (upd H p o) := fun b u z => by
  rw [upd_ne (ne_of_none z n)]
  exact h b u z
theorem Same.new {p : Addr} {o : HO} (h : Same G H) (n : H p = none) : Same G (upd H p o) := fun b u z => by
  rw [upd_ne (ne_of_none (h b u z) n)]
  exact h b u z
theorem Same.non {p : Addr} (h : Same G H) (n : H p = none) : G p = none := by
  cases e : G p with
  | none => rfl
  | some u =>
    rw [h p u e] at n
    cases n
/-- the data, and one thing more -/
theorem Same.both {p : Addr} {o : HO} (h : Same G H) : Same (upd G p o) (upd H p o) := fun b u z => by
  by_cases e : b = p
  · subst e
    rw [upd_same] at z ⊢
    exact z
  · rw [upd_ne e] at z ⊢
    exact h b u z
theorem Same.left {p : Addr} {o : HO} {H' : Hp} (h : Same (upd G p o) H') (n : G p = none) : Same G H' := fun b u z => h b u (by rw [upd_ne (ne_of_none z n)]; exact z)
theorem At.ne {p : Addr} (a : At C H F S) (n : H p = none) : F.c ≠ p ∧ F.dc ≠ p ∧ F.dv ≠ p ∧ F.df ≠ p ∧ F.dp ≠ p := ⟨ne_of_none a.c n, ne_of_none a.dc n, ne_of_none a.dv n, ne_of_none a.df n, ne_of_none a.dp n⟩
theorem At.new {p : Addr} {o : HO} (a : At C H F S) (n : H p = none) : At C (upd H p o) F S := by
  obtain ⟨n1, n2, n3, n4, n5⟩ := a.ne n
  exact ⟨by rw [upd_ne n1]; exact a.c, by rw [upd_ne n2]; exact a.dc, by rw [upd_ne n3]; exact a.dv, by rw [upd_ne n4]; exact a.df, by rw [upd_ne n5]; exact a.dp, a.cv, a.cf, a.vf⟩
theorem Free.new {p : Addr} {o : HO} (f : Free F G) (a : At C H F S) (n : H p = none) : Free F (upd G p o) := by
  obtain ⟨n1, n2, n3, n4, n5⟩ := a.ne n
  exact ⟨by rw [upd_ne n1]; exact f.c, by rw [upd_ne n2]; exact f.dc, by rw [upd_ne n3]; exact f.dv, by rw [upd_ne n4]; exact f.df, by rw [upd_ne n5]; exact f.dp⟩
theorem At.cne (a : At C H F S) : F.dc ≠ F.c ∧ F.dv ≠ F.c ∧ F.df ≠ F.c ∧ F.dp ≠ F.c :=
  ⟨ne_of a.dc a.c (by intro z; cases z), ne_of a.dv a.c (by intro z; cases z), ne_of a.df a.c (by intro z; cases z), ne_of a.dp a.c (by intro z; cases z)⟩
/-- a field of the check is set -/
theorem At.set (a : At C H F S) {S' : CS} {f : Str} {v : V} (e : putF f v (flds F S) = flds F S') (e1 : S'.cmds = S.cmds) (e2 : S'.vars = S.vars) (e3 : S'.fns = S.fns) (e4 : S'.places = S.places) : At C (upd H F.c (.ins C F.dx (putF f v (flds F S)))) F S' := by
  obtain ⟨n1, n2, n3, n4⟩ := a.cne
  exact ⟨by rw [upd_same, e], by rw [upd_ne n1, e1]; exact a.dc, by rw [upd_ne n2, e2]; exact a.dv, by rw [upd_ne n3, e3]; exact a.df, by rw [upd_ne n4, e4]; exact a.dp, a.cv, a.cf, a.vf⟩
theorem put_trees {i : Int} : putF "trees" (.int i) (flds F S) = flds F { S with trees := i } := by with_unfolding_all rfl
theorem put_loops {i : Int} : putF "loops" (.int i) (flds F S) = flds F { S with loops := i } := by with_unfolding_all rfl
theorem put_rets {b : Bool} : putF "returns" (.bl b) (flds F S) = flds F { S with rets := b } := by with_unfolding_all rfl
theorem put_unf {i : Int} : putF "unfolded" (.int i) (flds F S) = flds F { S with unf := i } := by with_unfolding_all rfl
theorem At.cmds (a : At C H F S) (ns : List Str) : At C (upd H F.dc (.dK (tab ns))) F { S with cmds := ns } := by
  obtain ⟨n1, n2, n3, n4⟩ := a.cne
  exact ⟨by rw [upd_ne (Ne.symm n1)]; exact a.c, upd_same, by rw [upd_ne (Ne.symm a.cv)]; exact a.dv, by rw [upd_ne (Ne.symm a.cf)]; exact a.df, by rw [upd_ne (ne_of a.dp a.dc (by intro z; cases z))]; exact a.dp, a.cv, a.cf, a.vf⟩
theorem At.vars (a : At C H F S) (ns : List Str) : At C (upd H F.dv (.dK (tab ns))) F { S with vars := ns } := by
  obtain ⟨n1, n2, n3, n4⟩ := a.cne
  exact ⟨by rw [upd_ne (Ne.symm n2)]; exact a.c, by rw [upd_ne a.cv]; exact a.dc, upd_same, by rw [upd_ne (Ne.symm a.vf)]; exact a.df, by rw [upd_ne (ne_of a.dp a.dv (by intro z; cases z))]; exact a.dp, a.cv, a.cf, a.vf⟩
theorem At.fns (a : At C H F S) (fs : List (Str × Int)) : At C (upd H F.df (.dK (ftab fs))) F { S with fns := fs } := by
  obtain ⟨n1, n2, n3, n4⟩ := a.cne
  exact ⟨by rw [upd_ne (Ne.symm n3)]; exact a.c, by rw [upd_ne a.cf]; exact a.dc, by rw [upd_ne a.vf]; exact a.dv, upd_same, by rw [upd_ne (ne_of a.dp a.df (by intro z; cases z))]; exact a.dp, a.cv, a.cf, a.vf⟩
theorem At.places (a : At C H F S) (ps : List Int) : At C (upd H F.dp (.lst (ps.map V.int))) F { S with places := ps } := by
  obtain ⟨n1, n2, n3, n4⟩ := a.cne
  exact ⟨by rw [upd_ne (Ne.symm n4)]; exact a.c, by rw [upd_ne (ne_of a.dc a.dp (by intro z; cases z))]; exact a.dc, by rw [upd_ne (ne_of a.dv a.dp (by intro z; cases z))]; exact a.dv, by rw [upd_ne (ne_of a.df a.dp (by intro z; cases z))]; exact a.df, upd_same, a.cv, a.cf, a.vf⟩
theorem tyOf_mono (h : Same G H) {v : V} {t : Value} (y : TyOf K G v t) : TyOf K H v t := by
  cases y with
  | non => exact .non
  | bl x => exact .bl x
  | int i => exact .int i
  | str x => exact .str x
  | flt x => exact .flt x
  | lst e => exact .lst (h _ _ e)
  | frz e => exact .frz (h _ _ e)
  | tup e => exact .tup (h _ _ e)
  | dK e => exact .dK (h _ _ e)
  | dT e => exact .dT (h _ _ e)
  | ins e a b c d f => exact .ins (h _ _ e) a b c d f
theorem tyX_mono (h : Same G H) {v : V} {t : Value} (y : TyX K G v t) : TyX K H v t := by
  cases y with
  | base b => exact .base (tyOf_mono h b)
  | byt b => exact .byt b
  | set e => exact .set (h _ _ e)
  | kList e c => exact .kList e c
  | kTuple e c => exact .kTuple e c
  | kDict e c => exact .kDict e c
  | fTuple e => exact .fTuple (h _ _ e)
  | fDict e => exact .fDict (h _ _ e)
mutual
theorem Im.mono (h : Same G H) : ∀ {v : V} {t : T}, Im K G v t → Im K H v t
  | _, _, .non => .non
  | _, _, .bl b => .bl b
  | _, _, .int i => .int i
  | _, _, .str z => .str z
  | _, _, .tup e r => .tup (h _ _ e) (Ims.mono h r)
  | _, _, .odd a b c d e n => .odd (tyX_mono h a) b c d e n
theorem Ims.mono (h : Same G H) : ∀ {vs : List V} {ts : List T}, Ims K G vs ts → Ims K H vs ts
  | _, _, .nil => .nil
  | _, _, .cons a r => .cons (Im.mono h a) (Ims.mono h r)
end
theorem get_trees : List.lookup ("trees" : Str) (flds F S) = some (V.int S.trees) := by with_unfolding_all rfl
theorem get_cmds : List.lookup ("commands" : Str) (flds F S) = some (V.ref F.dc) := by with_unfolding_all rfl
theorem get_vars : List.lookup ("variables" : Str) (flds F S) = some (V.ref F.dv) := by with_unfolding_all rfl
theorem get_unf : List.lookup ("unfolded" : Str) (flds F S) = some (V.int S.unf) := by with_unfolding_all rfl
theorem get_fns : List.lookup ("functions" : Str) (flds F S) = some (V.ref F.df) := by with_unfolding_all rfl
theorem get_places : List.lookup ("places" : Str) (flds F S) = some (V.ref F.dp) := by with_unfolding_all rfl
theorem get_loops : List.lookup ("loops" : Str) (flds F S) = some (V.int S.loops) := by with_unfolding_all rfl
theorem get_rets : List.lookup ("returns" : Str) (flds F S) = some (V.bl S.rets) := by with_unfolding_all rfl
theorem two {xs : List V} {ts : List T} (im : Ims K G xs ts) : (∃ x0 x1 t0 t1, xs = [x0, x1] ∧ ts = [t0, t1] ∧ Im K G x0 t0 ∧ Im K G x1 t1) ∨ (xs.length ≠ 2 ∧ ∀ t0 t1, ts ≠ [t0, t1]) := by
  rcases im with _ | ⟨i0, _ | ⟨i1, _ | ⟨i2, r⟩⟩⟩
  · exact .inr ⟨by simp, by simp⟩
  · exact .inr ⟨by simp, by simp⟩
  · exact .inl ⟨_, _, _, _, rfl, rfl, i0, i1⟩
  · exact .inr ⟨by simp, by simp⟩
theorem three {xs : List V} {ts : List T} (im : Ims K G xs ts) : (∃ x0 x1 x2 t0 t1 t2, xs = [x0, x1, x2] ∧ ts = [t0, t1, t2] ∧ Im K G x0 t0 ∧ Im K G x1 t1 ∧ Im K G x2 t2) ∨ (xs.length ≠ 3 ∧ ∀ t0 t1 t2, ts ≠ [t0, t1, t2]) := by
  rcases im with _ | ⟨i0, _ | ⟨i1, _ | ⟨i2, _ | ⟨i3, r⟩⟩⟩⟩
  · exact .inr ⟨by simp, by simp⟩
  · exact .inr ⟨by simp, by simp⟩
  · exact .inr ⟨by simp, by simp⟩
  · exact .inl ⟨_, _, _, _, _, _, rfl, rfl, i0, i1, i2⟩
  · exact .inr ⟨by simp, by simp⟩
theorem four {xs : List V} {ts : List T} (im : Ims K G xs ts) : (∃ x0 x1 x2 x3 t0 t1 t2 t3, xs = [x0, x1, x2, x3] ∧ ts = [t0, t1, t2, t3] ∧ Im K G x0 t0 ∧ Im K G x1 t1 ∧ Im K G x2 t2 ∧ Im K G x3 t3) ∨ (xs.length ≠ 4 ∧ ∀ t0 t1 t2 t3, ts ≠ [t0, t1, t2, t3]) := by
  rcases im with _ | ⟨i0, _ | ⟨i1, _ | ⟨i2, _ | ⟨i3, _ | ⟨i4, r⟩⟩⟩⟩⟩
  · exact .inr ⟨by simp, by simp⟩
  · exact .inr ⟨by simp, by simp⟩
  · exact .inr ⟨by simp, by simp⟩
  · exact .inr ⟨by simp, by simp⟩
  · exact .inl ⟨_, _, _, _, _, _, _, _, rfl, rfl, i0, i1, i2, i3⟩
  · exact .inr ⟨by simp, by simp⟩
end
/-- the class of checks, and the error -/
structure Mc (P : Program) (K : PySem.W.Frag) (mg : Str → Option Value) (C IP fI : Addr) : Prop where
  cl : Cls K C
  n1 : NoAttr K C "trees"
  n2 : NoAttr K C "commands"
  n3 : NoAttr K C "variables"
  n4 : NoAttr K C "unfolded"
  n5 : NoAttr K C "functions"
  n6 : NoAttr K C "places"
  n7 : NoAttr K C "loops"
  n8 : NoAttr K C "returns"
  er : ErrR P K mg "InvalidProgram" "path" IP fI
/-- what a caller gives to a def that looks at one tree -/
def spAct (K : PySem.W.Frag) (C IP : Addr) (n : Nat) (k : Kind) : Sp := fun vs H Q E => ∃ F S G a xs ts p, vs = [.ref (Foot.c F), .ref a, .int p] ∧ Same G H ∧ Free F G ∧ At C H F S ∧ Ok1 S ∧ S.places.length + n = 59 ∧ G a = some (.tup xs) ∧ Ims K G xs ts ∧ Res C IP F G S.places (act (ins n) k S ts p) Q E
end Ck

/-! Promises of defs deep below one another: one place of the stack for each call, where Room counts three. -/
namespace L2
open PySem PySem.Spec PyProof.Rows
structure RoomD (k : Nat) (A : Around) : Prop where
  hd : A.handled = none
  dp : A.depth + k + 20 < recursionLimit
  un : A.units + 3 * k + 300 < cLine
theorem RoomD.mono {j k : Nat} {A : Around} (r : RoomD k A) (h : j ≤ k) : RoomD j A := ⟨r.hd, by have := r.dp; omega, by have := r.un; omega⟩
theorem RoomD.low {k : Nat} {A : Around} (r : RoomD k A) : Room 5 A := ⟨r.hd, by have := r.dp; omega, by have := r.un; omega⟩
theorem RoomD.deeper {k : Nat} {A : Around} (r : RoomD (k + 1) A) (e : Env) : RoomD k (A.deeper e) := ⟨r.hd, by have := r.dp; show A.depth + 1 + k + 20 < _; omega, by have := r.un; show A.units + 3 + 3 * k + 300 < _; omega⟩
theorem RoomD.depth {k : Nat} {A : Around} (r : RoomD k A) : A.depth < recursionLimit := by have := r.dp; omega
theorem Room.high {k m : Nat} {A : Around} (r : Room k A) (h : m + 15 ≤ 3 * k) (h2 : 3 * m + 100 ≤ 16 * k) : RoomD m A := ⟨r.hd, by have := r.dp; omega, by have := r.un; omega⟩
structure FnD (P : Program) (w : World) (K : PySem.W.Frag) (mg : Str → Option Value) (base : Heap) (CX : CXT) (k : Nat) (f : Addr) (fd : FuncData) (ps : List Str) (sp : Sp) : Prop where
  len : ∀ vs H Q E, sp vs H Q E → vs.length = ps.length
  run : ∀ (A : Around) (outer : List Env) (s : Shared) (H : Hp) (args : Args) (us : List Value) (vs : List V) (Q : VK) (E : XK), RoomD k A → Env0 P w K mg base A outer s H → BindsTo s fd args (ps.zip us) → Vals vs us → sp vs H Q E →
    codeAny (model P w) A (.call (.ref f) args) (CR CX outer P w H s Q E) s
section
variable {P : Program} {w : World} {K : PySem.W.Frag} {mg : Str → Option Value} {base : Heap} {CX : CXT} {j k : Nat} {f : Addr} {fd : FuncData} {ps : List Str} {sp : Sp}
theorem FnD.mono (F : FnD P w K mg base CX j f fd ps sp) (h : j ≤ k) : FnD P w K mg base CX k f fd ps sp := ⟨F.len, fun A outer s H args us vs Q E hr => F.run A outer s H args us vs Q E (hr.mono h)⟩
theorem FnD.of (F : FnOk P w K mg base CX j f fd ps sp) (h : j ≤ 5) : FnD P w K mg base CX k f fd ps sp := ⟨F.len, fun A outer s H args us vs Q E hr => F.run A outer s H args us vs Q E (hr.low.mono h)⟩
theorem FnD.ok (F : FnD P w K mg base CX j f fd ps sp) (h : j + 15 ≤ 3 * k) (h2 : 3 * j + 100 ≤ 16 * k) : FnOk P w K mg base CX k f fd ps sp := ⟨F.len, fun A outer s H args us vs Q E hr => F.run A outer s H args us vs Q E (hr.high h h2)⟩
end
/-- the def's body, run so deep -/
theorem okXD {P : Program} {w : World} {K : PySem.W.Frag} {mg : Str → Option Value} {base : Heap} {x qual : Str} {stm : Stmt} {f : Addr} {fd : FuncData} {N ps : List Str} {k : Nat} {sp : Sp}
    (F : Fun K x qual stm f fd) (S : FnScope N ps (defScope stm)) (many : ∀ vs H Q E, sp vs H Q E → vs.length = ps.length)
    (body : ∀ (cdv : Value) (A : Around) (outer : List Env) (st : Shared) (H : Hp) (vs : List V) (Q : VK) (E : XK), RoomD k (A.deeper (envOfC qual (defScope stm) st.heap.objs.size f cdv)) → sp vs H Q E →
      ∃ t, PSs (cxOf (L2.CX P w) P w K mg base N qual (defScope stm) f cdv A outer st H E) (defBody stm) t ∧ t { nx := fun _ H' => Q .non H', rt := Q } (L2.start N vs) H) :
    FnD P w K mg base (L2.CX P w) (k + 1) f fd ps sp := by
  obtain ⟨oc, od, kV, doc, pm, an, cdv, ct, osl, rfl, look, code⟩ := F.ex
  refine ⟨many, fun A outer st H args us vs Q E hr e0 hb hv hs => ?_⟩
  have nvs := many _ _ _ _ hs
  have Kin : K.In st.heap := e0.mod.kin.keeps fun b o e => (e0.bs b o e).1
  have lim : st.heap.NoLimit := e0.mod.nolimit.keeps fun b o e => (e0.bs b o e).1
  have kinds : ∀ y ∈ ps.zip us, (defScope stm).names.lookup y.1 = some .local ∨ ((defScope stm).names.lookup y.1 = some .cell ∧ ((cellsFrom (st.heap.objs.size + 1) (defScope stm).names []).lookup y.1).isSome = true) := by
    intro y hy
    obtain ⟨n, v⟩ := y
    rcases S.par n (List.of_mem_zip hy).1 with z | z
    · exact Or.inl z
    · exact Or.inr ⟨z, PySem.W.cellsFrom_some _ _ _ (.inl z)⟩
  refine codeAny_call_function hr.depth (Kin _ _ look) rfl S.co S.gen rfl (PySem.W.codeRec_of Kin code) (hb _ _ _ _ ?_)
  refine wpAny_newFunctionEnv_cells S.kind kinds fun env he sB xB => ?_
  subst he
  refine ⟨lim.keeps xB.toInCall.keep, codeAny_func ?_⟩
  obtain ⟨t, ht, hq⟩ := body cdv A outer st H vs Q E (hr.deeper _) hs
  have J0 : Inv (cxOf (L2.CX P w) P w K mg base N qual (defScope stm) f cdv A outer st H E) [] (L2.start N vs) H sB := inv_start S hr.hd e0 nvs hv xB
  refine wpAny_mono (ht.run [] sB (L2.start N vs) H _ J0 hq) (fun fl sC hC => ?_) fun _ _ z => z
  cases fl with
  | ret u =>
    obtain ⟨v, σ2, H2, J, rv, z⟩ := hC
    exact ⟨v, H2, J.os, J.bare, J.base, J.hok, rv, z⟩
  | next =>
    obtain ⟨σ2, H2, J, z⟩ := hC
    exact ⟨V.non, H2, J.os, J.bare, J.base, J.hok, rfl, z⟩
  | brk =>
    obtain ⟨_, _, _, z⟩ := hC
    exact z.elim
  | cont =>
    obtain ⟨_, _, _, z⟩ := hC
    exact z.elim
section
variable {X : Cx} {CX : CXT} {k : Nat} {f : Addr} {fd : FuncData} {ps : List Str} {sp : Sp} {x : Str} {p pos : Pos} {e : Expr} {es : List Expr} {t : TA} {E : XK}
/-- such a def, run where it is called -/
theorem run_deep {pins : List (Addr × Obj)} {σ : St} {H : Hp} {s : Shared} {Q : VK} {us : List Value} {vs : List V} (F : FnD X.prog X.w X.K X.mg X.base CX k f fd ps sp) (hr : RoomD k X.A) (hb : Binds X.K fd ps []) (hx : Passes CX X E) (I : Inv X pins σ H s) (r : Vals vs us) (h : sp vs H Q E) :
    wpAny (model X.prog X.w) X.A (call (.ref f) us) (EP X pins σ Q) X.xe s := by
  have l : us.length = ps.length := by
    rw [← r.length]
    exact F.len _ _ _ _ h
  have bd := hb s us I.kIn (by rw [List.append_nil]; exact l)
  rw [List.append_nil] at bd
  refine wpAny_call (codeAny_mono (F.run X.A X.stack s H ⟨us, []⟩ us vs Q E hr I.env0 bd r h) fun res sC hC => ?_)
  cases res with
  | error er => exact hx pins σ H s er sC I hC
  | ok fl =>
    cases fl with
    | ret u => exact I.after hC
    | next => exact hC.elim
    | brk => exact hC.elim
    | cont => exact hC.elim
structure GoD (P : Program) (w : World) (K : PySem.W.Frag) (mg : Str → Option Value) (base : Heap) (CX : CXT) (n : Nat) (x : Str) (ps : List Str) (sp : Sp) : Prop where
  ex : ∃ f fd, FnD P w K mg base CX n f fd ps sp ∧ mg x = some (.ref f) ∧ PySem.W.keepIn K (.ref f) = true ∧ Binds K fd ps []
theorem pe_goD {n : Nat} (G : GoD X.prog X.w X.K X.mg X.base CX n x ps sp) (hr : RoomD n X.A) (hx : Passes CX X E) (hg : Gl X x) (ha : PA X (e :: es) t) (hdb : (x == ("__debug__" : Str)) = false := by decide)
    (he : starEach (e :: es) X.env = (false, eval e X.env) :: starEach es X.env := by rfl) (hpl : (backTo pos (starEach es X.env)).any (·.1) = false := by rfl) : PE X (.Call (.Name x p) (e :: es) [] pos) (tCall sp [] E t) := by
  obtain ⟨f, fd, F, hm, hk, hb⟩ := G.ex
  refine ⟨fun pins st σ H Q I h => ?_⟩
  refine wpAny_Call_Name_kw (ld_glob I hg hm ?_ hdb)
  refine PySem.W.callWith_K (h₀ := X.base) I.ok.mod.kin hk (thn (ha.run pos pins st σ H _ I h) fun us sB hh => ?_) he hpl
  obtain ⟨vs, H1, I1, r, q⟩ := hh
  refine ⟨I1.kIn, ?_⟩
  have q2 : sp vs H1 Q E := by
    have z := q
    rw [List.append_nil] at z
    exact z
  exact run_deep F hr hb hx I1 r q2
structure CallD (P : Program) (w : World) (K : PySem.W.Frag) (mg : Str → Option Value) (base : Heap) (CX : CXT) (k : Nat) (f : Addr) (sp : Sp) : Prop where
  ex : ∃ (fd : FuncData) (ps : List Str), FnD P w K mg base CX k f fd ps sp ∧ PySem.W.keepIn K (.ref f) = true ∧ Binds K fd ps []
theorem pe_callTD {i : Nat} {ι : Type} {adr : ι → Addr} {sp : ι → Sp} (A : ∀ j, CallD X.prog X.w X.K X.mg X.base CX k (adr j) (sp j)) (hr : RoomD k X.A) (hN : X.N[i]? = some x) (hv : Vis X.env.scope x) (hx : Passes CX X E) (ha : PA X (e :: es) t)
    (hdb : (x == ("__debug__" : Str)) = false := by decide) (hcd : (x == ("__classdict__" : Str)) = false := by decide)
    (he : starEach (e :: es) X.env = (false, eval e X.env) :: starEach es X.env := by rfl) (hpl : (backTo pos (starEach es X.env)).any (·.1) = false := by rfl) : PE X (.Call (.Name x p) (e :: es) [] pos) (tCallT i adr sp E t) := by
  refine ⟨fun pins s σ H Q I h => ?_⟩
  obtain ⟨j, hs, ht⟩ := h
  obtain ⟨fd, ps, F, hk, hb⟩ := (A j).ex
  refine wpAny_Call_Name_kw (thn ((pe_var hN hv hdb hcd).run pins s σ H (fun v H1 => v = V.ref (adr j) ∧ H1 = H) I ⟨_, hs, rfl, rfl⟩) fun u s1 hh => ?_)
  obtain ⟨v, H1, I1, r1, rfl, rfl⟩ := hh
  obtain rfl : u = Value.ref (adr j) := r1
  refine PySem.W.callWith_K (h₀ := X.base) I1.ok.mod.kin hk (thn (ha.run pos pins s1 σ _ _ I1 ht) fun us s2 hh => ?_) he hpl
  obtain ⟨vs, H2, I2, r, q⟩ := hh
  exact ⟨I2.kIn, run_deep F hr hb hx I2 r q⟩
end
end L2

/-! The defs that look at one tree without trees in it. -/
namespace Ck
open PySem PySem.Spec PyProof.Rows L2
section
variable {P : Program} {w : World} {K : PySem.W.Frag} {mg : Str → Option Value} {base : Heap} {dR dS : Addr} {adr : Kind → Addr} {C IP fI : Addr}
theorem res0 {F : Foot} {G H : Hp} {i : Int} {S : CS} {pl : List Int} {Q : VK} {E : XK} (r : Res C IP F G pl (.ok (i, S)) Q E) (sm : Same G H) (a : At C H F S) (o : Ok S) (e : S.places = pl := by rfl) : Q (.int i) H := r H sm a o e
abbrev GW (P : Program) (w : World) (K : PySem.W.Frag) (mg : Str → Option Value) (base : Heap) : Prop := Go P w K mg base CX0 1 "is_integer_within" ["value", "least", "most"] (spIsWithin K)
abbrev GI (P : Program) (w : World) (K : PySem.W.Frag) (mg : Str → Option Value) (base : Heap) : Prop := Go P w K mg base CX0 1 "is_integer" ["value"] (spIsInt K)
abbrev GNew (P : Program) (w : World) (K : PySem.W.Frag) (mg : Str → Option Value) (base : Heap) : Prop := Go P w K mg base CX0 2 "is_new_name" ["names", "value"] (spNew K)
theorem len_ne {xs : List V} {n : Nat} (h : xs.length ≠ n) : decide (V.int (xs.length : Nat) = V.int (n : Nat)) = false := decide_eq_false fun z => h (by have y := V.int.inj z; omega)
theorem len_not {xs : List V} {n : Nat} (h : xs.length ≠ n) : (!decide (V.int (xs.length : Nat) = V.int (n : Nat))) = true := by rw [len_ne h]; rfl
theorem new_ok {S : CS} {ns : List Str} {t : T} (o : Ok1 S) (e : S.cmds = ns) : Ok { S with cmds := (newName ns t).2 } := by
  have := newName_len ns t
  have h := o.cm
  rw [e] at h
  exact ⟨o.lo, o.hi, by show ((newName ns t).2.length : Int) ≤ S.trees; omega, o.ok.va⟩
theorem new_okv {S : CS} {ns : List Str} {t : T} (o : Ok1 S) (e : S.vars = ns) : Ok { S with vars := (newName ns t).2 } := by
  have := newName_len ns t
  have h := o.va
  rw [e] at h
  exact ⟨o.lo, o.hi, o.ok.cm, by show ((newName ns t).2.length : Int) ≤ S.trees; omega⟩
theorem cmds_few {S : CS} (o : Ok1 S) : S.cmds.length ≤ 5000 := by
  have h := o.cm
  have h2 := o.hi
  omega
theorem vars_few {S : CS} (o : Ok1 S) : S.vars.length ≤ 5000 := by
  have h := o.va
  have h2 := o.hi
  omega
/-- 1 if b, else 0 -/
theorem one_if {b : Bool} {Q : VK} {H : Hp} (q : Q (.int (b2 b)) H) : if b = true then Q (.int 1) H else Q (.int 0) H := by
  cases b with
  | true => exact if_yes rfl q
  | false => exact if_no rfl q

abbrev sRun : Stmt := topS 26
theorem scRun : FnScope ["check", "tree", "place"] ["check", "tree", "place"] (defScope sRun) := ⟨rfl, rfl, rfl, by decide +kernel, rfl, by decide +kernel, by decide +kernel⟩
theorem ok_Run {n : Nat} {f : Addr} {fd : FuncData} (F0 : Fun K "size_of_run" "size_of_run" sRun f fd) (M : Md K mg w dR dS adr) (Z : Mc P K mg C IP fI) (GN : GNew P w K mg base) : FnOk P w K mg base (L2.CX P w) 3 f fd ["check", "tree", "place"] (spAct K C IP n .run) := by
  refine F0.okX scRun (fun vs H Q E h => ?_) (fun cdv A outer s H vs Q E hr h => ?_)
  · obtain ⟨_, _, _, _, _, _, _, rfl, _⟩ := h
    rfl
  obtain ⟨F, S, G, a, xs, ts, p, rfl, sm, fr, at0, ok, lv, ga, im, q⟩ := h
  have hu := hu_of hr
  have ha := sqt (K := K) (sm _ _ ga)

  refine ⟨_, pss_one (ps_ret (pe_ifExp (PW.pt (pw_and (pt_cmpR op_eq (pe_callB call_len_seq rfl M.ml PySem.boot_len (pa_cons (pv 1) pa_nil)) pe_int (nomark _)) (pw_and1 (pt_val (pe_go GN hr pass0 rfl (pa_cons (pe_fld (pv 0) rfl) (pa_cons (pe_ix ix_tup (pv 1) pe_int fun _ _ => rfl) pa_nil))))))) pe_int pe_int)), ?_⟩
  dsimp only [L2.tRet, L2.tRetN, tAndV, tOrV, tNotV, tCB, L2.tCons, L2.tNil, tC, tVar, L2.tOp, L2.tUn, tSeq, tAsg, gName, tIfS, tTest, tNext, tAnd, tOr, tNot, L2.tIf, tFld, sFld, sFldAug, tCall, tTup, tB, tAug, tDrop, L2.tSl, tPart, tNoPart, tBM, tBM0, tChain, gTup, gCons, gNil, tPar, tIs, List.set]
  refine ⟨_, rfl, a, xs, rfl, .inr ha, rfl, _, rfl, ?_⟩
  rcases two im with ⟨x0, x1, t0, t1, rfl, rfl, i0, i1⟩ | ⟨c, nt⟩
  · refine if_yes rfl ?_
    refine ⟨_, rfl, F.c, C, F.dx, _, _, rfl, at0.c, Z.cl, Z.n2, get_cmds, _, rfl, a, _, _, _, rfl, rfl, ha, rfl, F.dc, x1, t1, S.cmds, rfl, at0.dc, cmds_few ok, i1.mono sm, _, rfl, ?_⟩
    have nd : G F.dc = none := fr.dc
    exact one_if (res0 q (Ck.Same.up sm nd) (at0.cmds _) (new_ok ok rfl))
  · refine if_no (len_ne c) (if_no rfl ?_)
    have e : act (ins n) .run S ts p = .ok (0, S) := by
      rcases ts with _ | ⟨t0, _ | ⟨t1, _ | ⟨t2, r⟩⟩⟩ <;> first | rfl | exact absurd rfl (nt _ _)
    rw [e] at q
    exact res0 q sm at0 ok.ok

abbrev sVar : Stmt := topS 28
theorem scVar : FnScope ["check", "tree", "place"] ["check", "tree", "place"] (defScope sVar) := ⟨rfl, rfl, rfl, by decide +kernel, rfl, by decide +kernel, by decide +kernel⟩
theorem ok_Var {n : Nat} {f : Addr} {fd : FuncData} (F0 : Fun K "size_with_variable" "size_with_variable" sVar f fd) (M : Md K mg w dR dS adr) (Z : Mc P K mg C IP fI) (GN : GNew P w K mg base) : FnOk P w K mg base (L2.CX P w) 3 f fd ["check", "tree", "place"] (spAct K C IP n .var) := by
  refine F0.okX scVar (fun vs H Q E h => ?_) (fun cdv A outer s H vs Q E hr h => ?_)
  · obtain ⟨_, _, _, _, _, _, _, rfl, _⟩ := h
    rfl
  obtain ⟨F, S, G, a, xs, ts, p, rfl, sm, fr, at0, ok, lv, ga, im, q⟩ := h
  have hu := hu_of hr
  have ha := sqt (K := K) (sm _ _ ga)

  refine ⟨_, pss_one (ps_ret (pe_ifExp (PW.pt (pw_and (pt_cmpR op_eq (pe_callB call_len_seq rfl M.ml PySem.boot_len (pa_cons (pv 1) pa_nil)) pe_int (nomark _)) (pw_and1 (pt_val (pe_go GN hr pass0 rfl (pa_cons (pe_fld (pv 0) rfl) (pa_cons (pe_ix ix_tup (pv 1) pe_int fun _ _ => rfl) pa_nil))))))) pe_int pe_int)), ?_⟩
  dsimp only [L2.tRet, L2.tRetN, tAndV, tOrV, tNotV, tCB, L2.tCons, L2.tNil, tC, tVar, L2.tOp, L2.tUn, tSeq, tAsg, gName, tIfS, tTest, tNext, tAnd, tOr, tNot, L2.tIf, tFld, sFld, sFldAug, tCall, tTup, tB, tAug, tDrop, L2.tSl, tPart, tNoPart, tBM, tBM0, tChain, gTup, gCons, gNil, tPar, tIs, List.set]
  refine ⟨_, rfl, a, xs, rfl, .inr ha, rfl, _, rfl, ?_⟩
  rcases two im with ⟨x0, x1, t0, t1, rfl, rfl, i0, i1⟩ | ⟨c, nt⟩
  · refine if_yes rfl ?_
    refine ⟨_, rfl, F.c, C, F.dx, _, _, rfl, at0.c, Z.cl, Z.n3, get_vars, _, rfl, a, _, _, _, rfl, rfl, ha, rfl, F.dv, x1, t1, S.vars, rfl, at0.dv, vars_few ok, i1.mono sm, _, rfl, ?_⟩
    have nd : G F.dv = none := fr.dv
    exact one_if (res0 q (Ck.Same.up sm nd) (at0.vars _) (new_okv ok rfl))
  · refine if_no (len_ne c) (if_no rfl ?_)
    have e : act (ins n) .var S ts p = .ok (0, S) := by
      rcases ts with _ | ⟨t0, _ | ⟨t1, _ | ⟨t2, r⟩⟩⟩ <;> first | rfl | exact absurd rfl (nt _ _)
    rw [e] at q
    exact res0 q sm at0 ok.ok

abbrev sSta : Stmt := topS 27
theorem scSta : FnScope ["check", "tree", "place"] ["check", "tree", "place"] (defScope sSta) := ⟨rfl, rfl, rfl, by decide +kernel, rfl, by decide +kernel, by decide +kernel⟩
theorem ok_Sta {n : Nat} {f : Addr} {fd : FuncData} (F0 : Fun K "size_of_status" "size_of_status" sSta f fd) (M : Md K mg w dR dS adr) (Z : Mc P K mg C IP fI) (GW : GW P w K mg base) : FnOk P w K mg base (L2.CX P w) 3 f fd ["check", "tree", "place"] (spAct K C IP n .status) := by
  refine F0.okX scSta (fun vs H Q E h => ?_) (fun cdv A outer s H vs Q E hr h => ?_)
  · obtain ⟨_, _, _, _, _, _, _, rfl, _⟩ := h
    rfl
  obtain ⟨F, S, G, a, xs, ts, p, rfl, sm, fr, at0, ok, lv, ga, im, q⟩ := h
  have hu := hu_of hr
  have ha := sqt (K := K) (sm _ _ ga)

  obtain ⟨tg, gn⟩ := M.gn
  refine ⟨_, pss_one (ps_ret (pe_ifExp (PW.pt (pw_and (pt_cmpR op_eq (pe_callB call_len_seq rfl M.ml PySem.boot_len (pa_cons (pv 1) pa_nil)) pe_int (nomark _)) (pw_and1 (pt_val (pe_go GW (hr.mono (by decide)) pass0 rfl (pa_cons (pe_ix ix_tup (pv 1) pe_int fun _ _ => rfl) (pa_cons pe_int (pa_cons (pe_glob (v := .int 255) rfl gn ⟨_, rfl⟩) pa_nil)))))))) pe_int pe_int)), ?_⟩
  dsimp only [L2.tRet, L2.tRetN, tAndV, tOrV, tNotV, tCB, L2.tCons, L2.tNil, tC, tVar, L2.tOp, L2.tUn, tSeq, tAsg, gName, tIfS, tTest, tNext, tAnd, tOr, tNot, L2.tIf, tFld, sFld, sFldAug, tCall, tTup, tB, tAug, tDrop, L2.tSl, tPart, tNoPart, tBM, tBM0, tChain, gTup, gCons, gNil, tPar, tIs, List.set]
  refine ⟨_, rfl, a, xs, rfl, .inr ha, rfl, _, rfl, ?_⟩
  rcases two im with ⟨x0, x1, t0, t1, rfl, rfl, i0, i1⟩ | ⟨c, nt⟩
  · refine if_yes rfl ?_
    exact ⟨_, rfl, a, _, _, _, rfl, rfl, ha, rfl, x1, t1, 0, 255, rfl, i1.mono sm, _, rfl, one_if (res0 q sm at0 ok.ok)⟩
  · refine if_no (len_ne c) (if_no rfl ?_)
    have e : act (ins n) .status S ts p = .ok (0, S) := by
      rcases ts with _ | ⟨t0, _ | ⟨t1, _ | ⟨t2, r⟩⟩⟩ <;> first | rfl | exact absurd rfl (nt _ _)
    rw [e] at q
    exact res0 q sm at0 ok.ok

theorem valV_ftab (z : Str) : ∀ fs : List (Str × Int), valV (ftab fs) (.inr z) = (fs.lookup z).map V.int
  | [] => rfl
  | (n, i) :: fs => by
    show valV ((Sum.inr n, V.int i) :: ftab fs) (.inr z) = _
    by_cases e : n = z
    · rw [valV_pos (by rw [e])]
      simp [List.lookup, e]
    · have e2 : (z == n) = false := by simpa using Ne.symm e
      rw [valV_neg (fun q => e (Sum.inr.inj q)), valV_ftab z fs]
      simp [List.lookup, e2]
theorem non_is {H : Hp} {v : V} {t : T} (h : Im K H v t) : decide (v = .non) = isNon t := by
  cases h with
  | non => rfl
  | odd _ _ _ _ _ n => exact decide_eq_false n
  | _ => exact decide_eq_false (by intro z; cases z)
theorem str_of {H : Hp} {v : V} {t : T} (h : Im K H v t) (e : isSt t = true) : ∃ z, v = .str z ∧ t = .str z := by
  cases h with
  | str _ => exact ⟨_, rfl, rfl⟩
  | _ => simp [isSt] at e
theorem bl_of {H : Hp} {v : V} {t : T} (h : Im K H v t) (e : isBl t = true) : ∃ b, v = .bl b ∧ t = .bl b := by
  cases h with
  | bl _ => exact ⟨_, rfl, rfl⟩
  | _ => simp [isBl] at e

abbrev sPut : Stmt := topS 29
theorem scPut : FnScope ["check", "tree", "place"] ["check", "tree", "place"] (defScope sPut) := ⟨rfl, rfl, rfl, by decide +kernel, rfl, by decide +kernel, by decide +kernel⟩
theorem ok_Put {n : Nat} {f : Addr} {fd : FuncData} (F0 : Fun K "size_of_put" "size_of_put" sPut f fd) (M : Md K mg w dR dS adr) (Z : Mc P K mg C IP fI) (GN : GNew P w K mg base) (GW : GW P w K mg base) : FnOk P w K mg base (L2.CX P w) 3 f fd ["check", "tree", "place"] (spAct K C IP n .put) := by
  refine F0.okX scPut (fun vs H Q E h => ?_) (fun cdv A outer s H vs Q E hr h => ?_)
  · obtain ⟨_, _, _, _, _, _, _, rfl, _⟩ := h
    rfl
  obtain ⟨F, S, G, a, xs, ts, p, rfl, sm, fr, at0, ok, lv, ga, im, q⟩ := h
  have hu := hu_of hr
  have ha := sqt (K := K) (sm _ _ ga)

  obtain ⟨tg, gn⟩ := M.gn
  refine ⟨_, pss_cons (ps_if (PW.pt (pw_or (pt_cmpR op_ne (pe_callB call_len_seq rfl M.ml PySem.boot_len (pa_cons (pv 1) pa_nil)) pe_int (nomark _)) (pw_or1 (pt_not (pt_val (pe_go GW (hr.mono (by decide)) pass0 rfl (pa_cons (pe_ix ix_tup (pv 1) pe_int fun _ _ => rfl) (pa_cons pe_int (pa_cons (pe_glob (v := .int 255) rfl gn ⟨_, rfl⟩) pa_nil))))))))) (pss_one (ps_ret pe_int)) pss_nil)
    (pss_one (ps_ret (pe_ifExp (pt_val (pe_go GN hr pass0 rfl (pa_cons (pe_fld (pv 0) rfl) (pa_cons (pe_ix ix_tup (pv 1) pe_int fun _ _ => rfl) pa_nil)))) pe_int pe_int))), ?_⟩
  dsimp only [L2.tRet, L2.tRetN, tAndV, tOrV, tNotV, tCB, L2.tCons, L2.tNil, tC, tVar, L2.tOp, L2.tUn, tSeq, tAsg, gName, tIfS, tTest, tNext, tAnd, tOr, tNot, L2.tIf, tFld, sFld, sFldAug, tCall, tTup, tB, tAug, tDrop, L2.tSl, tPart, tNoPart, tBM, tBM0, tChain, gTup, gCons, gNil, tPar, tIs, List.set]
  refine ⟨_, rfl, a, xs, rfl, .inr ha, rfl, _, rfl, ?_⟩
  rcases three im with ⟨x0, x1, x2, t0, t1, t2, rfl, rfl, i0, i1, i2⟩ | ⟨c, nt⟩
  · refine if_no rfl ?_
    refine ⟨_, rfl, a, _, _, _, rfl, rfl, ha, rfl, x2, t2, 0, 255, rfl, i2.mono sm, _, rfl, ?_⟩
    cases e : within 0 255 t2 with
    | false =>
      have z : act (ins n) .put S [t0, t1, t2] p = .ok (0, S) := by
        show (if within 0 255 t2 = true then varied S t1 else .ok (0, S)) = _
        rw [e]
        rfl
      rw [z] at q
      exact if_yes rfl (res0 q sm at0 ok.ok)
    | true =>
      have z : act (ins n) .put S [t0, t1, t2] p = varied S t1 := by
        show (if within 0 255 t2 = true then varied S t1 else .ok (0, S)) = _
        rw [e]
        rfl
      rw [z] at q
      refine if_no rfl ?_
      refine ⟨_, rfl, F.c, C, F.dx, _, _, rfl, at0.c, Z.cl, Z.n3, get_vars, _, rfl, a, _, _, _, rfl, rfl, ha, rfl, F.dv, x1, t1, S.vars, rfl, at0.dv, vars_few ok, i1.mono sm, _, rfl, ?_⟩
      have nd : G F.dv = none := fr.dv
      exact one_if (res0 q (Ck.Same.up sm nd) (at0.vars _) (new_okv ok rfl))
  · have e : act (ins n) .put S ts p = .ok (0, S) := by
      rcases ts with _ | ⟨t0, _ | ⟨t1, _ | ⟨t2, _ | ⟨t3, r⟩⟩⟩⟩ <;> first | rfl | exact absurd rfl (nt _ _ _)
    rw [e] at q
    refine if_yes (len_not c) (if_yes rfl (res0 q sm at0 ok.ok))

abbrev sOpt : Stmt := topS 30
theorem scOpt : FnScope ["check", "tree", "place"] ["check", "tree", "place"] (defScope sOpt) := ⟨rfl, rfl, rfl, by decide +kernel, rfl, by decide +kernel, by decide +kernel⟩
theorem ok_Opt {n : Nat} {f : Addr} {fd : FuncData} (F0 : Fun K "size_of_option" "size_of_option" sOpt f fd) (M : Md K mg w dR dS adr) (Z : Mc P K mg C IP fI) : FnOk P w K mg base (L2.CX P w) 3 f fd ["check", "tree", "place"] (spAct K C IP n .option) := by
  refine F0.okX scOpt (fun vs H Q E h => ?_) (fun cdv A outer s H vs Q E hr h => ?_)
  · obtain ⟨_, _, _, _, _, _, _, rfl, _⟩ := h
    rfl
  obtain ⟨F, S, G, a, xs, ts, p, rfl, sm, fr, at0, ok, lv, ga, im, q⟩ := h
  have hu := hu_of hr
  have ha := sqt (K := K) (sm _ _ ga)

  refine ⟨_, pss_cons (ps_if (PW.pt (pw_or (pt_cmpR op_ne (pe_callB call_len_seq rfl M.ml PySem.boot_len (pa_cons (pv 1) pa_nil)) pe_int (nomark _)) (pw_or (pt_not (pt_val (pe_is (n := "str") M.mi M.mstr (by decide +kernel) rfl rfl (pe_ix ix_tup (pv 1) pe_int fun _ _ => rfl)))) (pw_or1 (pt_not (pt_val (pe_is (n := "bool") M.mi M.mbool (by decide +kernel) rfl rfl (pe_ix ix_tup (pv 1) pe_int fun _ _ => rfl)))))))) (pss_one (ps_ret pe_int)) pss_nil)
    (pss_one (ps_ret (pe_ifExp (PW.pt (pw_or (pt_cmpR op_eq (pe_ix ix_tup (pv 1) pe_int fun _ _ => rfl) pe_str (nomark _)) (pw_or1 (pt_cmpR op_eq (pe_ix ix_tup (pv 1) pe_int fun _ _ => rfl) pe_str (nomark _))))) pe_int pe_int))), ?_⟩
  dsimp only [L2.tRet, L2.tRetN, tAndV, tOrV, tNotV, tCB, L2.tCons, L2.tNil, tC, tVar, L2.tOp, L2.tUn, tSeq, tAsg, gName, tIfS, tTest, tNext, tAnd, tOr, tNot, L2.tIf, tFld, sFld, sFldAug, tCall, tTup, tB, tAug, tDrop, L2.tSl, tPart, tNoPart, tBM, tBM0, tChain, gTup, gCons, gNil, tPar, tIs, List.set]
  refine ⟨_, rfl, a, xs, rfl, .inr ha, rfl, _, rfl, ?_⟩
  rcases three im with ⟨x0, x1, x2, t0, t1, t2, rfl, rfl, i0, i1, i2⟩ | ⟨c, nt⟩
  · refine if_no rfl ?_
    refine ⟨_, rfl, a, _, _, _, rfl, rfl, ha, rfl, is_str (i1.mono sm) ⟨_, rfl, ?_⟩⟩
    have no : isSt t1 = false ∨ isBl t2 = false → act (ins n) .option S [t0, t1, t2] p = .ok (0, S) := by
      intro h
      cases t1 <;> first | rfl | (cases t2 <;> first | rfl | simp [isSt, isBl] at h)
    cases e1 : isSt t1 with
    | false =>
      rw [no (.inl e1)] at q
      exact if_yes rfl (if_yes rfl (res0 q sm at0 ok.ok))
    | true =>
      refine if_no rfl ?_
      refine ⟨_, rfl, a, _, _, _, rfl, rfl, ha, rfl, is_bool (i2.mono sm) ⟨_, rfl, ?_⟩⟩
      cases e2 : isBl t2 with
      | false =>
        rw [no (.inr e2)] at q
        exact if_yes rfl (res0 q sm at0 ok.ok)
      | true =>
        refine if_no rfl ?_
        obtain ⟨z, rfl, rfl⟩ := str_of i1 e1
        obtain ⟨b, rfl, rfl⟩ := bl_of i2 e2
        refine ⟨_, rfl, a, _, _, _, rfl, rfl, ha, rfl, rfl, _, rfl, ?_⟩
        have qq : Res C IP F G S.places (.ok (b2 (decide (z = "fail") || decide (z = "pipes")), S)) Q E := q
        by_cases f1 : z = "fail"
        · subst f1
          exact if_yes (decide_eq_true rfl) (if_yes rfl (res0 qq sm at0 ok.ok))
        · refine if_no (decide_eq_false fun y => f1 (V.str.inj y)) ?_
          rw [decide_eq_false f1, Bool.false_or] at qq
          refine ⟨_, rfl, a, _, _, _, rfl, rfl, ha, rfl, rfl, _, rfl, ?_⟩
          by_cases f2 : z = "pipes"
          · subst f2
            exact if_yes (decide_eq_true rfl) (res0 qq sm at0 ok.ok)
          · rw [decide_eq_false f2] at qq
            exact if_no (decide_eq_false fun y => f2 (V.str.inj y)) (res0 qq sm at0 ok.ok)
  · have e : act (ins n) .option S ts p = .ok (0, S) := by
      rcases ts with _ | ⟨t0, _ | ⟨t1, _ | ⟨t2, _ | ⟨t3, r⟩⟩⟩⟩ <;> first | rfl | exact absurd rfl (nt _ _ _) | (cases t1 <;> first | rfl | (cases t2 <;> rfl))
    rw [e] at q
    exact if_yes (len_not c) (if_yes rfl (res0 q sm at0 ok.ok))

abbrev sJmp : Stmt := topS 40
theorem scJmp : FnScope ["check", "tree", "place"] ["check", "tree", "place"] (defScope sJmp) := ⟨rfl, rfl, rfl, by decide +kernel, rfl, by decide +kernel, by decide +kernel⟩
theorem ok_Jmp {n : Nat} {f : Addr} {fd : FuncData} (F0 : Fun K "size_of_jump" "size_of_jump" sJmp f fd) (M : Md K mg w dR dS adr) (Z : Mc P K mg C IP fI) (GI : GI P w K mg base) : FnOk P w K mg base (L2.CX P w) 3 f fd ["check", "tree", "place"] (spAct K C IP n .jump) := by
  refine F0.okX scJmp (fun vs H Q E h => ?_) (fun cdv A outer s H vs Q E hr h => ?_)
  · obtain ⟨_, _, _, _, _, _, _, rfl, _⟩ := h
    rfl
  obtain ⟨F, S, G, a, xs, ts, p, rfl, sm, fr, at0, ok, lv, ga, im, q⟩ := h
  have hu := hu_of hr
  have ha := sqt (K := K) (sm _ _ ga)

  refine ⟨_, pss_one (ps_ret (pe_ifExp (PW.pt (pw_and (pt_cmpR op_eq (pe_callB call_len_seq rfl M.ml PySem.boot_len (pa_cons (pv 1) pa_nil)) pe_int (nomark _)) (pw_and (pt_val (pe_go GI (hr.mono (by decide)) pass0 rfl (pa_cons (pe_ix ix_tup (pv 1) pe_int fun _ _ => rfl) pa_nil))) (pw_and1 (pt_chain op_le op_le pe_int (pe_ix ix_tup (pv 1) pe_int fun _ _ => rfl) (pe_fld (pv 0) rfl)))))) pe_int pe_int)), ?_⟩
  dsimp only [L2.tRet, L2.tRetN, tAndV, tOrV, tNotV, tCB, L2.tCons, L2.tNil, tC, tVar, L2.tOp, L2.tUn, tSeq, tAsg, gName, tIfS, tTest, tNext, tAnd, tOr, tNot, L2.tIf, tFld, sFld, sFldAug, tCall, tTup, tB, tAug, tDrop, L2.tSl, tPart, tNoPart, tBM, tBM0, tChain, gTup, gCons, gNil, tPar, tIs, List.set]
  refine ⟨_, rfl, a, xs, rfl, .inr ha, rfl, _, rfl, ?_⟩
  rcases two im with ⟨x0, x1, t0, t1, rfl, rfl, i0, i1⟩ | ⟨c, nt⟩
  · refine if_yes rfl ?_
    refine ⟨_, rfl, a, _, _, _, rfl, rfl, ha, rfl, x1, t1, rfl, i1.mono sm, _, rfl, ?_⟩
    cases e : isInt t1 with
    | false =>
      have z : act (ins n) .jump S [t0, t1] p = .ok (0, S) := by cases t1 <;> first | rfl | simp [isInt] at e
      rw [z] at q
      exact if_no rfl (if_no rfl (res0 q sm at0 ok.ok))
    | true =>
      cases i1 with
      | int k =>
        refine if_yes rfl ?_
        refine ⟨_, rfl, a, _, _, _, rfl, rfl, ha, rfl, _, _, rfl, rfl, _, rfl, ?_⟩
        have qq : Res C IP F G S.places (.ok (b2 (decide (1 ≤ k) && decide (k ≤ S.loops)), S)) Q E := q
        by_cases f1 : 1 ≤ k
        · rw [decide_eq_true f1, Bool.true_and] at qq
          refine if_yes (decide_eq_true f1) ?_
          refine ⟨_, rfl, F.c, C, F.dx, _, _, rfl, at0.c, Z.cl, Z.n7, get_loops, _, _, rfl, rfl, _, rfl, ?_⟩
          exact one_if (res0 qq sm at0 ok.ok)
        · rw [decide_eq_false f1, Bool.false_and] at qq
          exact if_no (decide_eq_false f1) ⟨_, rfl, if_no rfl (res0 qq sm at0 ok.ok)⟩
      | _ => simp [isInt] at e
  · refine if_no (len_ne c) (if_no rfl ?_)
    have e : act (ins n) .jump S ts p = .ok (0, S) := by
      rcases ts with _ | ⟨t0, _ | ⟨t1, _ | ⟨t2, r⟩⟩⟩ <;> first | rfl | exact absurd rfl (nt _ _) | (cases t1 <;> rfl)
    rw [e] at q
    exact res0 q sm at0 ok.ok

abbrev sCal : Stmt := topS 41
theorem scCal : FnScope ["check", "tree", "place"] ["check", "tree", "place"] (defScope sCal) := ⟨rfl, rfl, rfl, by decide +kernel, rfl, by decide +kernel, by decide +kernel⟩
theorem ok_Cal {n : Nat} {f : Addr} {fd : FuncData} (F0 : Fun K "size_of_call" "size_of_call" sCal f fd) (M : Md K mg w dR dS adr) (Z : Mc P K mg C IP fI) : FnOk P w K mg base (L2.CX P w) 3 f fd ["check", "tree", "place"] (spAct K C IP n .call) := by
  refine F0.okX scCal (fun vs H Q E h => ?_) (fun cdv A outer s H vs Q E hr h => ?_)
  · obtain ⟨_, _, _, _, _, _, _, rfl, _⟩ := h
    rfl
  obtain ⟨F, S, G, a, xs, ts, p, rfl, sm, fr, at0, ok, lv, ga, im, q⟩ := h
  have hu := hu_of hr
  have ha := sqt (K := K) (sm _ _ ga)

  refine ⟨_, pss_cons (ps_if (PW.pt (pw_or (pt_cmpR op_ne (pe_callB call_len_seq rfl M.ml PySem.boot_len (pa_cons (pv 1) pa_nil)) pe_int (nomark _)) (pw_or (pt_not (pt_val (pe_is (n := "str") M.mi M.mstr (by decide +kernel) rfl rfl (pe_ix ix_tup (pv 1) pe_int fun _ _ => rfl)))) (pw_or1 (pt_cmp (pc_dnotin hu (pe_ix ix_tup (pv 1) pe_int fun _ _ => rfl) (pe_fld (pv 0) rfl)) (by rfl)))))) (pss_one (ps_ret pe_int)) pss_nil)
    (pss_one (ps_ret (pe_op op_add pe_int (pe_dget hu (pe_fld (pv 0) rfl) (pe_ix ix_tup (pv 1) pe_int fun _ _ => rfl) fun _ _ => rfl)))), ?_⟩
  dsimp only [L2.tRet, L2.tRetN, tAndV, tOrV, tNotV, tCB, L2.tCons, L2.tNil, tC, tVar, L2.tOp, L2.tUn, tSeq, tAsg, gName, tIfS, tTest, tNext, tAnd, tOr, tNot, L2.tIf, tFld, sFld, sFldAug, tCall, tTup, tB, tAug, tDrop, L2.tSl, tPart, tNoPart, tBM, tBM0, tChain, gTup, gCons, gNil, tPar, tIs, List.set, tDNotIn, tDGet]
  refine ⟨_, rfl, a, xs, rfl, .inr ha, rfl, _, rfl, ?_⟩
  rcases two im with ⟨x0, x1, t0, t1, rfl, rfl, i0, i1⟩ | ⟨c, nt⟩
  · refine if_no rfl ?_
    refine ⟨_, rfl, a, _, _, _, rfl, rfl, ha, rfl, is_str (i1.mono sm) ⟨_, rfl, ?_⟩⟩
    cases e1 : isSt t1 with
    | false =>
      have z : act (ins n) .call S [t0, t1] p = .ok (0, S) := by cases t1 <;> first | rfl | simp [isSt] at e1
      rw [z] at q
      exact if_yes rfl (if_yes rfl (res0 q sm at0 ok.ok))
    | true =>
      refine if_no rfl ?_
      obtain ⟨z, rfl, rfl⟩ := str_of i1 e1
      have g : DGet H F.df (.str z) (valV (ftab S.fns) (.inr z)) := DGet.k (k := Sum.inr z) at0.df
      refine ⟨_, rfl, a, _, _, _, rfl, rfl, ha, rfl, _, rfl, F.c, C, F.dx, _, _, rfl, at0.c, Z.cl, Z.n5, get_fns, F.df, _, rfl, g, _, rfl, ?_⟩
      have qq : Res C IP F G S.places (match S.fns.lookup z with | some v => .ok (1 + v, S) | none => .ok (0, S)) Q E := q
      rw [valV_ftab] at g ⊢
      cases l : S.fns.lookup z with
      | none =>
        rw [l] at qq
        exact if_yes rfl (res0 qq sm at0 ok.ok)
      | some v =>
        rw [l] at qq g
        refine if_no rfl ?_
        exact ⟨_, rfl, F.c, C, F.dx, _, _, rfl, at0.c, Z.cl, Z.n5, get_fns, _, rfl, a, _, _, _, rfl, rfl, ha, rfl, F.df, _, rfl, g, _, _, rfl, rfl, res0 qq sm at0 ok.ok⟩
  · have e : act (ins n) .call S ts p = .ok (0, S) := by
      rcases ts with _ | ⟨t0, _ | ⟨t1, _ | ⟨t2, r⟩⟩⟩ <;> first | rfl | exact absurd rfl (nt _ _) | (cases t1 <;> rfl)
    rw [e] at q
    exact if_yes (len_not c) (if_yes rfl (res0 q sm at0 ok.ok))

abbrev sExi : Stmt := topS 43
theorem scExi : FnScope ["check", "tree", "place"] ["check", "tree", "place"] (defScope sExi) := ⟨rfl, rfl, rfl, by decide +kernel, rfl, by decide +kernel, by decide +kernel⟩
theorem ok_Exi {n : Nat} {f : Addr} {fd : FuncData} (F0 : Fun K "size_of_exit" "size_of_exit" sExi f fd) (M : Md K mg w dR dS adr) (Z : Mc P K mg C IP fI) (GW : GW P w K mg base) : FnOk P w K mg base (L2.CX P w) 3 f fd ["check", "tree", "place"] (spAct K C IP n .exit) := by
  refine F0.okX scExi (fun vs H Q E h => ?_) (fun cdv A outer s H vs Q E hr h => ?_)
  · obtain ⟨_, _, _, _, _, _, _, rfl, _⟩ := h
    rfl
  obtain ⟨F, S, G, a, xs, ts, p, rfl, sm, fr, at0, ok, lv, ga, im, q⟩ := h
  have hu := hu_of hr
  have ha := sqt (K := K) (sm _ _ ga)

  obtain ⟨tg, gn⟩ := M.gn
  refine ⟨_, pss_cons (ps_if (pt_cmpR op_ne (pe_callB call_len_seq rfl M.ml PySem.boot_len (pa_cons (pv 1) pa_nil)) pe_int (nomark _)) (pss_one (ps_ret pe_int)) pss_nil)
    (pss_one (ps_ret (pe_ifExp (PW.pt (pw_or (pt_cmpR op_isN (pe_ix ix_tup (pv 1) pe_int fun _ _ => rfl) pe_non (nomark _)) (pw_or1 (pt_val (pe_go GW (hr.mono (by decide)) pass0 rfl (pa_cons (pe_ix ix_tup (pv 1) pe_int fun _ _ => rfl) (pa_cons pe_int (pa_cons (pe_glob (v := .int 255) rfl gn ⟨_, rfl⟩) pa_nil)))))))) pe_int pe_int))), ?_⟩
  dsimp only [L2.tRet, L2.tRetN, tAndV, tOrV, tNotV, tCB, L2.tCons, L2.tNil, tC, tVar, L2.tOp, L2.tUn, tSeq, tAsg, gName, tIfS, tTest, tNext, tAnd, tOr, tNot, L2.tIf, tFld, sFld, sFldAug, tCall, tTup, tB, tAug, tDrop, L2.tSl, tPart, tNoPart, tBM, tBM0, tChain, gTup, gCons, gNil, tPar, tIs, List.set]
  refine ⟨_, rfl, a, xs, rfl, .inr ha, rfl, _, rfl, ?_⟩
  rcases two im with ⟨x0, x1, t0, t1, rfl, rfl, i0, i1⟩ | ⟨c, nt⟩
  · refine if_no rfl ?_
    have qq : Res C IP F G S.places (.ok (b2 (isNon t1 || within 0 255 t1), S)) Q E := q
    refine ⟨_, rfl, a, _, _, _, rfl, rfl, ha, rfl, rfl, _, rfl, ?_⟩
    rw [non_is i1]
    cases e : isNon t1 with
    | true =>
      rw [e, Bool.true_or] at qq
      exact if_yes rfl (if_yes rfl (res0 qq sm at0 ok.ok))
    | false =>
      rw [e, Bool.false_or] at qq
      refine if_no rfl ?_
      exact ⟨_, rfl, a, _, _, _, rfl, rfl, ha, rfl, x1, t1, 0, 255, rfl, i1.mono sm, _, rfl, one_if (res0 qq sm at0 ok.ok)⟩
  · have e : act (ins n) .exit S ts p = .ok (0, S) := by
      rcases ts with _ | ⟨t0, _ | ⟨t1, _ | ⟨t2, r⟩⟩⟩ <;> first | rfl | exact absurd rfl (nt _ _)
    rw [e] at q
    exact if_yes (len_not c) (res0 q sm at0 ok.ok)

abbrev GX (P : Program) (w : World) (K : PySem.W.Frag) (mg : Str → Option Value) (base : Heap) (C IP : Addr) (n j : Nat) (x : Str) (k : Kind) : Prop := Go P w K mg base (L2.CX P w) j x ["check", "tree", "place"] (spAct K C IP n k)

abbrev sRet : Stmt := topS 42
theorem scRet : FnScope ["check", "tree", "place"] ["check", "tree", "place"] (defScope sRet) := ⟨rfl, rfl, rfl, by decide +kernel, rfl, by decide +kernel, by decide +kernel⟩
theorem ok_Ret {n : Nat} {f : Addr} {fd : FuncData} (F0 : Fun K "size_of_return" "size_of_return" sRet f fd) (M : Md K mg w dR dS adr) (Z : Mc P K mg C IP fI) (GE : GX P w K mg base C IP n 3 "size_of_exit" .exit) : FnOk P w K mg base (L2.CX P w) 4 f fd ["check", "tree", "place"] (spAct K C IP n .ret) := by
  refine F0.okX scRet (fun vs H Q E h => ?_) (fun cdv A outer s H vs Q E hr h => ?_)
  · obtain ⟨_, _, _, _, _, _, _, rfl, _⟩ := h
    rfl
  obtain ⟨F, S, G, a, xs, ts, p, rfl, sm, fr, at0, ok, lv, ga, im, q⟩ := h
  have hu := hu_of hr
  have ha := sqt (K := K) (sm _ _ ga)

  refine ⟨_, pss_one (ps_ret (pe_ifExp (pt_val (pe_fld (pv 0) rfl)) (pe_go (E := E) GE hr (passes_call (takes_of rfl rfl rfl rfl) fun _ _ _ _ z => z) rfl (pa_cons (pv 0) (pa_cons (pv 1) (pa_cons (pv 2) pa_nil)))) pe_int)), ?_⟩
  dsimp only [L2.tRet, L2.tRetN, tAndV, tOrV, tNotV, tCB, L2.tCons, L2.tNil, tC, tVar, L2.tOp, L2.tUn, tSeq, tAsg, gName, tIfS, tTest, tNext, tAnd, tOr, tNot, L2.tIf, tFld, sFld, sFldAug, tCall, tTup, tB, tAug, tDrop, L2.tSl, tPart, tNoPart, tBM, tBM0, tChain, gTup, gCons, gNil, tPar, tIs, List.set]
  refine ⟨_, rfl, F.c, C, F.dx, _, _, rfl, at0.c, Z.cl, Z.n8, get_rets, _, rfl, ?_⟩
  have qq : Res C IP F G S.places (if S.rets = true then .ok (exited ts, S) else .ok (0, S)) Q E := q
  cases e : S.rets with
  | true =>
    rw [e, if_pos rfl] at qq
    exact if_yes rfl ⟨_, rfl, _, rfl, _, rfl, F, S, G, a, xs, ts, p, rfl, sm, fr, at0, ok, lv, ga, im, qq⟩
  | false =>
    rw [e, if_neg Bool.false_ne_true] at qq
    exact if_no rfl (res0 qq sm at0 ok.ok)

end
end Ck

/-! The defs that look at trees with trees in them, each by what it calls. -/
namespace Ck
open PySem PySem.Spec PyProof.Rows L2 PySem.ErrKw
section
variable {P : Program} {w : World} {K : PySem.W.Frag} {mg : Str → Option Value} {base : Heap} {dR dS : Addr} {adr : Kind → Addr} {C IP fI : Addr}
/-- size_inside, n parts deep from here; size_of_all; size_behind_barrier -/
def spInto (K : PySem.W.Frag) (C IP : Addr) (n : Nat) : Sp := fun vs H Q E => ∃ F S G a xs ts p, vs = [.ref (Foot.c F), .ref a, .int p] ∧ Same G H ∧ Free F G ∧ At C H F S ∧ Ok S ∧ S.places.length + n = 59 ∧ G a = some (.tup xs) ∧ Ims K G xs ts ∧ Res C IP F G S.places (ins n S ts p) Q E
def spBar (K : PySem.W.Frag) (C IP : Addr) (n : Nat) : Sp := fun vs H Q E => ∃ F S G a xs ts p, vs = [.ref (Foot.c F), .ref a, .int p] ∧ Same G H ∧ Free F G ∧ At C H F S ∧ Ok S ∧ S.places.length + n = 59 ∧ G a = some (.tup xs) ∧ Ims K G xs ts ∧ Res C IP F G S.places (barrier (ins n) S ts p) Q E
def spAll (K : PySem.W.Frag) (C IP : Addr) (n : Nat) : Sp := fun vs H Q E => ∃ F S G a xs ts p, vs = [.ref (Foot.c F), .ref a, .int p] ∧ Same G H ∧ Free F G ∧ At C H F S ∧ Ok S ∧ S.places.length + n = 59 ∧ G a = some (.tup xs) ∧ Ims K G xs ts ∧ Res C IP F G S.places (all n S ts p 0) Q E
abbrev GInto (P : Program) (w : World) (K : PySem.W.Frag) (mg : Str → Option Value) (base : Heap) (C IP : Addr) (n j : Nat) : Prop := GoD P w K mg base (L2.CX P w) j "size_inside" ["check", "parts", "place"] (spInto K C IP n)
abbrev GBar (P : Program) (w : World) (K : PySem.W.Frag) (mg : Str → Option Value) (base : Heap) (C IP : Addr) (n j : Nat) : Prop := GoD P w K mg base (L2.CX P w) j "size_behind_barrier" ["check", "parts", "place"] (spBar K C IP n)
abbrev GAll (P : Program) (w : World) (K : PySem.W.Frag) (mg : Str → Option Value) (base : Heap) (C IP : Addr) (n j : Nat) : Prop := GoD P w K mg base (L2.CX P w) j "size_of_all" ["check", "trees", "place"] (spAll K C IP n)
/-- a call's result, by its two ways -/
theorem res_to {F : Foot} {G G1 : Hp} {pl pl0 : List Int} {r : R} {Q Q' : VK} {E : XK} (h : ∀ H', Same G1 H' → Same G H') (he : ∀ e, r = .error e → Res C IP F G pl (.error e) Q E) (ho : ∀ i S', r = .ok (i, S') → ∀ H', Same G1 H' → At C H' F S' → Ok S' → S'.places = pl0 → Q' (.int i) H') : Res C IP F G1 pl0 r Q' E := by
  cases r with
  | error e => exact fun H' d p a b c => he e rfl H' d p (h H' a) b c
  | ok v => exact ho v.1 v.2 rfl
theorem few (F : Foot) (S : CS) : (flds F S).length < 1000 := Nat.lt_of_sub_eq_succ rfl

abbrev sInto : Stmt := topS 22
theorem scInto : FnScope ["check", "parts", "place", "size"] ["check", "parts", "place"] (defScope sInto) := ⟨rfl, rfl, rfl, by decide +kernel, rfl, by decide +kernel, by decide +kernel⟩
theorem places_pop {ps : List Int} {p : Int} : ((ps ++ [p]).map V.int)[((ps ++ [p]).map V.int).length - 1]? = some (.int p) := by
  simp
theorem ok_into {n j : Nat} {f : Addr} {fd : FuncData} (F0 : Fun K "size_inside" "size_inside" sInto f fd) (M : Md K mg w dR dS adr) (Z : Mc P K mg C IP fI) (hj : 1 ≤ j) (GA : n ≠ 0 → GAll P w K mg base C IP (n - 1) j) : FnD P w K mg base (L2.CX P w) (j + 1) f fd ["check", "parts", "place"] (spInto K C IP n) := by
  obtain ⟨tl, lp⟩ := M.lp
  obtain ⟨tt, mt⟩ := M.mt
  refine okXD F0 scInto (fun vs H Q E h => ?_) (fun cdv A outer s H vs Q E hr h => ?_)
  · obtain ⟨_, _, _, _, _, _, _, rfl, _⟩ := h
    rfl
  obtain ⟨F, S, G, a, xs, ts, p, rfl, sm, fr, at0, ok, lv, ga, im, q⟩ := h
  have hu := hu_of hr.low
  have len61 : S.places.length ≤ 59 := by omega
  have at1 : At C (upd H F.dp (.lst (S.places.map V.int ++ [V.int p]))) F { S with places := S.places ++ [p] } := by
    have z := at0.places (S.places ++ [p])
    rw [List.map_append] at z
    exact z
  have sm1 : Same G (upd H F.dp (.lst (S.places.map V.int ++ [V.int p]))) := Ck.Same.up sm fr.dp
  have sq : SqL K H F.dp (S.places.map V.int) := .inl (.inl at0.dp)
  have sq1 : SqL K (upd H F.dp (.lst (S.places.map V.int ++ [V.int p]))) F.dp ((S.places ++ [p]).map V.int) := .inl (.inl at1.dp)
  by_cases hn : n = 0
  · subst hn
    refine ⟨_, pss_cons (ps_expr (pe_bm PySem.F.plainAttrs_list PySem.F.slot_list_append PySem.F.type_list_append mt_append (pe_fld (pv 0) rfl) (pa_cons (pv 2) pa_nil)))
      (pss_cons (ps_if (pt_cmpR op_eq (pe_callB call_len_seq rfl M.ml PySem.boot_len (pa_cons (pe_fld (pv 0) rfl) pa_nil)) (pe_glob (v := .int 60) rfl lp ⟨_, rfl⟩) (nomark _))
        (pss_one (ps_raiseE rfl Z.er given_path (hr.low.mono (by decide)) (takes_of rfl rfl rfl rfl) (pe_ifExp (pt_cmpR op_eq (pe_fld (pv 0) rfl) (pe_glob (v := .int 3000) rfl mt ⟨_, rfl⟩) (nomark _)) (pe_tup pa_nil) (pe_tup (StX.pa_star (pe_fld (pv 0) rfl) (pa_cons pe_int pa_nil)))))) pss_nil) pss_never), ?_⟩
    dsimp only [L2.tRet, L2.tRetN, tAndV, tOrV, tNotV, tCB, L2.tCons, L2.tNil, tC, tVar, L2.tOp, L2.tUn, tSeq, tAsg, gName, tIfS, tTest, tNext, tAnd, tOr, tNot, L2.tIf, tFld, sFld, sFldAug, tCall, tTup, tB, tAug, tDrop, L2.tSl, tPart, tNoPart, tBM, tBM0, tChain, gTup, gCons, gNil, tPar, tIs, List.set, StX.tStar]
    refine ⟨_, rfl, F.c, C, F.dx, _, _, rfl, at0.c, Z.cl, Z.n6, get_places, .inl ⟨rfl, _, sq⟩, _, rfl, F.dp, _, _, rfl, rfl, at0.dp, (by rw [List.length_map, sizeLine_eq]; omega), ?_⟩
    refine ⟨_, rfl, F.c, C, F.dx, _, _, rfl, at1.c, Z.cl, Z.n6, get_places, F.dp, _, rfl, .inl sq1, rfl, _, rfl, ?_⟩
    have l60 : S.places.length + 1 = 60 := by omega
    have e : ins 0 S ts p = .error (if S.trees = 3000 then [] else S.places ++ [p] ++ [0]) := by
      show into (fun _ _ _ _ => .error []) S ts p = _
      unfold into
      rw [if_pos l60]
    rw [e] at q
    refine if_yes (decide_eq_true (by simp; omega)) ?_
    refine ⟨_, rfl, F.c, C, F.dx, _, _, rfl, at1.c, Z.cl, Z.n1, get_trees, rfl, _, rfl, ?_⟩
    have fin : ∀ (path : List Int) (r : Addr), (if S.trees = 3000 then [] else S.places ++ [p] ++ [0]) = path → (upd H F.dp (.lst (S.places.map V.int ++ [V.int p]))) r = none →
        ∀ d, (upd (upd H F.dp (.lst (S.places.map V.int ++ [V.int p]))) r (.tup (path.map V.int))) d = none → E (.ref IP) (some d) (upd (upd (upd H F.dp (.lst (S.places.map V.int ++ [V.int p]))) r (.tup (path.map V.int))) d (.xd [("path", .ref r)])) := by
      rintro path r rfl nr d nd
      refine q _ d r (Ck.Same.new (Ck.Same.new sm1 nr) nd) upd_same ?_
      rw [upd_ne (ne_of_none upd_same nd), upd_same]
    by_cases tr : S.trees = 3000
    · refine if_yes (decide_eq_true (by rw [tr])) ⟨by decide, fun r nr => ?_⟩
      exact fin [] r (if_pos tr) nr
    · refine if_no (decide_eq_false fun z => tr (V.int.inj z)) ?_
      refine ⟨_, rfl, F.c, C, F.dx, _, _, rfl, at1.c, Z.cl, Z.n6, get_places, F.dp, _, rfl, .inr sq1, (by simp [sizeLine_eq]; omega), fun r nr => ?_⟩
      have f := fin (S.places ++ [p] ++ [0]) r (if_neg tr) nr
      rw [List.map_append] at f
      exact f
  · obtain ⟨m, rfl⟩ : ∃ m, n = m + 1 := ⟨n - 1, by omega⟩
    have GA1 : GAll P w K mg base C IP m j := GA hn
    refine ⟨_, pss_cons (ps_expr (pe_bm PySem.F.plainAttrs_list PySem.F.slot_list_append PySem.F.type_list_append mt_append (pe_fld (pv 0) rfl) (pa_cons (pv 2) pa_nil)))
      (pss_cons (ps_if (pt_cmpR op_eq (pe_callB call_len_seq rfl M.ml PySem.boot_len (pa_cons (pe_fld (pv 0) rfl) pa_nil)) (pe_glob (v := .int 60) rfl lp ⟨_, rfl⟩) (nomark _)) pss_never pss_nil)
      (pss_cons (ps_set (i := 3) scInto.nd rfl (.inl rfl) (pe_goD (E := E) GA1 hr (passes_call (takes_of rfl rfl rfl rfl) fun _ _ _ _ z => z) rfl (pa_cons (pv 0) (pa_cons (pv 1) (pa_cons pe_int pa_nil)))))
      (pss_cons (ps_expr (pe_bm0 PySem.F.plainAttrs_list PySem.F.slot_list_pop PySem.F.type_list_pop mt_pop (pe_fld (pv 0) rfl))) (pss_one (ps_ret (pv 3)))))), ?_⟩
    dsimp only [L2.tRet, L2.tRetN, tAndV, tOrV, tNotV, tCB, L2.tCons, L2.tNil, tC, tVar, L2.tOp, L2.tUn, tSeq, tAsg, gName, tIfS, tTest, tNext, tAnd, tOr, tNot, L2.tIf, tFld, sFld, sFldAug, tCall, tTup, tB, tAug, tDrop, L2.tSl, tPart, tNoPart, tBM, tBM0, tChain, gTup, gCons, gNil, tPar, tIs, List.set]
    refine ⟨_, rfl, F.c, C, F.dx, _, _, rfl, at0.c, Z.cl, Z.n6, get_places, .inl ⟨rfl, _, sq⟩, _, rfl, F.dp, _, _, rfl, rfl, at0.dp, (by rw [List.length_map, sizeLine_eq]; omega), ?_⟩
    refine ⟨_, rfl, F.c, C, F.dx, _, _, rfl, at1.c, Z.cl, Z.n6, get_places, F.dp, _, rfl, .inl sq1, rfl, _, rfl, ?_⟩
    have l60 : ¬ S.places.length + 1 = 60 := by omega
    have e : ins (m + 1) S ts p = behind (fun S' => { S' with places := S'.places.dropLast }) (all m { S with places := S.places ++ [p] } ts 0 0) := by
      show into _ S ts p = _
      unfold into
      rw [if_neg l60]
    rw [e] at q
    refine if_no (decide_eq_false (by intro z; have y := V.int.inj z; simp at y; omega)) ?_
    refine ⟨_, rfl, _, rfl, F, { S with places := S.places ++ [p] }, G, a, xs, ts, 0, rfl, sm1, fr, at1, ⟨ok.lo, ok.hi, ok.cm, ok.va⟩, (by simp; omega), ga, im, ?_⟩
    refine res_to (G := G) (pl := S.places) (Q := Q) (fun _ z => z) (fun e r => ?_) (fun i S' r H2 sm2 at2 ok2 pl => ?_)
    · rw [r] at q
      exact q
    · rw [r] at q
      have pl2 : S'.places = S.places ++ [p] := pl
      have sq2 : SqL K H2 F.dp (S'.places.map V.int) := .inl (.inl at2.dp)
      refine ⟨_, rfl, F.c, C, F.dx, _, _, rfl, at2.c, Z.cl, Z.n6, get_places, .inl ⟨rfl, _, sq2⟩, F.dp, _, .int p, rfl, rfl, at2.dp, (by rw [pl2]; exact places_pop), ?_⟩
      refine ⟨_, rfl, ?_⟩
      have at3 := at2.places S'.places.dropLast
      rw [List.map_dropLast] at at3
      refine q _ (Ck.Same.up sm2 fr.dp) at3 ⟨ok2.lo, ok2.hi, ok2.cm, ok2.va⟩ ?_
      show S'.places.dropLast = S.places
      rw [pl2, List.dropLast_concat]

abbrev sBar : Stmt := topS 23
theorem scBar : FnScope ["check", "parts", "place", "loops", "returns", "size"] ["check", "parts", "place"] (defScope sBar) := ⟨rfl, rfl, rfl, by decide +kernel, rfl, by decide +kernel, by decide +kernel⟩
theorem ok_bar {n j : Nat} {f : Addr} {fd : FuncData} (F0 : Fun K "size_behind_barrier" "size_behind_barrier" sBar f fd) (M : Md K mg w dR dS adr) (Z : Mc P K mg C IP fI) (GA : GInto P w K mg base C IP n j) : FnD P w K mg base (L2.CX P w) (j + 1) f fd ["check", "parts", "place"] (spBar K C IP n) := by
  refine okXD F0 scBar (fun vs H Q E h => ?_) (fun cdv A outer s H vs Q E hr h => ?_)
  · obtain ⟨_, _, _, _, _, _, _, rfl, _⟩ := h
    rfl
  obtain ⟨F, S, G, a, xs, ts, p, rfl, sm, fr, at0, ok, lv, ga, im, q⟩ := h
  refine ⟨_, pss_cons (ps_set (i := 3) scBar.nd rfl (.inl rfl) (pe_fld (pv 0) rfl)) (pss_cons (ps_set (i := 4) scBar.nd rfl (.inl rfl) (pe_fld (pv 0) rfl)) (pss_cons (ps_fld (pv 0) pe_int rfl) (pss_cons (ps_fld (pv 0) pe_bl rfl)
    (pss_cons (ps_set (i := 5) scBar.nd rfl (.inl rfl) (pe_goD (E := E) GA hr (passes_call (takes_of rfl rfl rfl rfl) fun _ _ _ _ z => z) rfl (pa_cons (pv 0) (pa_cons (pv 1) (pa_cons (pv 2) pa_nil)))))
    (pss_cons (ps_fld (pv 0) (pv 3) rfl) (pss_cons (ps_fld (pv 0) (pv 4) rfl) (pss_one (ps_ret (pv 5))))))))), ?_⟩
  dsimp only [L2.tRet, L2.tRetN, tAndV, tOrV, tNotV, tCB, L2.tCons, L2.tNil, tC, tVar, L2.tOp, L2.tUn, tSeq, tAsg, gName, tIfS, tTest, tNext, tAnd, tOr, tNot, L2.tIf, tFld, sFld, sFldAug, tCall, tTup, tB, tAug, tDrop, L2.tSl, tPart, tNoPart, tBM, tBM0, tChain, gTup, gCons, gNil, tPar, tIs, List.set]
  refine ⟨_, rfl, F.c, C, F.dx, _, _, rfl, at0.c, Z.cl, Z.n7, get_loops, ?_⟩
  refine ⟨_, rfl, F.c, C, F.dx, _, _, rfl, at0.c, Z.cl, Z.n8, get_rets, ?_⟩
  have at1 := at0.set (S' := { S with loops := 0 }) put_loops rfl rfl rfl rfl
  refine ⟨_, rfl, F.c, C, F.dx, _, rfl, at0.c, Z.cl, Z.n7, few F S, ?_⟩
  have at2 := at1.set (S' := { S with loops := 0, rets := false }) put_rets rfl rfl rfl rfl
  refine ⟨_, rfl, F.c, C, F.dx, _, rfl, at1.c, Z.cl, Z.n8, few F _, ?_⟩
  have sm2 := Ck.Same.up (o := .ins C F.dx (putF "returns" (.bl false) (flds F { S with loops := 0 }))) (Ck.Same.up (o := .ins C F.dx (putF "loops" (.int 0) (flds F S))) sm fr.c) fr.c
  refine ⟨_, rfl, _, rfl, _, rfl, F, { S with loops := 0, rets := false }, G, a, xs, ts, p, rfl, sm2, fr, at2, ⟨ok.lo, ok.hi, ok.cm, ok.va⟩, lv, ga, im, ?_⟩
  have qq : Res C IP F G S.places (behind (fun S' => { S' with loops := S.loops, rets := S.rets }) (ins n { S with loops := 0, rets := false } ts p)) Q E := q
  refine res_to (G := G) (pl := S.places) (Q := Q) (fun _ z => z) (fun e r => ?_) (fun i S' r H2 sm2 at2 ok2 pl => ?_)
  · rw [r] at qq
    exact qq
  · rw [r] at qq
    have at3 := at2.set (S' := { S' with loops := S.loops }) put_loops rfl rfl rfl rfl
    refine ⟨_, rfl, _, rfl, F.c, C, F.dx, _, rfl, at2.c, Z.cl, Z.n7, few F _, ?_⟩
    have at4 := at3.set (S' := { S' with loops := S.loops, rets := S.rets }) put_rets rfl rfl rfl rfl
    refine ⟨_, rfl, _, rfl, F.c, C, F.dx, _, rfl, at3.c, Z.cl, Z.n8, few F _, ?_⟩
    refine ⟨_, rfl, ?_⟩
    exact qq _ (Ck.Same.up (Ck.Same.up sm2 fr.c) fr.c) at4 ⟨ok2.lo, ok2.hi, ok2.cm, ok2.va⟩ pl

theorem keep_left {G : Hp} {r : Addr} {o : HO} (n : G r = none) : ∀ H', Same (upd G r o) H' → Same G H' := fun _ z => Ck.Same.left z n
/-- one more than the inner size -/
theorem inc_to {F : Foot} {G G1 : Hp} {S0 : CS} {r : R} {Q Q' : VK} {E : XK} (h : ∀ H', Same G1 H' → Same G H') (q : Res C IP F G S0.places (inc r) Q E) (ho : ∀ i H', Q (.int (1 + i)) H' → Q' (.int i) H') : Res C IP F G1 S0.places r Q' E := by
  refine res_to (G := G) (pl := S0.places) (Q := Q) h (fun e z => ?_) (fun i S' z H2 sm2 at2 ok2 pl => ?_)
  · rw [z] at q
    exact q
  · rw [z] at q
    exact ho i H2 (q H2 (h H2 sm2) at2 ok2 pl)
abbrev GHp (P : Program) (w : World) (K : PySem.W.Frag) (mg : Str → Option Value) (base : Heap) : Prop := Go P w K mg base CX0 1 "has_parts" ["tree"] (spHp K)
theorem hp_of {H : Hp} {xs : List V} {ts : List T} (im : Ims K H xs ts) (e : hasParts ts = true) : ∃ x0 t0 b ys ps, xs = [x0, .ref b] ∧ ts = [t0, .tup ps] ∧ H b = some (.tup ys) ∧ Ims K H ys ps ∧ 2 ≤ ps.length := by
  rcases im with _ | ⟨i0, _ | ⟨i1, _ | ⟨i2, r⟩⟩⟩
  · simp [hasParts] at e
  · simp [hasParts] at e
  · cases i1 with
    | tup hb ip => exact ⟨_, _, _, _, _, rfl, rfl, hb, ip, of_decide_eq_true e⟩
    | _ => simp [hasParts] at e
  · simp [hasParts] at e

abbrev sSeq : Stmt := topS 32
theorem scSeq : FnScope ["check", "tree", "place"] ["check", "tree", "place"] (defScope sSeq) := ⟨rfl, rfl, rfl, by decide +kernel, rfl, by decide +kernel, by decide +kernel⟩
theorem ok_Seq {n : Nat} {f : Addr} {fd : FuncData} (F0 : Fun K "size_of_seq" "size_of_seq" sSeq f fd) (M : Md K mg w dR dS adr) (Z : Mc P K mg C IP fI) {j : Nat} (hj : 1 ≤ j) (GP : GHp P w K mg base) (GA : GInto P w K mg base C IP n j) : FnD P w K mg base (L2.CX P w) (j + 1) f fd ["check", "tree", "place"] (spAct K C IP n .seq) := by
  refine okXD F0 scSeq (fun vs H Q E h => ?_) (fun cdv A outer s H vs Q E hr h => ?_)
  · obtain ⟨_, _, _, _, _, _, _, rfl, _⟩ := h
    rfl
  obtain ⟨F, S, G, a, xs, ts, p, rfl, sm, fr, at0, ok, lv, ga, im, q⟩ := h
  have hu := hu_of hr.low
  have ha := sqt (K := K) (sm _ _ ga)

  refine ⟨_, pss_one (ps_ret (pe_ifExp (pt_val (pe_go GP (hr.low.mono (by decide)) pass0 rfl (pa_cons (pv 1) pa_nil))) (pe_op op_add pe_int (pe_goD (E := E) GA hr (passes_call (takes_of rfl rfl rfl rfl) fun _ _ _ _ z => z) rfl (pa_cons (pv 0) (pa_cons (pe_ix ix_tup (pv 1) pe_int fun _ _ => rfl) (pa_cons (pv 2) pa_nil))))) pe_int)), ?_⟩
  dsimp only [L2.tRet, L2.tRetN, tAndV, tOrV, tNotV, tCB, L2.tCons, L2.tNil, tC, tVar, L2.tOp, L2.tUn, tSeq, tAsg, gName, tIfS, tTest, tNext, tAnd, tOr, tNot, L2.tIf, tFld, sFld, sFldAug, tCall, tTup, tB, tAug, tDrop, L2.tSl, tPart, tNoPart, tBM, tBM0, tChain, gTup, gCons, gNil, tPar, tIs, List.set]
  refine ⟨_, rfl, a, xs, ts, rfl, sm _ _ ga, im.mono sm, _, rfl, ?_⟩
  cases e : hasParts ts with
  | false =>
    have z : act (ins n) .seq S ts p = .ok (0, S) := by
      rcases ts with _ | ⟨t0, _ | ⟨t1, _ | ⟨t2, r⟩⟩⟩ <;> first | rfl | (cases t1 <;> first | rfl | (show (if 2 ≤ _ then _ else _) = _; rw [if_neg (of_decide_eq_false e)]))
    rw [z] at q
    exact if_no rfl (res0 q sm at0 ok.ok)
  | true =>
    obtain ⟨x0, t0, b, ys, ps, rfl, rfl, hb, ip, two⟩ := hp_of im e
    have z : act (ins n) .seq S [t0, .tup ps] p = inc (ins n S ps p) := by
      show (if 2 ≤ ps.length then _ else _) = _
      rw [if_pos two]
    rw [z] at q
    refine if_yes rfl ?_
    refine ⟨_, rfl, _, rfl, a, _, _, _, rfl, rfl, ha, rfl, _, rfl, F, S, G, b, ys, ps, p, rfl, sm, fr, at0, ok.ok, lv, hb, ip, ?_⟩
    exact inc_to (fun _ z => z) q fun i H' y => ⟨_, _, rfl, rfl, y⟩

abbrev sPip : Stmt := topS 33
theorem scPip : FnScope ["check", "tree", "place"] ["check", "tree", "place"] (defScope sPip) := ⟨rfl, rfl, rfl, by decide +kernel, rfl, by decide +kernel, by decide +kernel⟩
theorem ok_Pip {n : Nat} {f : Addr} {fd : FuncData} (F0 : Fun K "size_of_pipe" "size_of_pipe" sPip f fd) (M : Md K mg w dR dS adr) (Z : Mc P K mg C IP fI) {j : Nat} (hj : 1 ≤ j) (GP : GHp P w K mg base) (GA : GBar P w K mg base C IP n j) : FnD P w K mg base (L2.CX P w) (j + 1) f fd ["check", "tree", "place"] (spAct K C IP n .pipe) := by
  refine okXD F0 scPip (fun vs H Q E h => ?_) (fun cdv A outer s H vs Q E hr h => ?_)
  · obtain ⟨_, _, _, _, _, _, _, rfl, _⟩ := h
    rfl
  obtain ⟨F, S, G, a, xs, ts, p, rfl, sm, fr, at0, ok, lv, ga, im, q⟩ := h
  have hu := hu_of hr.low
  have ha := sqt (K := K) (sm _ _ ga)

  refine ⟨_, pss_one (ps_ret (pe_ifExp (pt_val (pe_go GP (hr.low.mono (by decide)) pass0 rfl (pa_cons (pv 1) pa_nil))) (pe_op op_add pe_int (pe_goD (E := E) GA hr (passes_call (takes_of rfl rfl rfl rfl) fun _ _ _ _ z => z) rfl (pa_cons (pv 0) (pa_cons (pe_ix ix_tup (pv 1) pe_int fun _ _ => rfl) (pa_cons (pv 2) pa_nil))))) pe_int)), ?_⟩
  dsimp only [L2.tRet, L2.tRetN, tAndV, tOrV, tNotV, tCB, L2.tCons, L2.tNil, tC, tVar, L2.tOp, L2.tUn, tSeq, tAsg, gName, tIfS, tTest, tNext, tAnd, tOr, tNot, L2.tIf, tFld, sFld, sFldAug, tCall, tTup, tB, tAug, tDrop, L2.tSl, tPart, tNoPart, tBM, tBM0, tChain, gTup, gCons, gNil, tPar, tIs, List.set]
  refine ⟨_, rfl, a, xs, ts, rfl, sm _ _ ga, im.mono sm, _, rfl, ?_⟩
  cases e : hasParts ts with
  | false =>
    have z : act (ins n) .pipe S ts p = .ok (0, S) := by
      rcases ts with _ | ⟨t0, _ | ⟨t1, _ | ⟨t2, r⟩⟩⟩ <;> first | rfl | (cases t1 <;> first | rfl | (show (if 2 ≤ _ then _ else _) = _; rw [if_neg (of_decide_eq_false e)]))
    rw [z] at q
    exact if_no rfl (res0 q sm at0 ok.ok)
  | true =>
    obtain ⟨x0, t0, b, ys, ps, rfl, rfl, hb, ip, two⟩ := hp_of im e
    have z : act (ins n) .pipe S [t0, .tup ps] p = inc (barrier (ins n) S ps p) := by
      show (if 2 ≤ ps.length then _ else _) = _
      rw [if_pos two]
    rw [z] at q
    refine if_yes rfl ?_
    refine ⟨_, rfl, _, rfl, a, _, _, _, rfl, rfl, ha, rfl, _, rfl, F, S, G, b, ys, ps, p, rfl, sm, fr, at0, ok.ok, lv, hb, ip, ?_⟩
    exact inc_to (fun _ z => z) q fun i H' y => ⟨_, _, rfl, rfl, y⟩

abbrev sAnd : Stmt := topS 34
theorem scAnd : FnScope ["check", "tree", "place"] ["check", "tree", "place"] (defScope sAnd) := ⟨rfl, rfl, rfl, by decide +kernel, rfl, by decide +kernel, by decide +kernel⟩
theorem ok_And {n : Nat} {f : Addr} {fd : FuncData} (F0 : Fun K "size_of_and_or" "size_of_and_or" sAnd f fd) (M : Md K mg w dR dS adr) (Z : Mc P K mg C IP fI) {j : Nat} (hj : 1 ≤ j) (GA : GInto P w K mg base C IP n j) : FnD P w K mg base (L2.CX P w) (j + 1) f fd ["check", "tree", "place"] (spAct K C IP n .andor) := by
  refine okXD F0 scAnd (fun vs H Q E h => ?_) (fun cdv A outer s H vs Q E hr h => ?_)
  · obtain ⟨_, _, _, _, _, _, _, rfl, _⟩ := h
    rfl
  obtain ⟨F, S, G, a, xs, ts, p, rfl, sm, fr, at0, ok, lv, ga, im, q⟩ := h
  have hu := hu_of hr.low
  have ha := sqt (K := K) (sm _ _ ga)

  refine ⟨_, pss_one (ps_ret (pe_ifExp (pt_cmpR op_eq (pe_callB call_len_seq rfl M.ml PySem.boot_len (pa_cons (pv 1) pa_nil)) pe_int (nomark _)) (pe_op op_add pe_int (pe_goD (E := E) GA hr (passes_call (takes_of rfl rfl rfl rfl) fun _ _ _ _ z => z) rfl (pa_cons (pv 0) (pa_cons (pe_slice sl_tup (pv 1) (po_some pe_int) po_none) (pa_cons (pv 2) pa_nil))))) pe_int)), ?_⟩
  dsimp only [L2.tRet, L2.tRetN, tAndV, tOrV, tNotV, tCB, L2.tCons, L2.tNil, tC, tVar, L2.tOp, L2.tUn, tSeq, tAsg, gName, tIfS, tTest, tNext, tAnd, tOr, tNot, L2.tIf, tFld, sFld, sFldAug, tCall, tTup, tB, tAug, tDrop, L2.tSl, tPart, tNoPart, tBM, tBM0, tChain, gTup, gCons, gNil, tPar, tIs, List.set]
  refine ⟨_, rfl, a, xs, rfl, .inr ha, rfl, _, rfl, ?_⟩
  rcases three im with ⟨x0, x1, x2, t0, t1, t2, rfl, rfl, i0, i1, i2⟩ | ⟨c, nt⟩
  · refine if_yes rfl ?_
    refine ⟨_, rfl, _, rfl, 1, rfl, a, _, rfl, ha, (by show ¬ (HT.sIx 3 0 (some 1) = 0 ∧ HT.sIx 3 3 none = 3); decide), fun r nr => ?_⟩
    have nG := Ck.Same.non sm nr
    have im1 : Ims K G [x1, x2] [t1, t2] := (.cons i1 (.cons i2 .nil))
    refine ⟨_, rfl, F, S, upd G r (.tup [x1, x2]), r, [x1, x2], [t1, t2], p, rfl, Ck.Same.both sm, fr.new at0 nr, at0.new nr, ok.ok, lv, upd_same, im1.mono (Ck.Same.new (fun _ _ z => z) nG), ?_⟩
    exact inc_to (keep_left nG) q fun i H' y => ⟨_, _, rfl, rfl, y⟩
  · have e : act (ins n) .andor S ts p = .ok (0, S) := by
      rcases ts with _ | ⟨t0, _ | ⟨t1, _ | ⟨t2, _ | ⟨t3, r⟩⟩⟩⟩ <;> first | rfl | exact absurd rfl (nt _ _ _)
    rw [e] at q
    exact if_no (len_ne c) (res0 q sm at0 ok.ok)

abbrev sNot : Stmt := topS 35
theorem scNot : FnScope ["check", "tree", "place"] ["check", "tree", "place"] (defScope sNot) := ⟨rfl, rfl, rfl, by decide +kernel, rfl, by decide +kernel, by decide +kernel⟩
theorem ok_Not {n : Nat} {f : Addr} {fd : FuncData} (F0 : Fun K "size_of_not" "size_of_not" sNot f fd) (M : Md K mg w dR dS adr) (Z : Mc P K mg C IP fI) {j : Nat} (hj : 1 ≤ j) (GA : GInto P w K mg base C IP n j) : FnD P w K mg base (L2.CX P w) (j + 1) f fd ["check", "tree", "place"] (spAct K C IP n .not) := by
  refine okXD F0 scNot (fun vs H Q E h => ?_) (fun cdv A outer s H vs Q E hr h => ?_)
  · obtain ⟨_, _, _, _, _, _, _, rfl, _⟩ := h
    rfl
  obtain ⟨F, S, G, a, xs, ts, p, rfl, sm, fr, at0, ok, lv, ga, im, q⟩ := h
  have hu := hu_of hr.low
  have ha := sqt (K := K) (sm _ _ ga)

  refine ⟨_, pss_one (ps_ret (pe_ifExp (pt_cmpR op_eq (pe_callB call_len_seq rfl M.ml PySem.boot_len (pa_cons (pv 1) pa_nil)) pe_int (nomark _)) (pe_op op_add pe_int (pe_goD (E := E) GA hr (passes_call (takes_of rfl rfl rfl rfl) fun _ _ _ _ z => z) rfl (pa_cons (pv 0) (pa_cons (pe_slice sl_tup (pv 1) (po_some pe_int) po_none) (pa_cons (pv 2) pa_nil))))) pe_int)), ?_⟩
  dsimp only [L2.tRet, L2.tRetN, tAndV, tOrV, tNotV, tCB, L2.tCons, L2.tNil, tC, tVar, L2.tOp, L2.tUn, tSeq, tAsg, gName, tIfS, tTest, tNext, tAnd, tOr, tNot, L2.tIf, tFld, sFld, sFldAug, tCall, tTup, tB, tAug, tDrop, L2.tSl, tPart, tNoPart, tBM, tBM0, tChain, gTup, gCons, gNil, tPar, tIs, List.set]
  refine ⟨_, rfl, a, xs, rfl, .inr ha, rfl, _, rfl, ?_⟩
  rcases two im with ⟨x0, x1, t0, t1, rfl, rfl, i0, i1⟩ | ⟨c, nt⟩
  · refine if_yes rfl ?_
    refine ⟨_, rfl, _, rfl, 1, rfl, a, _, rfl, ha, (by show ¬ (HT.sIx 2 0 (some 1) = 0 ∧ HT.sIx 2 2 none = 2); decide), fun r nr => ?_⟩
    have nG := Ck.Same.non sm nr
    have im1 : Ims K G [x1] [t1] := (.cons i1 .nil)
    refine ⟨_, rfl, F, S, upd G r (.tup [x1]), r, [x1], [t1], p, rfl, Ck.Same.both sm, fr.new at0 nr, at0.new nr, ok.ok, lv, upd_same, im1.mono (Ck.Same.new (fun _ _ z => z) nG), ?_⟩
    exact inc_to (keep_left nG) q fun i H' y => ⟨_, _, rfl, rfl, y⟩
  · have e : act (ins n) .not S ts p = .ok (0, S) := by
      rcases ts with _ | ⟨t0, _ | ⟨t1, _ | ⟨t2, r⟩⟩⟩ <;> first | rfl | exact absurd rfl (nt _ _)
    rw [e] at q
    exact if_no (len_ne c) (res0 q sm at0 ok.ok)

abbrev sSub : Stmt := topS 36
theorem scSub : FnScope ["check", "tree", "place"] ["check", "tree", "place"] (defScope sSub) := ⟨rfl, rfl, rfl, by decide +kernel, rfl, by decide +kernel, by decide +kernel⟩
theorem ok_Sub {n : Nat} {f : Addr} {fd : FuncData} (F0 : Fun K "size_of_sub" "size_of_sub" sSub f fd) (M : Md K mg w dR dS adr) (Z : Mc P K mg C IP fI) {j : Nat} (hj : 1 ≤ j) (GA : GBar P w K mg base C IP n j) : FnD P w K mg base (L2.CX P w) (j + 1) f fd ["check", "tree", "place"] (spAct K C IP n .sub) := by
  refine okXD F0 scSub (fun vs H Q E h => ?_) (fun cdv A outer s H vs Q E hr h => ?_)
  · obtain ⟨_, _, _, _, _, _, _, rfl, _⟩ := h
    rfl
  obtain ⟨F, S, G, a, xs, ts, p, rfl, sm, fr, at0, ok, lv, ga, im, q⟩ := h
  have hu := hu_of hr.low
  have ha := sqt (K := K) (sm _ _ ga)

  refine ⟨_, pss_one (ps_ret (pe_ifExp (pt_cmpR op_eq (pe_callB call_len_seq rfl M.ml PySem.boot_len (pa_cons (pv 1) pa_nil)) pe_int (nomark _)) (pe_op op_add pe_int (pe_goD (E := E) GA hr (passes_call (takes_of rfl rfl rfl rfl) fun _ _ _ _ z => z) rfl (pa_cons (pv 0) (pa_cons (pe_slice sl_tup (pv 1) (po_some pe_int) po_none) (pa_cons (pv 2) pa_nil))))) pe_int)), ?_⟩
  dsimp only [L2.tRet, L2.tRetN, tAndV, tOrV, tNotV, tCB, L2.tCons, L2.tNil, tC, tVar, L2.tOp, L2.tUn, tSeq, tAsg, gName, tIfS, tTest, tNext, tAnd, tOr, tNot, L2.tIf, tFld, sFld, sFldAug, tCall, tTup, tB, tAug, tDrop, L2.tSl, tPart, tNoPart, tBM, tBM0, tChain, gTup, gCons, gNil, tPar, tIs, List.set]
  refine ⟨_, rfl, a, xs, rfl, .inr ha, rfl, _, rfl, ?_⟩
  rcases two im with ⟨x0, x1, t0, t1, rfl, rfl, i0, i1⟩ | ⟨c, nt⟩
  · refine if_yes rfl ?_
    refine ⟨_, rfl, _, rfl, 1, rfl, a, _, rfl, ha, (by show ¬ (HT.sIx 2 0 (some 1) = 0 ∧ HT.sIx 2 2 none = 2); decide), fun r nr => ?_⟩
    have nG := Ck.Same.non sm nr
    have im1 : Ims K G [x1] [t1] := (.cons i1 .nil)
    refine ⟨_, rfl, F, S, upd G r (.tup [x1]), r, [x1], [t1], p, rfl, Ck.Same.both sm, fr.new at0 nr, at0.new nr, ok.ok, lv, upd_same, im1.mono (Ck.Same.new (fun _ _ z => z) nG), ?_⟩
    exact inc_to (keep_left nG) q fun i H' y => ⟨_, _, rfl, rfl, y⟩
  · have e : act (ins n) .sub S ts p = .ok (0, S) := by
      rcases ts with _ | ⟨t0, _ | ⟨t1, _ | ⟨t2, r⟩⟩⟩ <;> first | rfl | exact absurd rfl (nt _ _)
    rw [e] at q
    exact if_no (len_ne c) (res0 q sm at0 ok.ok)

end
end Ck

/-! Traps, ifs, loops; trees side by side. -/
namespace Ck
open PySem PySem.Spec PyProof.Rows L2 PySem.ErrKw
section
variable {P : Program} {w : World} {K : PySem.W.Frag} {mg : Str → Option Value} {base : Heap} {dR dS : Addr} {adr : Kind → Addr} {C IP fI : Addr}

abbrev sTra : Stmt := topS 31
theorem scTra : FnScope ["check", "tree", "place"] ["check", "tree", "place"] (defScope sTra) := ⟨rfl, rfl, rfl, by decide +kernel, rfl, by decide +kernel, by decide +kernel⟩
theorem ok_Tra {n : Nat} {f : Addr} {fd : FuncData} (F0 : Fun K "size_of_trap" "size_of_trap" sTra f fd) (M : Md K mg w dR dS adr) (Z : Mc P K mg C IP fI) {j : Nat} (GA : GBar P w K mg base C IP n j) : FnD P w K mg base (L2.CX P w) (j + 1) f fd ["check", "tree", "place"] (spAct K C IP n .trap) := by
  refine okXD F0 scTra (fun vs H Q E h => ?_) (fun cdv A outer s H vs Q E hr h => ?_)
  · obtain ⟨_, _, _, _, _, _, _, rfl, _⟩ := h
    rfl
  obtain ⟨F, S, G, a, xs, ts, p, rfl, sm, fr, at0, ok, lv, ga, im, q⟩ := h
  have hu := hu_of hr.low
  have ha := sqt (K := K) (sm _ _ ga)

  refine ⟨_, pss_cons (ps_if (PW.pt (pw_or (pt_cmpR op_ne (pe_callB call_len_seq rfl M.ml PySem.boot_len (pa_cons (pv 1) pa_nil)) pe_int (nomark _)) (pw_or (pt_not (pt_val (pe_is (n := "str") M.mi M.mstr (by decide +kernel) rfl rfl (pe_ix ix_tup (pv 1) pe_int fun _ _ => rfl)))) (pw_or1 (pt_cmpR op_notIn_seq (pe_ix ix_tup (pv 1) pe_int fun _ _ => rfl) (pe_tup (pa_cons pe_str (pa_cons pe_str pa_nil))) (by rfl)))))) (pss_one (ps_ret pe_int)) pss_nil)
    (pss_one (ps_ret (pe_ifExp (pt_cmpR op_isN (pe_ix ix_tup (pv 1) pe_int fun _ _ => rfl) pe_non (nomark _)) pe_int (pe_op op_add pe_int (pe_goD (E := E) GA hr (passes_call (takes_of rfl rfl rfl rfl) fun _ _ _ _ z => z) rfl (pa_cons (pv 0) (pa_cons (pe_slice sl_tup (pv 1) (po_some pe_int) po_none) (pa_cons (pv 2) pa_nil)))))))), ?_⟩
  dsimp only [L2.tRet, L2.tRetN, tAndV, tOrV, tNotV, tCB, L2.tCons, L2.tNil, tC, tVar, L2.tOp, L2.tUn, tSeq, tAsg, gName, tIfS, tTest, tNext, tAnd, tOr, tNot, L2.tIf, tFld, sFld, sFldAug, tCall, tTup, tB, tAug, tDrop, L2.tSl, tPart, tNoPart, tBM, tBM0, tChain, gTup, gCons, gNil, tPar, tIs, List.set]
  refine ⟨_, rfl, a, xs, rfl, .inr ha, rfl, _, rfl, ?_⟩
  rcases three im with ⟨x0, x1, x2, t0, t1, t2, rfl, rfl, i0, i1, i2⟩ | ⟨c, nt⟩
  · refine if_no rfl ?_
    refine ⟨_, rfl, a, _, _, _, rfl, rfl, ha, rfl, is_str (i1.mono sm) ⟨_, rfl, ?_⟩⟩
    cases e1 : isSt t1 with
    | false =>
      have z : act (ins n) .trap S [t0, t1, t2] p = .ok (0, S) := by cases t1 <;> first | rfl | simp [isSt] at e1
      rw [z] at q
      exact if_yes rfl (if_yes rfl (res0 q sm at0 ok.ok))
    | true =>
      refine if_no rfl ?_
      obtain ⟨z, rfl, rfl⟩ := str_of i1 e1
      refine ⟨_, rfl, a, _, _, _, rfl, rfl, ha, rfl, (by decide), fun r nr => ?_⟩
      have sm1 := Ck.Same.new (o := .tup [V.str "end", V.str "fail"]) sm nr
      have at1 := at0.new (o := .tup [V.str "end", V.str "fail"]) nr
      have ha1 : SqT K (upd H r (.tup [V.str "end", V.str "fail"])) a [x0, .str z, x2] := sqt (sm1 _ _ ga)
      refine ⟨r, _, rfl, .inr (sqt upd_same), rfl, rfl, _, rfl, ?_⟩
      have qq : Res C IP F G S.places (if z = "end" ∨ z = "fail" then (if isNon t2 then .ok (1, S) else inc (barrier (ins n) S [t2] p)) else .ok (0, S)) Q E := q
      have iv : inV (V.str z) [V.str "end", V.str "fail"] = decide (z = "end" ∨ z = "fail") := by
        unfold inV
        by_cases y1 : z = "end"
        · simp [y1, eqV]
        · by_cases y2 : z = "fail"
          · simp [y2, eqV]
          · have z1 : ¬ ("end" : Str) = z := fun h => y1 h.symm
            have z2 : ¬ ("fail" : Str) = z := fun h => y2 h.symm
            simp [y1, y2, z1, z2, eqV]
      rw [iv]
      by_cases y : z = "end" ∨ z = "fail"
      · rw [if_pos y] at qq
        refine if_no (by rw [decide_eq_true y]; rfl) ?_
        refine ⟨_, rfl, a, _, _, _, rfl, rfl, ha1, rfl, rfl, _, rfl, ?_⟩
        rw [non_is i2]
        cases e2 : isNon t2 with
        | true =>
          rw [e2, if_pos rfl] at qq
          exact if_yes rfl (res0 qq sm1 at1 ok.ok)
        | false =>
          rw [e2, if_neg Bool.false_ne_true] at qq
          refine if_no rfl ?_
          refine ⟨_, rfl, _, rfl, 2, rfl, a, _, rfl, ha1, (by show ¬ (HT.sIx 3 0 (some 2) = 0 ∧ HT.sIx 3 3 none = 3); decide), fun r2 nr2 => ?_⟩
          have nG := Ck.Same.non sm1 nr2
          refine ⟨_, rfl, F, S, upd G r2 (.tup [x2]), r2, [x2], [t2], p, rfl, Ck.Same.both sm1, fr.new at1 nr2, at1.new nr2, ok.ok, lv, upd_same, (Ims.cons i2 .nil).mono (Ck.Same.new (fun _ _ z => z) nG), ?_⟩
          exact inc_to (keep_left nG) qq fun i H' y => ⟨_, _, rfl, rfl, y⟩
      · rw [if_neg y] at qq
        exact if_yes (by rw [decide_eq_false y]; rfl) (res0 qq sm1 at1 ok.ok)
  · have e : act (ins n) .trap S ts p = .ok (0, S) := by
      rcases ts with _ | ⟨t0, _ | ⟨t1, _ | ⟨t2, _ | ⟨t3, r⟩⟩⟩⟩ <;> first | rfl | exact absurd rfl (nt _ _ _) | (cases t1 <;> rfl)
    rw [e] at q
    exact if_yes (len_not c) (if_yes rfl (res0 q sm at0 ok.ok))

abbrev sIff : Stmt := topS 37
theorem scIff : FnScope ["check", "tree", "place"] ["check", "tree", "place"] (defScope sIff) := ⟨rfl, rfl, rfl, by decide +kernel, rfl, by decide +kernel, by decide +kernel⟩
theorem ok_Iff {n : Nat} {f : Addr} {fd : FuncData} (F0 : Fun K "size_of_if" "size_of_if" sIff f fd) (M : Md K mg w dR dS adr) (Z : Mc P K mg C IP fI) {j : Nat} (GA : GInto P w K mg base C IP n j) : FnD P w K mg base (L2.CX P w) (j + 1) f fd ["check", "tree", "place"] (spAct K C IP n .ife) := by
  refine okXD F0 scIff (fun vs H Q E h => ?_) (fun cdv A outer s H vs Q E hr h => ?_)
  · obtain ⟨_, _, _, _, _, _, _, rfl, _⟩ := h
    rfl
  obtain ⟨F, S, G, a, xs, ts, p, rfl, sm, fr, at0, ok, lv, ga, im, q⟩ := h
  have hu := hu_of hr.low
  have ha := sqt (K := K) (sm _ _ ga)

  refine ⟨_, pss_cons (ps_if (pt_cmpR op_ne (pe_callB call_len_seq rfl M.ml PySem.boot_len (pa_cons (pv 1) pa_nil)) pe_int (nomark _)) (pss_one (ps_ret pe_int)) pss_nil)
    (pss_one (ps_ret (pe_op op_add pe_int (pe_goD (E := E) GA hr (passes_call (takes_of rfl rfl rfl rfl) fun _ _ _ _ z => z) rfl (pa_cons (pv 0) (pa_cons (pe_ifExp (pt_cmpR op_isN (pe_ix ix_tup (pv 1) pe_int fun _ _ => rfl) pe_non (nomark _)) (pe_slice sl_tup (pv 1) (po_some pe_int) (po_some pe_int)) (pe_slice sl_tup (pv 1) (po_some pe_int) po_none)) (pa_cons (pv 2) pa_nil))))))), ?_⟩
  dsimp only [L2.tRet, L2.tRetN, tAndV, tOrV, tNotV, tCB, L2.tCons, L2.tNil, tC, tVar, L2.tOp, L2.tUn, tSeq, tAsg, gName, tIfS, tTest, tNext, tAnd, tOr, tNot, L2.tIf, tFld, sFld, sFldAug, tCall, tTup, tB, tAug, tDrop, L2.tSl, tPart, tNoPart, tBM, tBM0, tChain, gTup, gCons, gNil, tPar, tIs, List.set]
  refine ⟨_, rfl, a, xs, rfl, .inr ha, rfl, _, rfl, ?_⟩
  rcases four im with ⟨x0, x1, x2, x3, t0, t1, t2, t3, rfl, rfl, i0, i1, i2, i3⟩ | ⟨c, nt⟩
  · refine if_no rfl ?_
    refine ⟨_, rfl, _, rfl, a, _, _, _, rfl, rfl, ha, rfl, rfl, _, rfl, ?_⟩
    rw [non_is i3]
    have qq : Res C IP F G S.places (inc (ins n S (if isNon t3 = true then [t1, t2] else [t1, t2, t3]) p)) Q E := q
    cases e2 : isNon t3 with
    | true =>
      rw [e2, if_pos rfl] at qq
      refine if_yes rfl ?_
      refine ⟨_, rfl, 1, rfl, 3, rfl, a, _, rfl, ha, (by show ¬ (HT.sIx 4 0 (some 1) = 0 ∧ HT.sIx 4 4 (some 3) = 4); decide), fun r nr => ?_⟩
      have nG := Ck.Same.non sm nr
      refine ⟨_, rfl, F, S, upd G r (.tup [x1, x2]), r, [x1, x2], [t1, t2], p, rfl, Ck.Same.both sm, fr.new at0 nr, at0.new nr, ok.ok, lv, upd_same, (Ims.cons i1 (.cons i2 .nil)).mono (Ck.Same.new (fun _ _ z => z) nG), ?_⟩
      exact inc_to (keep_left nG) qq fun i H' y => ⟨_, _, rfl, rfl, y⟩
    | false =>
      rw [e2, if_neg Bool.false_ne_true] at qq
      refine if_no rfl ?_
      refine ⟨_, rfl, 1, rfl, a, _, rfl, ha, (by show ¬ (HT.sIx 4 0 (some 1) = 0 ∧ HT.sIx 4 4 none = 4); decide), fun r nr => ?_⟩
      have nG := Ck.Same.non sm nr
      refine ⟨_, rfl, F, S, upd G r (.tup [x1, x2, x3]), r, [x1, x2, x3], [t1, t2, t3], p, rfl, Ck.Same.both sm, fr.new at0 nr, at0.new nr, ok.ok, lv, upd_same, (Ims.cons i1 (.cons i2 (.cons i3 .nil))).mono (Ck.Same.new (fun _ _ z => z) nG), ?_⟩
      exact inc_to (keep_left nG) qq fun i H' y => ⟨_, _, rfl, rfl, y⟩
  · have e : act (ins n) .ife S ts p = .ok (0, S) := by
      rcases ts with _ | ⟨t0, _ | ⟨t1, _ | ⟨t2, _ | ⟨t3, _ | ⟨t4, r⟩⟩⟩⟩⟩ <;> first | rfl | exact absurd rfl (nt _ _ _ _)
    rw [e] at q
    exact if_yes (len_not c) (res0 q sm at0 ok.ok)

abbrev sWhi : Stmt := topS 38
theorem scWhi : FnScope ["check", "tree", "place", "size"] ["check", "tree", "place"] (defScope sWhi) := ⟨rfl, rfl, rfl, by decide +kernel, rfl, by decide +kernel, by decide +kernel⟩
theorem ok_Whi {n : Nat} {f : Addr} {fd : FuncData} (F0 : Fun K "size_of_while" "size_of_while" sWhi f fd) (M : Md K mg w dR dS adr) (Z : Mc P K mg C IP fI) {j : Nat} (GA : GInto P w K mg base C IP n j) : FnD P w K mg base (L2.CX P w) (j + 1) f fd ["check", "tree", "place"] (spAct K C IP n .whl) := by
  refine okXD F0 scWhi (fun vs H Q E h => ?_) (fun cdv A outer s H vs Q E hr h => ?_)
  · obtain ⟨_, _, _, _, _, _, _, rfl, _⟩ := h
    rfl
  obtain ⟨F, S, G, a, xs, ts, p, rfl, sm, fr, at0, ok, lv, ga, im, q⟩ := h
  have hu := hu_of hr.low
  have ha := sqt (K := K) (sm _ _ ga)

  refine ⟨_, pss_cons (ps_if (pt_cmpR op_ne (pe_callB call_len_seq rfl M.ml PySem.boot_len (pa_cons (pv 1) pa_nil)) pe_int (nomark _)) (pss_one (ps_ret pe_int)) pss_nil)
    (pss_cons (ps_fldaug (pv 0) pe_int in_add) (pss_cons (ps_set (i := 3) scWhi.nd rfl (.inl rfl) (pe_goD (E := E) GA hr (passes_call (takes_of rfl rfl rfl rfl) fun _ _ _ _ z => z) rfl (pa_cons (pv 0) (pa_cons (pe_slice sl_tup (pv 1) (po_some pe_int) po_none) (pa_cons (pv 2) pa_nil))))) (pss_cons (ps_fldaug (pv 0) pe_int in_sub) (pss_one (ps_ret (pe_op op_add pe_int (pv 3))))))), ?_⟩
  dsimp only [L2.tRet, L2.tRetN, tAndV, tOrV, tNotV, tCB, L2.tCons, L2.tNil, tC, tVar, L2.tOp, L2.tUn, tSeq, tAsg, gName, tIfS, tTest, tNext, tAnd, tOr, tNot, L2.tIf, tFld, sFld, sFldAug, tCall, tTup, tB, tAug, tDrop, L2.tSl, tPart, tNoPart, tBM, tBM0, tChain, gTup, gCons, gNil, tPar, tIs, List.set]
  refine ⟨_, rfl, a, xs, rfl, .inr ha, rfl, _, rfl, ?_⟩
  rcases three im with ⟨x0, x1, x2, t0, t1, t2, rfl, rfl, i0, i1, i2⟩ | ⟨c, nt⟩
  · refine if_no rfl ?_
    have at1 := at0.set (S' := { S with loops := S.loops + 1 }) put_loops rfl rfl rfl rfl
    have sm1 := Ck.Same.up (o := .ins C F.dx (putF "loops" (.int (S.loops + 1)) (flds F S))) sm fr.c
    have ha1 := sqt (K := K) (sm1 _ _ ga)
    refine ⟨_, rfl, F.c, C, F.dx, _, _, rfl, at0.c, Z.cl, Z.n7, get_loops, _, _, rfl, rfl, _, _, at0.c, few F S, ?_⟩
    refine ⟨_, rfl, _, rfl, 1, rfl, a, _, rfl, ha1, (by show ¬ (HT.sIx 3 0 (some 1) = 0 ∧ HT.sIx 3 3 none = 3); decide), fun r nr => ?_⟩
    have nG := Ck.Same.non sm1 nr
    refine ⟨_, rfl, F, { S with loops := S.loops + 1 }, upd G r (.tup [x1, x2]), r, [x1, x2], [t1, t2], p, rfl, Ck.Same.both sm1, fr.new at1 nr, at1.new nr, ⟨ok.lo, ok.hi, ok.ok.cm, ok.ok.va⟩, lv, upd_same, (.cons i1 (.cons i2 .nil) : Ims K G [x1, x2] [t1, t2]).mono (Ck.Same.new (fun _ _ z => z) nG), ?_⟩
    have qq : Res C IP F G S.places (inc (behind (fun S' => { S' with loops := S'.loops - 1 }) (ins n { S with loops := S.loops + 1 } [t1, t2] p))) Q E := q
    refine res_to (G := G) (pl := S.places) (Q := Q) (keep_left nG) (fun e r => ?_) (fun i S' r H2 sm2 at2 ok2 pl => ?_)
    · rw [r] at qq
      exact qq
    · rw [r] at qq
      have at3 := at2.set (S' := { S' with loops := S'.loops - 1 }) put_loops rfl rfl rfl rfl
      refine ⟨_, rfl, F.c, C, F.dx, _, _, rfl, at2.c, Z.cl, Z.n7, get_loops, _, _, rfl, rfl, _, _, at2.c, few F S', ?_⟩
      refine ⟨_, rfl, _, _, rfl, rfl, ?_⟩
      exact qq _ (Ck.Same.up (keep_left nG _ sm2) fr.c) at3 ⟨ok2.lo, ok2.hi, ok2.cm, ok2.va⟩ pl
  · have e : act (ins n) .whl S ts p = .ok (0, S) := by
      rcases ts with _ | ⟨t0, _ | ⟨t1, _ | ⟨t2, _ | ⟨t3, r⟩⟩⟩⟩ <;> first | rfl | exact absurd rfl (nt _ _ _)
    rw [e] at q
    exact if_yes (len_not c) (res0 q sm at0 ok.ok)

abbrev sTim : Stmt := topS 39
theorem scTim : FnScope ["check", "tree", "place", "size"] ["check", "tree", "place"] (defScope sTim) := ⟨rfl, rfl, rfl, by decide +kernel, rfl, by decide +kernel, by decide +kernel⟩
theorem ok_Tim {n : Nat} {f : Addr} {fd : FuncData} (F0 : Fun K "size_of_times" "size_of_times" sTim f fd) (M : Md K mg w dR dS adr) (Z : Mc P K mg C IP fI) {j : Nat} (hj : 1 ≤ j) (GW : GW P w K mg base) (GA : GInto P w K mg base C IP n j) : FnD P w K mg base (L2.CX P w) (j + 1) f fd ["check", "tree", "place"] (spAct K C IP n .times) := by
  refine okXD F0 scTim (fun vs H Q E h => ?_) (fun cdv A outer s H vs Q E hr h => ?_)
  · obtain ⟨_, _, _, _, _, _, _, rfl, _⟩ := h
    rfl
  obtain ⟨F, S, G, a, xs, ts, p, rfl, sm, fr, at0, ok, lv, ga, im, q⟩ := h
  have hu := hu_of hr.low
  have ha := sqt (K := K) (sm _ _ ga)

  obtain ⟨tg, mr⟩ := M.mr
  refine ⟨_, pss_cons (ps_if (PW.pt (pw_or (pt_cmpR op_ne (pe_callB call_len_seq rfl M.ml PySem.boot_len (pa_cons (pv 1) pa_nil)) pe_int (nomark _)) (pw_or1 (pt_not (pt_val (pe_go GW (hr.low.mono (by decide)) pass0 rfl (pa_cons (pe_ix ix_tup (pv 1) pe_int fun _ _ => rfl) (pa_cons pe_int (pa_cons (pe_glob (v := .int 1000) rfl mr ⟨_, rfl⟩) pa_nil))))))))) (pss_one (ps_ret pe_int)) pss_nil)
    (pss_cons (ps_fldaug (pv 0) pe_int in_add) (pss_cons (ps_set (i := 3) scTim.nd rfl (.inl rfl) (pe_goD (E := E) GA hr (passes_call (takes_of rfl rfl rfl rfl) fun _ _ _ _ z => z) rfl (pa_cons (pv 0) (pa_cons (pe_slice sl_tup (pv 1) (po_some pe_int) po_none) (pa_cons (pv 2) pa_nil))))) (pss_cons (ps_fldaug (pv 0) pe_int in_sub) (pss_one (ps_ret (pe_op op_add pe_int (pe_op op_mul (pe_ix ix_tup (pv 1) pe_int fun _ _ => rfl) (pv 3)))))))), ?_⟩
  dsimp only [L2.tRet, L2.tRetN, tAndV, tOrV, tNotV, tCB, L2.tCons, L2.tNil, tC, tVar, L2.tOp, L2.tUn, tSeq, tAsg, gName, tIfS, tTest, tNext, tAnd, tOr, tNot, L2.tIf, tFld, sFld, sFldAug, tCall, tTup, tB, tAug, tDrop, L2.tSl, tPart, tNoPart, tBM, tBM0, tChain, gTup, gCons, gNil, tPar, tIs, List.set]
  refine ⟨_, rfl, a, xs, rfl, .inr ha, rfl, _, rfl, ?_⟩
  rcases three im with ⟨x0, x1, x2, t0, t1, t2, rfl, rfl, i0, i1, i2⟩ | ⟨c, nt⟩
  · refine if_no rfl ?_
    refine ⟨_, rfl, a, _, _, _, rfl, rfl, ha, rfl, x1, t1, 0, 1000, rfl, i1.mono sm, _, rfl, ?_⟩
    cases e : within 0 1000 t1 with
    | false =>
      have z : act (ins n) .times S [t0, t1, t2] p = .ok (0, S) := by
        cases t1 <;> first | rfl | (show (if within 0 1000 _ = true then _ else _) = _; rw [e]; rfl)
      rw [z] at q
      exact if_yes rfl (res0 q sm at0 ok.ok)
    | true =>
    cases i1 with
    | int k =>
    refine if_no rfl ?_
    have at1 := at0.set (S' := { S with loops := S.loops + 1 }) put_loops rfl rfl rfl rfl
    have sm1 := Ck.Same.up (o := .ins C F.dx (putF "loops" (.int (S.loops + 1)) (flds F S))) sm fr.c
    have ha1 := sqt (K := K) (sm1 _ _ ga)
    refine ⟨_, rfl, F.c, C, F.dx, _, _, rfl, at0.c, Z.cl, Z.n7, get_loops, _, _, rfl, rfl, _, _, at0.c, few F S, ?_⟩
    refine ⟨_, rfl, _, rfl, 2, rfl, a, _, rfl, ha1, (by show ¬ (HT.sIx 3 0 (some 2) = 0 ∧ HT.sIx 3 3 none = 3); decide), fun r nr => ?_⟩
    have nG := Ck.Same.non sm1 nr
    refine ⟨_, rfl, F, { S with loops := S.loops + 1 }, upd G r (.tup [x2]), r, [x2], [t2], p, rfl, Ck.Same.both sm1, fr.new at1 nr, at1.new nr, ⟨ok.lo, ok.hi, ok.ok.cm, ok.ok.va⟩, lv, upd_same, (.cons i2 .nil : Ims K G [x2] [t2]).mono (Ck.Same.new (fun _ _ z => z) nG), ?_⟩
    have e2 : act (ins n) .times S [t0, .int k, t2] p = timed k (behind (fun S' => { S' with loops := S'.loops - 1 }) (ins n { S with loops := S.loops + 1 } [t2] p)) := by
      show (if within 0 1000 (.int k) = true then _ else _) = _
      rw [e]
      rfl
    rw [e2] at q
    have kb : 0 ≤ k ∧ k ≤ 1000 := by
      unfold within at e
      rw [Bool.and_eq_true] at e
      exact ⟨of_decide_eq_true e.1, of_decide_eq_true e.2⟩
    refine res_to (G := G) (pl := S.places) (Q := Q) (keep_left nG) (fun e r => ?_) (fun i S' r H2 sm2 at2 ok2 pl => ?_)
    · rw [r] at q
      exact q
    · rw [r] at q
      have at3 := at2.set (S' := { S' with loops := S'.loops - 1 }) put_loops rfl rfl rfl rfl
      have sm3 := Ck.Same.up (o := .ins C F.dx (putF "loops" (.int (S'.loops - 1)) (flds F S'))) (keep_left nG _ sm2) fr.c
      refine ⟨_, rfl, F.c, C, F.dx, _, _, rfl, at2.c, Z.cl, Z.n7, get_loops, _, _, rfl, rfl, _, _, at2.c, few F S', ?_⟩
      refine ⟨_, rfl, a, _, _, _, rfl, rfl, sqt (K := K) (sm3 _ _ ga), rfl, _, rfl, _, _, rfl, rfl, (.inl ⟨by omega, by omega⟩), _, _, rfl, rfl, ?_⟩
      exact q _ sm3 at3 ⟨ok2.lo, ok2.hi, ok2.cm, ok2.va⟩ pl
    | _ => simp [within] at e
  · have e : act (ins n) .times S ts p = .ok (0, S) := by
      rcases ts with _ | ⟨t0, _ | ⟨t1, _ | ⟨t2, _ | ⟨t3, r⟩⟩⟩⟩ <;> first | rfl | exact absurd rfl (nt _ _ _) | (cases t1 <;> rfl)
    rw [e] at q
    exact if_yes (len_not c) (if_yes rfl (res0 q sm at0 ok.ok))

end
end Ck

/-! Trees side by side. -/
namespace Ck
open PySem PySem.Spec PyProof.Rows L2 PySem.ErrKw
section
variable {P : Program} {w : World} {K : PySem.W.Frag} {mg : Str → Option Value} {base : Heap} {dR dS : Addr} {adr : Kind → Addr} {C IP fI : Addr}
abbrev sAll : Stmt := topS 21
theorem scAll : FnScope ["check", "trees", "place", "size", "tree", "inside", "action"] ["check", "trees", "place"] (defScope sAll) := ⟨rfl, rfl, rfl, by decide +kernel, rfl, by decide +kernel, by decide +kernel⟩
theorem many_cons (f : CS → Int → T → R) (S : CS) (d : T) (ds : List T) (p i : Int) : many f S (d :: ds) p i = if S.trees = 3000 then .error [] else match f { S with trees := S.trees + 1 } p d with
      | .error e => .error e
      | .ok (j, S') => if j = 0 then .error (S'.places ++ [p]) else many f S' ds (p + 1) (i + j) := by
  rw [many]
  all_goals
    by_cases c : S.trees = 3000
    · rw [if_pos c, if_pos c]
    · rw [if_neg c, if_neg c]
      cases f { S with trees := S.trees + 1 } p d with
      | error e => rfl
      | ok v => rfl
theorem ims_at {G : Hp} : ∀ {xs : List V} {ts : List T} {i : Nat} {x : V}, Ims K G xs ts → xs[i]? = some x → ∃ t, ts.drop i = t :: ts.drop (i + 1) ∧ Im K G x t
  | _, _, _, _, .nil, e => by simp at e
  | _, _, 0, _, .cons h r, e => by
    simp at e
    subst e
    exact ⟨_, rfl, h⟩
  | _, _, i + 1, _, .cons h r, e => by
    obtain ⟨t, a, b⟩ := ims_at (i := i) r (by simpa using e)
    exact ⟨t, by simpa using a, b⟩
theorem tup_of {H : Hp} {v : V} {t : T} (h : Im K H v t) (e : isTu t = true) : ∃ b ys ds, v = .ref b ∧ t = .tup ds ∧ H b = some (.tup ys) ∧ Ims K H ys ds := by
  cases h with
  | tup a r => exact ⟨_, _, _, rfl, rfl, a, r⟩
  | _ => simp [isTu] at e
/-- what is known between two trees -/
def Pv (C IP : Addr) (F : Foot) (G : Hp) (pl : List Int) (n : Nat) (a : Addr) (ts : List T) (p : Int) (Q : VK) (E : XK) : Nat → L2.St → Hp → Prop := fun i σ H => ∃ S acc v4 v5 v6, σ = [some (V.ref F.c), some (V.ref a), some (V.int (p + i)), some (V.int acc), v4, v5, v6] ∧ Same G H ∧ At C H F S ∧ Ok S ∧ S.places = pl ∧
  Res C IP F G pl (many (one (ins n)) S (ts.drop i) (p + i) acc) Q E
/-- the rest of a turn, when the inner size is known -/
def tTail (K : PySem.W.Frag) (IP : Addr) (E : XK) : TS := tSeq (tIfS (tTest (L2.tOp rEq (tVar 5) (tC (.int 0)))) (fun _ σ H => tTup (StX.tStar K (tFld K (tVar 0) "places") (L2.tCons (tVar 2) L2.tNil)) σ H fun v H1 => ∀ d, H1 d = none → E (.ref IP) (some d) (upd H1 d (.xd [("path", v)]))) tNext)
  (tSeq (tAug 3 (tVar 5) (ipI fun i j => i + j)) (tAug 2 (tC (.int 1)) (ipI fun i j => i + j)))
theorem tail_ok {F : Foot} {G H : Hp} {S : CS} {pl : List Int} {n i : Nat} {a : Addr} {ts : List T} {p acc k : Int} {Q : VK} {E : XK} {D : Ends} {v4 v6 : Option V} (Z : Mc P K mg C IP fI) (few59 : pl.length ≤ 59) (nx : D.nx = Pv C IP F G pl n a ts p Q E (i + 1)) (sm : Same G H) (at0 : At C H F S) (ok : Ok S) (e : S.places = pl)
    (q : Res C IP F G pl (if k = 0 then .error (S.places ++ [p + i]) else many (one (ins n)) S (ts.drop (i + 1)) (p + i + 1) (acc + k)) Q E) : tTail K IP E D [some (V.ref F.c), some (V.ref a), some (V.int (p + i)), some (V.int acc), v4, some (V.int k), v6] H := by
  unfold tTail
  dsimp only [L2.tRet, L2.tRetN, tAndV, tOrV, tNotV, tCB, L2.tCons, L2.tNil, tC, tVar, L2.tOp, L2.tUn, tSeq, tAsg, gName, tIfS, tTest, tNext, tAnd, tOr, tNot, L2.tIf, tFld, sFld, sFldAug, tCall, tTup, tB, tAug, tDrop, L2.tSl, tPart, tNoPart, tBM, tBM0, tChain, gTup, gCons, gNil, tPar, tIs, List.set, StX.tStar]
  refine ⟨_, rfl, rfl, _, rfl, ?_⟩
  by_cases c : k = 0
  · rw [if_pos c] at q
    refine if_yes (decide_eq_true (by rw [c])) ?_
    have sq : SqL K H F.dp (S.places.map V.int) := .inl (.inl at0.dp)
    refine ⟨_, rfl, F.c, C, F.dx, _, _, rfl, at0.c, Z.cl, Z.n6, get_places, F.dp, _, rfl, .inr sq, _, rfl, (by simp [sizeLine_eq, e]; omega), fun r nr d nd => ?_⟩
    refine q _ d r (Ck.Same.new (Ck.Same.new sm nr) nd) upd_same ?_
    rw [upd_ne (ne_of_none upd_same nd), upd_same, List.map_append]
    rfl
  · rw [if_neg c] at q
    refine if_no (decide_eq_false fun z => c (V.int.inj z)) ?_
    refine ⟨_, rfl, _, rfl, _, _, rfl, rfl, _, rfl, _, _, rfl, rfl, ?_⟩
    rw [nx]
    refine ⟨S, acc + k, v4, some (V.int k), v6, ?_, sm, at0, ok, e, ?_⟩
    · show [some (V.ref F.c), some (V.ref a), some (V.int (p + i + 1)), some (V.int (acc + k)), v4, some (V.int k), v6] = _
      have z : p + (i : Int) + 1 = p + ((i + 1 : Nat) : Int) := by omega
      rw [z]
    · have z : p + ((i + 1 : Nat) : Int) = p + (i : Int) + 1 := by omega
      rw [z]
      exact q
theorem ok_all {n j : Nat} {f : Addr} {fd : FuncData} (F0 : Fun K "size_of_all" "size_of_all" sAll f fd) (M : Md K mg w dR dS adr) (Z : Mc P K mg C IP fI) (hj : 1 ≤ j) (A0 : ∀ k, CallD P w K mg base (L2.CX P w) j (adr k) (spAct K C IP n k)) : FnD P w K mg base (L2.CX P w) (j + 1) f fd ["check", "trees", "place"] (spAll K C IP n) := by
  obtain ⟨tt, mt⟩ := M.mt
  obtain ⟨es, en, hD⟩ := M.kS
  refine okXD F0 scAll (fun vs H Q E h => ?_) (fun cdv A outer s H vs Q E hr h => ?_)
  · obtain ⟨_, _, _, _, _, _, _, rfl, _⟩ := h
    rfl
  obtain ⟨F, S, G, a, xs, ts, p, rfl, sm, fr, at0, ok, lv, ga, im, q⟩ := h
  have hu := hu_of hr.low
  have hr1 := hr.low.mono (j := 1) (by decide)
  refine ⟨_, pss_cons (ps_set (i := 3) scAll.nd rfl (.inl rfl) pe_int)
    (pss_cons (ps_for (passes_of rfl) rfl (pi_tup (pv 1)) (pg_name (i := 4) scAll.nd rfl (.inl rfl))
      (pss_cons (ps_if (pt_cmpR op_eq (pe_fld (pv 0) rfl) (pe_glob (v := .int 3000) rfl mt ⟨_, rfl⟩) (nomark _)) (pss_one (ps_raiseE rfl Z.er given_path hr1 (takes_of rfl rfl rfl rfl) (pe_tup pa_nil))) pss_nil)
      (pss_cons (ps_fldaug (pv 0) pe_int in_add)
      (pss_cons (ps_set (i := 5) scAll.nd rfl (.inl rfl) pe_int)
      (pss_cons (ps_if (PW.pt (pw_and (pt_val (pe_is (n := "tuple") M.mi M.mtup (by decide +kernel) rfl rfl (pv 4))) (pw_and (pt_truth (pv 4) (by intro _; rfl)) (pw_and (pt_val (pe_is (n := "str") M.mi M.mstr (by decide +kernel) rfl rfl (pe_ix ix_tup (pv 4) pe_int fun _ _ => rfl)))
          (pw_and1 (pt_cmpR (op_in_kd hD) (pe_ix ix_tup (pv 4) pe_int fun _ _ => rfl) (pe_glob (v := .ref dS) rfl M.gS rfl) (by rfl)))))))
        (pss_cons (ps_set (i := 6) scAll.nd rfl (.inl rfl) (pe_ix ix_kdict (pe_glob (v := .ref dS) rfl M.gS rfl) (pe_ix ix_tup (pv 4) pe_int fun _ _ => rfl) fun _ _ => rfl))
        (pss_one (ps_set (i := 5) scAll.nd rfl (.inl rfl) (pe_callTD (i := 6) (E := E) A0 hr rfl (.inl rfl) (passes_call (takes_of rfl rfl rfl rfl) fun _ _ _ _ z => z) (pa_cons (pv 0) (pa_cons (pv 4) (pa_cons (pv 2) pa_nil))))))) pss_nil)
      (pss_cons (ps_if (pt_cmpR op_eq (pv 5) pe_int (nomark _)) (pss_one (ps_raiseE rfl Z.er given_path hr1 (takes_of rfl rfl rfl rfl) (pe_tup (StX.pa_star (pe_fld (pv 0) rfl) (pa_cons (pv 2) pa_nil))))) pss_nil)
      (pss_cons (ps_aug (i := 3) scAll.nd rfl (.inl rfl) (pv 5) ip_add) (pss_one (ps_aug (i := 2) scAll.nd rfl (.inl rfl) pe_int ip_add)))))))))
    (pss_one (ps_ret (pv 3)))), ?_⟩
  dsimp only [L2.tRet, L2.tRetN, tAndV, tOrV, tNotV, tCB, L2.tCons, L2.tNil, tC, tVar, L2.tOp, L2.tUn, tSeq, tAsg, gName, tIfS, tTest, tNext, tAnd, tOr, tNot, L2.tIf, tFld, sFld, sFldAug, tCall, tTup, tB, tAug, tDrop, L2.tSl, tPart, tNoPart, tBM, tBM0, tChain, gTup, gCons, gNil, tPar, tIs, List.set, iTup, tCallT, StX.tStar]
  rw [all_eq] at q
  refine ⟨_, rfl, a, rfl, ⟨_, sqt (K := K) (sm _ _ ga)⟩, for_tup (K := K) (a := a) (xs := xs) (Pv C IP F G S.places n a ts p Q E) ?h0 ?hl ?hs ?hd⟩
  case h0 =>
    refine ⟨S, 0, none, none, none, by simp [L2.start], sm, at0, ok, rfl, ?_⟩
    show Res C IP F G S.places (many (one (ins n)) S (ts.drop 0) (p + (0 : Nat)) 0) Q E
    simpa using q
  case hl =>
    rintro i σ H' _ ⟨_, _, _, _, _, _, sm1, _⟩
    exact sqt (K := K) (sm1 _ _ ga)
  case hd =>
    rintro σ H' ⟨S1, acc, v4, v5, v6, rfl, sm1, at1, ok1, pl, q1⟩
    refine ⟨_, rfl, ?_⟩
    have e : ts.drop xs.length = [] := by rw [im.len, List.drop_length]
    rw [e] at q1
    exact q1 H' sm1 at1 ok1 pl
  case hs =>
    rintro i x σ H1 hx ⟨S1, acc, v4, v5, v6, rfl, sm1, at1, ok1, pl, q1⟩
    obtain ⟨t, et, it⟩ := ims_at im hx
    rw [et, many_cons] at q1
    refine ⟨_, rfl, F.c, C, F.dx, _, _, rfl, at1.c, Z.cl, Z.n1, get_trees, rfl, _, rfl, ?_⟩
    by_cases tr : S1.trees = 3000
    · rw [if_pos tr] at q1
      refine if_yes (decide_eq_true (by rw [tr])) ⟨by decide, fun r nr d nd => ?_⟩
      refine q1 _ d r (Ck.Same.new (Ck.Same.new sm1 nr) nd) upd_same ?_
      rw [upd_ne (ne_of_none upd_same nd), upd_same]
      rfl
    rw [if_neg tr] at q1
    refine if_no (decide_eq_false fun z => tr (V.int.inj z)) ?_
    have at2 := at1.set (S' := { S1 with trees := S1.trees + 1 }) put_trees rfl rfl rfl rfl
    have sm2 := Ck.Same.up (o := .ins C F.dx (putF "trees" (.int (S1.trees + 1)) (flds F S1))) sm1 fr.c
    have ok2 : Ok1 { S1 with trees := S1.trees + 1 } := ⟨by have := ok1.lo; show 0 ≤ S1.trees + 1; omega, by have := ok1.hi; show S1.trees + 1 ≤ 3000; omega, by have := ok1.cm; show (S1.cmds.length : Int) + 1 ≤ S1.trees + 1; omega, by have := ok1.va; show (S1.vars.length : Int) + 1 ≤ S1.trees + 1; omega⟩
    refine ⟨_, rfl, F.c, C, F.dx, _, _, rfl, at1.c, Z.cl, Z.n1, get_trees, _, _, rfl, rfl, _, _, at1.c, few F S1, ?_⟩
    have len59 : S.places.length ≤ 59 := by omega
    -- no inner size: nothing that the table knows
    have none0 : one (ins n) { S1 with trees := S1.trees + 1 } (p + i) t = .ok (0, { S1 with trees := S1.trees + 1 }) → tTail K IP E { nx := Pv C IP F G S.places n a ts p Q E (i + 1), rt := Q, bk := fun σ H' => tRet (tVar 3) { nx := fun _ H' => Q .non H', rt := Q } σ H', ct := Pv C IP F G S.places n a ts p Q E (i + 1) }
        [some (V.ref F.c), some (V.ref a), some (V.int (p + i)), some (V.int acc), some x, some (V.int 0), v6] (upd H1 F.c (.ins C F.dx (putF "trees" (.int (S1.trees + 1)) (flds F S1)))) := fun e0 => by
      rw [e0] at q1
      exact tail_ok Z len59 rfl sm2 at2 ok2.ok pl q1
    have i2 := it.mono sm2
    dsimp only [L2.tRet, L2.tRetN, tAndV, tOrV, tNotV, tCB, L2.tCons, L2.tNil, tC, tVar, L2.tOp, L2.tUn, tSeq, tAsg, gName, tIfS, tTest, tNext, tAnd, tOr, tNot, L2.tIf, tFld, sFld, sFldAug, tCall, tTup, tB, tAug, tDrop, L2.tSl, tPart, tNoPart, tBM, tBM0, tChain, gTup, gCons, gNil, tPar, tIs, List.set, tCallT, StX.tStar]
    refine ⟨_, rfl, is_tup i2 ⟨_, rfl, ?_⟩⟩
    cases c1 : isTu t with
    | false => exact if_no rfl (if_no rfl (none0 (by cases t <;> first | rfl | simp [isTu] at c1)))
    | true =>
    obtain ⟨b, ys, ds, rfl, rfl, hb, ip⟩ := tup_of it c1
    have hb2 := sqt (K := K) (sm2 _ _ hb)
    refine if_yes rfl ⟨_, rfl, _, .inr (.inl ⟨ys, hb2, rfl⟩), ?_⟩
    cases ip with
    | nil => exact if_no rfl (if_no rfl (none0 rfl))
    | @cons y0 ys d0 ds0 iy ir =>
    refine if_yes rfl ⟨_, rfl, b, _, _, _, rfl, rfl, hb2, atI_nat (j := 0) rfl, is_str (iy.mono sm2) ⟨_, rfl, ?_⟩⟩
    cases c2 : isSt d0 with
    | false => exact if_no rfl (if_no rfl (none0 (by cases d0 <;> first | rfl | simp [isSt] at c2)))
    | true =>
    obtain ⟨z, rfl, rfl⟩ := str_of iy c2
    refine if_yes rfl ⟨_, rfl, b, _, _, _, rfl, rfl, hb2, atI_nat (j := 0) rfl, z, _, rfl, rfl, M.inS z, _, rfl, ?_⟩
    cases kz : kindOf z with
    | none => exact if_no rfl (none0 (by show (match kindOf z with | some k => _ | none => _) = _; rw [kz]))
    | some k =>
    have e1 : one (ins n) { S1 with trees := S1.trees + 1 } (p + i) (.tup (.str z :: ds0)) = act (ins n) k { S1 with trees := S1.trees + 1 } (.str z :: ds0) (p + i) := by
      show (match kindOf z with | some k => _ | none => _) = _
      rw [kz]
    rw [e1] at q1
    refine if_yes rfl ?_
    have kd : KDct K w dS z (.ref (adr k)) := ⟨es, en, .ref (adr k), hD.at_, hD.lit, by rw [M.inS z, kz]; rfl, rfl⟩
    refine ⟨_, rfl, b, _, _, _, rfl, rfl, hb2, atI_nat (j := 0) rfl, dS, z, _, rfl, rfl, kd, k, rfl, _, rfl, _, rfl, _, rfl, F, { S1 with trees := S1.trees + 1 }, G, b, _, _, p + i, rfl, sm2, fr, at2, ok2, (by show S1.places.length + n = 59; rw [pl]; exact lv), hb, .cons iy ir, ?_⟩
    refine res_to (G := G) (pl := S.places) (Q := Q) (fun _ z => z) (fun e r => ?_) (fun m S' r H2 sm3 at3 ok3 pl3 => ?_)
    · rw [r] at q1
      exact q1
    · rw [r] at q1
      exact tail_ok (D := { nx := Pv C IP F G S.places n a ts p Q E (i + 1), rt := Q, bk := fun σ H' => tRet (tVar 3) { nx := fun _ H' => Q .non H', rt := Q } σ H', ct := Pv C IP F G S.places n a ts p Q E (i + 1) }) Z len59 rfl sm3 at3 ok3 (pl3.trans pl) q1

end
end Ck

/-! A program checked. -/
namespace Ck
open PySem PySem.Spec PyProof.Rows L2 PySem.ErrKw
section
variable {P : Program} {w : World} {K : PySem.W.Frag} {mg : Str → Option Value} {base : Heap} {dR dS : Addr} {adr : Kind → Addr} {C IP fI : Addr}
abbrev sInit : Stmt := inClass (topS 17) 0
abbrev sOutline : Stmt := topS 19
abbrev sEntry : Stmt := topS 20
abbrev sChecked : Stmt := topS 18
theorem scInit : FnScope ["self"] ["self"] (defScope sInit) := ⟨rfl, rfl, rfl, by decide +kernel, rfl, by decide +kernel, by decide +kernel⟩
theorem scOutline : FnScope ["program"] ["program"] (defScope sOutline) := ⟨rfl, rfl, rfl, by decide +kernel, rfl, by decide +kernel, by decide +kernel⟩
theorem scEntry : FnScope ["entry", "functions"] ["entry", "functions"] (defScope sEntry) := ⟨rfl, rfl, rfl, by decide +kernel, rfl, by decide +kernel, by decide +kernel⟩
theorem scChecked : FnScope ["program", "functions", "main", "check", "number", "entry", "name", "body"] ["program"] (defScope sChecked) := ⟨rfl, rfl, rfl, by decide +kernel, rfl, by decide +kernel, by decide +kernel⟩
def start0 : CS := ⟨0, [], [], 0, [], [], 0, false⟩
def spInit (C : Addr) : Sp := fun vs H Q _ => ∃ p dx, vs = [.ref p] ∧ H p = some (.ins C dx []) ∧ ∀ F H', Foot.c F = p → (∀ b o, H b = some o → b ≠ p → H' b = some o) → (∀ b o, H b = some o → b ≠ p → F.dc ≠ b ∧ F.dv ≠ b ∧ F.df ≠ b ∧ F.dp ≠ b) → At C H' F start0 → Q .non H'
theorem ok_init {f : Addr} {fd : FuncData} (F0 : Fun K "__init__" "Check.__init__" sInit f fd) (Z : Mc P K mg C IP fI) : FnOk P w K mg base CX0 1 f fd ["self"] (spInit C) := by
  refine F0.ok scInit (fun vs H Q E h => ?_) (fun cdv A outer s H vs Q E hr h => ?_)
  · obtain ⟨p, dx, rfl, _⟩ := h
    rfl
  obtain ⟨p, dx, rfl, hp, q⟩ := h
  refine ⟨_, pss_cons (ps_fld (pv 0) pe_int rfl) (pss_cons (ps_fld (pv 0) pe_dnewK rfl) (pss_cons (ps_fld (pv 0) pe_dnewK rfl) (pss_cons (ps_fld (pv 0) pe_int rfl) (pss_cons (ps_fld (pv 0) pe_dnewK rfl) (pss_cons (ps_fld (pv 0) (pe_lst pa_nil) rfl)
    (pss_cons (ps_fld (pv 0) pe_int rfl) (pss_one (ps_fld (pv 0) pe_bl rfl)))))))), ?_⟩
  dsimp only [L2.tRet, L2.tRetN, tAndV, tOrV, tNotV, tCB, L2.tCons, L2.tNil, tC, tVar, L2.tOp, L2.tUn, tSeq, tAsg, gName, tIfS, tTest, tNext, tAnd, tOr, tNot, L2.tIf, tFld, sFld, sFldAug, tCall, tTup, tB, tAug, tDrop, L2.tSl, tPart, tNoPart, tBM, tBM0, tChain, gTup, gCons, gNil, tPar, tIs, List.set, tDNewK, tLst]
  refine ⟨_, rfl, p, C, dx, [], rfl, hp, Z.cl, Z.n1, (by decide), fun d1 n1 => ?_⟩
  have e1 : ∀ {b : Addr}, (upd H p (.ins C dx (putF "trees" (.int 0) []))) b = none → b ≠ p := fun {b} n z => by rw [z, upd_same] at n; cases n
  have p1 := e1 n1
  refine ⟨_, rfl, p, C, dx, _, rfl, (by rw [upd_ne (Ne.symm p1), upd_same]), Z.cl, Z.n2, Nat.lt_of_sub_eq_succ rfl, fun d2 n2 => ?_⟩
  have p2 : d2 ≠ p := fun z => by rw [z, upd_same] at n2; cases n2
  have d21 : d2 ≠ d1 := fun z => by rw [z, upd_ne p1, upd_same] at n2; cases n2
  refine ⟨_, rfl, p, C, dx, _, rfl, (by rw [upd_ne (Ne.symm p2), upd_same]), Z.cl, Z.n3, Nat.lt_of_sub_eq_succ rfl, ?_⟩
  refine ⟨_, rfl, p, C, dx, _, rfl, upd_same, Z.cl, Z.n4, Nat.lt_of_sub_eq_succ rfl, fun d3 n3 => ?_⟩
  have p3 : d3 ≠ p := fun z => by rw [z, upd_same] at n3; cases n3
  have d32 : d3 ≠ d2 := fun z => by rw [z, upd_ne p2, upd_ne p2, upd_same] at n3; cases n3
  have d31 : d3 ≠ d1 := fun z => by rw [z, upd_ne p1, upd_ne p1, upd_ne (Ne.symm d21), upd_ne p1, upd_same] at n3; cases n3
  refine ⟨_, rfl, p, C, dx, _, rfl, (by rw [upd_ne (Ne.symm p3), upd_same]), Z.cl, Z.n5, Nat.lt_of_sub_eq_succ rfl, (by decide), fun d4 n4 => ?_⟩
  have p4 : d4 ≠ p := fun z => by rw [z, upd_same] at n4; cases n4
  have d43 : d4 ≠ d3 := fun z => by rw [z, upd_ne p3, upd_same] at n4; cases n4
  have d42 : d4 ≠ d2 := fun z => by rw [z, upd_ne p2, upd_ne (Ne.symm d32), upd_ne p2, upd_ne p2, upd_same] at n4; cases n4
  have d41 : d4 ≠ d1 := fun z => by rw [z, upd_ne p1, upd_ne (Ne.symm d31), upd_ne p1, upd_ne p1, upd_ne (Ne.symm d21), upd_ne p1, upd_same] at n4; cases n4
  refine ⟨_, rfl, p, C, dx, _, rfl, (by rw [upd_ne (Ne.symm p4), upd_same]), Z.cl, Z.n6, Nat.lt_of_sub_eq_succ rfl, ?_⟩
  refine ⟨_, rfl, p, C, dx, _, rfl, upd_same, Z.cl, Z.n7, Nat.lt_of_sub_eq_succ rfl, ?_⟩
  refine ⟨_, rfl, p, C, dx, _, rfl, upd_same, Z.cl, Z.n8, Nat.lt_of_sub_eq_succ rfl, ?_⟩
  have old : ∀ b o, H b = some o → b ≠ p → d1 ≠ b ∧ d2 ≠ b ∧ d3 ≠ b ∧ d4 ≠ b := fun b o hb nb => by
    have h1 : (upd H p (.ins C dx (putF "trees" (.int 0) []))) b = some o := by rw [upd_ne nb]; exact hb
    have b1 : d1 ≠ b := Ne.symm (ne_of_none h1 n1)
    have b2 : d2 ≠ b := fun z => by
      subst z
      rw [upd_ne nb, upd_ne (Ne.symm b1), h1] at n2
      cases n2
    have b3 : d3 ≠ b := fun z => by
      subst z
      rw [upd_ne nb, upd_ne nb, upd_ne (Ne.symm b2), upd_ne nb, upd_ne (Ne.symm b1), h1] at n3
      cases n3
    have b4 : d4 ≠ b := fun z => by
      subst z
      rw [upd_ne nb, upd_ne (Ne.symm b3), upd_ne nb, upd_ne nb, upd_ne (Ne.symm b2), upd_ne nb, upd_ne (Ne.symm b1), h1] at n4
      cases n4
    exact ⟨b1, b2, b3, b4⟩
  refine q ⟨p, dx, d1, d2, d3, d4⟩ _ rfl (fun b o hb nb => ?_) old ⟨?_, ?_, ?_, ?_, ?_, Ne.symm d21, Ne.symm d31, Ne.symm d32⟩
  · obtain ⟨b1, b2, b3, b4⟩ := old b o hb nb
    rw [upd_ne nb, upd_ne nb, upd_ne nb, upd_ne (Ne.symm b4), upd_ne nb, upd_ne (Ne.symm b3), upd_ne nb, upd_ne nb, upd_ne (Ne.symm b2), upd_ne nb, upd_ne (Ne.symm b1), upd_ne nb]
    exact hb
  · refine Eq.trans upd_same (congrArg (fun l => some (HO.ins C dx l)) ?_)
    with_unfolding_all rfl
  · show upd _ _ _ d1 = _
    rw [upd_ne p1, upd_ne p1, upd_ne p1, upd_ne (Ne.symm d41), upd_ne p1, upd_ne (Ne.symm d31), upd_ne p1, upd_ne p1, upd_ne (Ne.symm d21), upd_ne p1, upd_same]
    rfl
  · show upd _ _ _ d2 = _
    rw [upd_ne p2, upd_ne p2, upd_ne p2, upd_ne (Ne.symm d42), upd_ne p2, upd_ne (Ne.symm d32), upd_ne p2, upd_ne p2, upd_same]
    rfl
  · show upd _ _ _ d3 = _
    rw [upd_ne p3, upd_ne p3, upd_ne p3, upd_ne (Ne.symm d43), upd_ne p3, upd_same]
    rfl
  · show upd _ _ _ d4 = _
    rw [upd_ne p4, upd_ne p4, upd_ne p4, upd_same]
    rfl
def isOutline : T → Bool
  | .tup [.tup fs, _] => decide (fs.length ≤ 20)
  | _ => false
/-- a whole program in the heap; the tuple of its functions may be one whose object is known -/
def PIm (K : PySem.W.Frag) (H : Hp) (v : V) (t : T) : Prop := Im K H v t ∨ ∃ (a b : Addr) (o : Obj) (mv : V) (xs : List V) (fs : List T) (m : T), v = .ref a ∧ t = .tup [.tup fs, m] ∧ H a = some (.tup [.ref b, mv]) ∧ H b = some (.frz o (.tup xs)) ∧ Ims K H xs fs ∧ Im K H mv m
theorem is_ref_tup {H : Hp} {b : Addr} {xs : List V} {Q : VK} (h : Rd H b (.tup xs)) (q : Q (.bl true) H) : rIsi K [.ref b, .ty "tuple"] H Q := by
  have e : kitB "tuple" "tuple" = some true := by decide +kernel
  rcases h with h | ⟨o, h⟩
  · exact ⟨_, _, _, _, _, rfl, .ty _, .base (.tup h), kit_ty e, q⟩
  · exact ⟨_, _, _, _, _, rfl, .ty _, .fTuple h, kit_ty e, q⟩
theorem rd_same {H H1 : Hp} {b : Addr} {u : HO} (s : Same H H1) (h : Rd H b u) : Rd H1 b u := h.imp (s _ _) fun ⟨o, e⟩ => ⟨o, s _ _ e⟩
def spOutline (K : PySem.W.Frag) : Sp := fun vs H Q _ => ∃ v t, vs = [v] ∧ PIm K H v t ∧ Q (.bl (isOutline t)) H
theorem ok_outline {f : Addr} {fd : FuncData} (F0 : Fun K "is_outline" "is_outline" sOutline f fd) (M : Md K mg w dR dS adr) : FnOk P w K mg base CX0 1 f fd ["program"] (spOutline K) := by
  obtain ⟨tf, mf⟩ := M.mf
  refine F0.ok scOutline (fun vs H Q E h => ?_) (fun cdv A outer s H vs Q E hr h => ?_)
  · obtain ⟨_, _, rfl, _⟩ := h
    rfl
  obtain ⟨v, t, rfl, pim, q⟩ := h
  refine ⟨_, pss_cons (ps_if (PW.pt (pw_or (pt_not (pt_val (pe_is (n := "tuple") M.mi M.mtup (by decide +kernel) rfl rfl (pv 0)))) (pw_or1 (pt_cmpR op_ne (pe_callB call_len_seq rfl M.ml PySem.boot_len (pa_cons (pv 0) pa_nil)) pe_int (nomark _))))) (pss_one (ps_ret pe_bl)) pss_nil)
    (pss_one (ps_ret (pe_and (pe_is (n := "tuple") M.mi M.mtup (by decide +kernel) rfl rfl (pe_ix ix_tup (pv 0) pe_int fun _ _ => rfl)) (pe_one (pe_cmpR op_le (pe_callB call_len_seq rfl M.ml PySem.boot_len (pa_cons (pe_ix ix_tup (pv 0) pe_int fun _ _ => rfl) pa_nil)) (pe_glob (v := .int 20) rfl mf ⟨_, rfl⟩) (nomark _)))))), ?_⟩
  dsimp only [L2.tRet, L2.tRetN, tAndV, tOrV, tNotV, tCB, L2.tCons, L2.tNil, tC, tVar, L2.tOp, L2.tUn, tSeq, tAsg, gName, tIfS, tTest, tNext, tAnd, tOr, tNot, L2.tIf, tFld, sFld, sFldAug, tCall, tTup, tB, tAug, tDrop, L2.tSl, tPart, tNoPart, tBM, tBM0, tChain, gTup, gCons, gNil, tPar, tIs, List.set]
  rcases pim with im | ⟨a, b, o, mv, ys, fs, t1, rfl, rfl, ha, hb, ip, _⟩
  rotate_left
  · refine ⟨_, rfl, is_ref_tup (.inl ha) ⟨_, rfl, if_no rfl ⟨_, rfl, a, _, rfl, .inr (sqt ha), rfl, _, rfl, if_no rfl ⟨_, rfl, a, _, _, _, rfl, rfl, sqt ha, atI_nat (j := 0) rfl, is_ref_tup (.inr ⟨o, hb⟩) ⟨_, rfl, if_yes rfl ⟨_, rfl, a, _, _, _, rfl, rfl, sqt ha, atI_nat (j := 0) rfl, b, ys, rfl, .inr (.inl (.inr ⟨o, hb⟩)), _, _, rfl, rfl, ?_⟩⟩⟩⟩⟩⟩
    have z : isOutline (.tup [.tup fs, t1]) = decide ((ys.length : Int) ≤ 20) := by
      show decide (fs.length ≤ 20) = _
      rw [ip.len]
      exact decide_eq_decide.mpr (by omega)
    rw [z] at q
    exact q
  refine ⟨_, rfl, is_tup im ⟨_, rfl, ?_⟩⟩
  cases c1 : isTu t with
  | false =>
    have z : isOutline t = false := by cases t <;> first | rfl | simp [isTu] at c1
    rw [z] at q
    exact if_yes rfl q
  | true =>
  obtain ⟨a, xs, ts, rfl, rfl, ha, im⟩ := tup_of im c1
  refine if_no rfl ⟨_, rfl, a, xs, rfl, .inr (sqt ha), rfl, _, rfl, ?_⟩
  rcases two im with ⟨x0, x1, t0, t1, rfl, rfl, i0, i1⟩ | ⟨c, nt⟩
  · refine if_no rfl ⟨_, rfl, a, _, _, _, rfl, rfl, sqt ha, atI_nat (j := 0) rfl, is_tup i0 ⟨_, rfl, ?_⟩⟩
    cases c2 : isTu t0 with
    | false =>
      have z : isOutline (.tup [t0, t1]) = false := by cases t0 <;> first | rfl | simp [isTu] at c2
      rw [z] at q
      exact if_no rfl q
    | true =>
    obtain ⟨b, ys, fs, rfl, rfl, hb, ip⟩ := tup_of i0 c2
    refine if_yes rfl ⟨_, rfl, a, _, _, _, rfl, rfl, sqt ha, atI_nat (j := 0) rfl, b, ys, rfl, .inr (sqt hb), _, _, rfl, rfl, ?_⟩
    have z : isOutline (.tup [.tup fs, t1]) = decide ((ys.length : Int) ≤ 20) := by
      show decide (fs.length ≤ 20) = _
      rw [ip.len]
      exact decide_eq_decide.mpr (by omega)
    rw [z] at q
    exact q
  · have z : isOutline (.tup ts) = false := by
      rcases ts with _ | ⟨t0, _ | ⟨t1, _ | ⟨t2, r⟩⟩⟩ <;> first | rfl | exact absurd rfl (nt _ _) | (cases t0 <;> rfl)
    rw [z] at q
    exact if_yes (len_not c) q
def isEntry (fs : List (Str × Int)) : T → Bool
  | .tup [.str z, _] => nameOk z && (fs.lookup z).isNone
  | _ => false
def spEntry (K : PySem.W.Frag) : Sp := fun vs H Q _ => ∃ v t d fs, vs = [v, .ref d] ∧ Im K H v t ∧ H d = some (.dK (ftab fs)) ∧ Q (.bl (isEntry fs t)) H
theorem ok_entry {f : Addr} {fd : FuncData} (F0 : Fun K "is_entry" "is_entry" sEntry f fd) (M : Md K mg w dR dS adr) (GN : GN P w K mg base) : FnOk P w K mg base CX0 2 f fd ["entry", "functions"] (spEntry K) := by
  refine F0.ok scEntry (fun vs H Q E h => ?_) (fun cdv A outer s H vs Q E hr h => ?_)
  · obtain ⟨_, _, _, _, rfl, _⟩ := h
    rfl
  obtain ⟨v, t, d, fs, rfl, im, hd, q⟩ := h
  have hu := hu_of hr
  refine ⟨_, pss_cons (ps_if (PW.pt (pw_or (pt_not (pt_val (pe_is (n := "tuple") M.mi M.mtup (by decide +kernel) rfl rfl (pv 0)))) (pw_or1 (pt_cmpR op_ne (pe_callB call_len_seq rfl M.ml PySem.boot_len (pa_cons (pv 0) pa_nil)) pe_int (nomark _))))) (pss_one (ps_ret pe_bl)) pss_nil)
    (pss_one (ps_ret (pe_and (pe_go GN hr pass0 rfl (pa_cons (pe_ix ix_tup (pv 0) pe_int fun _ _ => rfl) pa_nil)) (pe_one (pe_cmp (pc_dnotin hu (pe_ix ix_tup (pv 0) pe_int fun _ _ => rfl) (pv 1)) (by rfl)))))), ?_⟩
  dsimp only [L2.tRet, L2.tRetN, tAndV, tOrV, tNotV, tCB, L2.tCons, L2.tNil, tC, tVar, L2.tOp, L2.tUn, tSeq, tAsg, gName, tIfS, tTest, tNext, tAnd, tOr, tNot, L2.tIf, tFld, sFld, sFldAug, tCall, tTup, tB, tAug, tDrop, L2.tSl, tPart, tNoPart, tBM, tBM0, tChain, gTup, gCons, gNil, tPar, tIs, List.set, tDNotIn]
  refine ⟨_, rfl, is_tup im ⟨_, rfl, ?_⟩⟩
  cases c1 : isTu t with
  | false =>
    have z : isEntry fs t = false := by cases t <;> first | rfl | simp [isTu] at c1
    rw [z] at q
    exact if_yes rfl q
  | true =>
  obtain ⟨a, xs, ts, rfl, rfl, ha, im⟩ := tup_of im c1
  refine if_no rfl ⟨_, rfl, a, xs, rfl, .inr (sqt ha), rfl, _, rfl, ?_⟩
  rcases two im with ⟨x0, x1, t0, t1, rfl, rfl, i0, i1⟩ | ⟨c, nt⟩
  · refine if_no rfl ⟨_, rfl, a, _, _, _, rfl, rfl, sqt ha, atI_nat (j := 0) rfl, x0, t0, rfl, i0, _, rfl, ?_⟩
    cases c2 : isSt t0 with
    | false =>
      have z : isEntry fs (.tup [t0, t1]) = false := by cases t0 <;> first | rfl | simp [isSt] at c2
      have y : isName t0 = false := by cases t0 <;> first | rfl | simp [isSt] at c2
      rw [z] at q
      rw [y]
      exact if_no rfl q
    | true =>
    obtain ⟨z, rfl, rfl⟩ := str_of i0 c2
    have qq : Q (.bl (nameOk z && (fs.lookup z).isNone)) H := q
    show if nameOk z = true then _ else _
    cases m : nameOk z with
    | false =>
      rw [m, Bool.false_and] at qq
      exact if_no rfl qq
    | true =>
      rw [m, Bool.true_and] at qq
      have g : DGet H d (.str z) (valV (ftab fs) (.inr z)) := DGet.k (k := Sum.inr z) hd
      refine if_yes rfl ⟨_, rfl, a, _, _, _, rfl, rfl, sqt ha, atI_nat (j := 0) rfl, _, rfl, d, _, rfl, g, ?_⟩
      rw [valV_ftab]
      have y : (!((fs.lookup z).map V.int).isSome) = (fs.lookup z).isNone := by cases fs.lookup z <;> rfl
      rw [y]
      exact qq
  · have z : isEntry fs (.tup ts) = false := by
      rcases ts with _ | ⟨t0, _ | ⟨t1, _ | ⟨t2, r⟩⟩⟩ <;> first | rfl | exact absurd rfl (nt _ _) | (cases t0 <;> rfl)
    rw [z] at q
    exact if_yes (len_not c) q
end
end Ck

/-! What the check leaves as it was. -/
namespace Ck
open PySem L2
theorem inc_ok {r : R} {i : Int} {S : CS} (h : inc r = .ok (i, S)) : ∃ j, r = .ok (j, S) := by
  cases r with
  | error e => cases h
  | ok v =>
    obtain ⟨j, S'⟩ := v
    cases h
    exact ⟨_, rfl⟩
theorem timed_ok {r : R} {n i : Int} {S : CS} (h : timed n r = .ok (i, S)) : ∃ j, r = .ok (j, S) := by
  cases r with
  | error e => cases h
  | ok v =>
    obtain ⟨j, S'⟩ := v
    cases h
    exact ⟨_, rfl⟩
theorem behind_ok {r : R} {f : CS → CS} {i : Int} {S : CS} (h : behind f r = .ok (i, S)) : ∃ S', r = .ok (i, S') ∧ S = f S' := by
  cases r with
  | error e => cases h
  | ok v =>
    obtain ⟨j, S'⟩ := v
    cases h
    exact ⟨_, rfl, rfl⟩
/-- the functions stay -/
def Stays (f : CS → List T → Int → R) : Prop := ∀ S ps p i S', f S ps p = .ok (i, S') → S'.fns = S.fns
section
variable {inside : CS → List T → Int → R}
theorem bar_fns (hi : Stays inside) : Stays (barrier inside) := fun S ps p i S' h => by
  obtain ⟨S1, h1, rfl⟩ := behind_ok h
  have z := hi _ _ _ _ _ h1
  exact z
theorem loop_fns (hi : Stays inside) : Stays (looped inside) := fun S ps p i S' h => by
  obtain ⟨S1, h1, rfl⟩ := behind_ok h
  have z := hi _ _ _ _ _ h1
  exact z
theorem act_fns (hi : Stays inside) (k : Kind) (S : CS) (ds : List T) (p i : Int) (S' : CS) (h : act inside k S ds p = .ok (i, S')) : S'.fns = S.fns := by
  have hb := bar_fns hi
  have hl := loop_fns hi
  cases k <;> simp only [act, named, varied] at h <;> (repeat' split at h) <;>
    first
    | (cases h; rfl)
    | (obtain ⟨j, h⟩ := inc_ok h; first | exact hi _ _ _ _ _ h | exact hb _ _ _ _ _ h | exact hl _ _ _ _ _ h)
    | (obtain ⟨j, h⟩ := timed_ok h; exact hl _ _ _ _ _ h)
theorem one_fns (hi : Stays inside) (S : CS) (p : Int) (t : T) (i : Int) (S' : CS) (h : one inside S p t = .ok (i, S')) : S'.fns = S.fns := by
  unfold one at h
  split at h
  · split at h
    · exact act_fns hi _ _ _ _ _ _ h
    · cases h; rfl
  · cases h; rfl
end
theorem many_fns {f : CS → Int → T → R} (hf : ∀ S p t i S', f S p t = .ok (i, S') → S'.fns = S.fns) : ∀ (ts : List T) (S : CS) (p j i : Int) (S' : CS), many f S ts p j = .ok (i, S') → S'.fns = S.fns
  | [], S, p, j, i, S', h => by
    rw [many] at h
    cases h
    rfl
  | t :: ts, S, p, j, i, S', h => by
    rw [many] at h
    split at h
    · cases h
    · split at h
      · cases h
      · rename_i j1 S1 e1
        split at h
        · cases h
        · rw [many_fns hf ts _ _ _ _ _ h, hf _ _ _ _ _ e1]
theorem into_fns {g : CS → List T → Int → Int → R} (hg : ∀ S ts p j i S', g S ts p j = .ok (i, S') → S'.fns = S.fns) : Stays (into g) := fun S ps p i S' h => by
  unfold into at h
  split at h
  · cases h
  · obtain ⟨S1, h1, rfl⟩ := behind_ok h
    have z := hg _ _ _ _ _ _ h1
    exact z
theorem all_fns : ∀ (n : Nat) (S : CS) (ts : List T) (p j i : Int) (S' : CS), all n S ts p j = .ok (i, S') → S'.fns = S.fns
  | 0, S, ts, p, j, i, S', h => many_fns (one_fns (into_fns fun _ _ _ _ _ _ z => by cases z)) ts S p j i S' h
  | n + 1, S, ts, p, j, i, S', h => many_fns (one_fns (into_fns (all_fns n))) ts S p j i S' h
/-! ### the entries -/
def finish (m : T) : Except (List Int) CS → Except (List Int) CS
  | .error e => .error e
  | .ok S => match all 59 { S with rets := false } [m] (-1) 0 with
    | .error e => .error e
    | .ok (i, S') => if 40 < S'.vars.length ∨ 3000 < i then .error [] else .ok { S' with unf := i }
theorem check_tup (fs : List T) (m : T) : check (.tup [.tup fs, m]) = if fs.length ≤ 20 then finish m (entries start fs 0) else .error [] := by
  show (if fs.length ≤ 20 then _ else _) = _
  split
  · cases entries start fs 0 <;> rfl
  · rfl
theorem entries_nil (S : CS) (k : Int) : entries S [] k = .ok S := by rw [entries]
theorem entries_yes {S : CS} {z : Str} {b : T} {es : List T} {k : Int} (h : nameOk z = true) (l : S.fns.lookup z = none) : entries S (.tup [.str z, b] :: es) k = match all 59 S [b] k 0 with
    | .error e => .error e
    | .ok (i, S') => entries { S' with fns := S'.fns ++ [(z, if 3001 < i then 3001 else i)] } es (k + 1) := by
  rw [entries]
  rw [if_pos ⟨h, l⟩]
  all_goals
    cases all 59 S [b] k 0 with
    | error e => rfl
    | ok v => rfl
end Ck

/-! All defs of the check together; a program checked. -/
namespace Ck
open PySem PySem.Spec PyProof.Rows L2 PySem.ErrKw
/-- a def of the module -/
structure Def (K : PySem.W.Frag) (mg : Str → Option Value) (x : Str) (st : Stmt) (ps : List Str) : Prop where
  ex : ∃ f fd, Fun K x x st f fd ∧ mg x = some (.ref f) ∧ PySem.W.keepIn K (.ref f) = true ∧ Binds K fd ps []
def fnName : Kind → Str
  | .run => "size_of_run"
  | .status => "size_of_status"
  | .var => "size_with_variable"
  | .put => "size_of_put"
  | .option => "size_of_option"
  | .trap => "size_of_trap"
  | .seq => "size_of_seq"
  | .pipe => "size_of_pipe"
  | .andor => "size_of_and_or"
  | .not => "size_of_not"
  | .sub => "size_of_sub"
  | .ife => "size_of_if"
  | .whl => "size_of_while"
  | .times => "size_of_times"
  | .jump => "size_of_jump"
  | .call => "size_of_call"
  | .ret => "size_of_return"
  | .exit => "size_of_exit"
section
variable {P : Program} {w : World} {K : PySem.W.Frag} {mg : Str → Option Value} {base : Heap} {dR dS : Addr} {adr : Kind → Addr} {C IP fI : Addr}
theorem Def.go {CX : CXT} {x : Str} {st : Stmt} {ps : List Str} {sp : Sp} {n : Nat} (D : Def K mg x st ps) (h : ∀ f fd, Fun K x x st f fd → FnOk P w K mg base CX n f fd ps sp) : Go P w K mg base CX n x ps sp := by
  obtain ⟨f, fd, F, g, k, b⟩ := D.ex
  exact ⟨f, fd, h f fd F, g, k, b⟩
theorem Def.goD {CX : CXT} {x : Str} {st : Stmt} {ps : List Str} {sp : Sp} {n : Nat} (D : Def K mg x st ps) (h : ∀ f fd, Fun K x x st f fd → FnD P w K mg base CX n f fd ps sp) : GoD P w K mg base CX n x ps sp := by
  obtain ⟨f, fd, F, g, k, b⟩ := D.ex
  exact ⟨f, fd, h f fd F, g, k, b⟩
theorem Def.callD {CX : CXT} {x : Str} {st : Stmt} {ps : List Str} {sp : Sp} {n : Nat} {u : Addr} (D : Def K mg x st ps) (e : mg x = some (.ref u)) (h : ∀ f fd, Fun K x x st f fd → FnD P w K mg base CX n f fd ps sp) : CallD P w K mg base CX n u sp := by
  obtain ⟨f, fd, F, g, k, b⟩ := D.ex
  have z := g.symm.trans e
  cases z
  exact ⟨fd, ps, h _ fd F, k, b⟩
abbrev PP : List Str := ["check", "tree", "place"]
structure Defs (K : PySem.W.Frag) (mg : Str → Option Value) (C fN : Addr) (adr : Kind → Addr) : Prop where
  isInt : Def K mg "is_integer" sIsInt ["value"]
  isWithin : Def K mg "is_integer_within" sIsWithin ["value", "least", "most"]
  isName : Def K mg "is_name" sIsName ["value"]
  isNew : Def K mg "is_new_name" sIsNew ["names", "value"]
  hasParts : Def K mg "has_parts" sHasParts ["tree"]
  outline : Def K mg "is_outline" sOutline ["program"]
  entry : Def K mg "is_entry" sEntry ["entry", "functions"]
  checked : Def K mg "checked" sChecked ["program"]
  all : Def K mg "size_of_all" sAll ["check", "trees", "place"]
  into : Def K mg "size_inside" sInto ["check", "parts", "place"]
  bar : Def K mg "size_behind_barrier" sBar ["check", "parts", "place"]
  run : Def K mg "size_of_run" sRun PP
  status : Def K mg "size_of_status" sSta PP
  var : Def K mg "size_with_variable" sVar PP
  put : Def K mg "size_of_put" sPut PP
  option : Def K mg "size_of_option" sOpt PP
  trap : Def K mg "size_of_trap" sTra PP
  seq : Def K mg "size_of_seq" sSeq PP
  pipe : Def K mg "size_of_pipe" sPip PP
  andor : Def K mg "size_of_and_or" sAnd PP
  not : Def K mg "size_of_not" sNot PP
  sub : Def K mg "size_of_sub" sSub PP
  ife : Def K mg "size_of_if" sIff PP
  whl : Def K mg "size_of_while" sWhi PP
  times : Def K mg "size_of_times" sTim PP
  jump : Def K mg "size_of_jump" sJmp PP
  call : Def K mg "size_of_call" sCal PP
  ret : Def K mg "size_of_return" sRet PP
  exit : Def K mg "size_of_exit" sExi PP
  table : ∀ k, mg (fnName k) = some (.ref (adr k))
  init : ∃ fd, Fun K "__init__" "Check.__init__" sInit fN fd ∧ Binds K fd ["self"] []
  mkk : Mk K C fN
  gC : mg "Check" = some (.ref C)
theorem gW (D : Defs K mg C fN adr) (M : Md K mg w dR dS adr) : GW P w K mg base := D.isWithin.go fun _ _ F => ok_isWithin F M
theorem gI (D : Defs K mg C fN adr) (M : Md K mg w dR dS adr) : GI P w K mg base := D.isInt.go fun _ _ F => ok_isInt F M
theorem gN (D : Defs K mg C fN adr) (M : Md K mg w dR dS adr) : GN P w K mg base := D.isName.go fun _ _ F => ok_isName F M
theorem gNew (D : Defs K mg C fN adr) (M : Md K mg w dR dS adr) : GNew P w K mg base := D.isNew.go fun _ _ F => ok_isNew F M (gN D M)
theorem gHp (D : Defs K mg C fN adr) (M : Md K mg w dR dS adr) : GHp P w K mg base := D.hasParts.go fun _ _ F => ok_hp F M
theorem gBar {n j : Nat} (D : Defs K mg C fN adr) (M : Md K mg w dR dS adr) (Z : Mc P K mg C IP fI) (G : GInto P w K mg base C IP n j) : GBar P w K mg base C IP n (j + 1) := D.bar.goD fun _ _ F => ok_bar F M Z G
theorem acts {n j : Nat} (D : Defs K mg C fN adr) (M : Md K mg w dR dS adr) (Z : Mc P K mg C IP fI) (hj : 2 ≤ j) (G : GInto P w K mg base C IP n j) (k : Kind) : CallD P w K mg base (L2.CX P w) (j + 2) (adr k) (spAct K C IP n k) := by
  have W : GW P w K mg base := gW D M
  have N : GNew P w K mg base := gNew D M
  have B : GBar P w K mg base C IP n (j + 1) := gBar D M Z G
  have Hp : GHp P w K mg base := gHp D M
  have X : GX P w K mg base C IP n 3 "size_of_exit" .exit := D.exit.go fun _ _ F => ok_Exi F M Z W
  have j1 : 1 ≤ j := by omega
  cases k with
  | run => exact D.run.callD (D.table .run) fun _ _ F => .of (ok_Run F M Z N) (by decide)
  | status => exact D.status.callD (D.table .status) fun _ _ F => .of (ok_Sta F M Z W) (by decide)
  | var => exact D.var.callD (D.table .var) fun _ _ F => .of (ok_Var F M Z N) (by decide)
  | put => exact D.put.callD (D.table .put) fun _ _ F => .of (ok_Put F M Z N W) (by decide)
  | option => exact D.option.callD (D.table .option) fun _ _ F => .of (ok_Opt F M Z) (by decide)
  | trap => exact D.trap.callD (D.table .trap) fun _ _ F => ok_Tra F M Z B
  | seq => exact D.seq.callD (D.table .seq) fun _ _ F => (ok_Seq F M Z j1 Hp G).mono (by omega)
  | pipe => exact D.pipe.callD (D.table .pipe) fun _ _ F => ok_Pip F M Z (by omega) Hp B
  | andor => exact D.andor.callD (D.table .andor) fun _ _ F => (ok_And F M Z j1 G).mono (by omega)
  | not => exact D.not.callD (D.table .not) fun _ _ F => (ok_Not F M Z j1 G).mono (by omega)
  | sub => exact D.sub.callD (D.table .sub) fun _ _ F => ok_Sub F M Z (by omega) B
  | ife => exact D.ife.callD (D.table .ife) fun _ _ F => (ok_Iff F M Z G).mono (by omega)
  | whl => exact D.whl.callD (D.table .whl) fun _ _ F => (ok_Whi F M Z G).mono (by omega)
  | times => exact D.times.callD (D.table .times) fun _ _ F => (ok_Tim F M Z j1 W G).mono (by omega)
  | jump => exact D.jump.callD (D.table .jump) fun _ _ F => .of (ok_Jmp F M Z (gI D M)) (by decide)
  | call => exact D.call.callD (D.table .call) fun _ _ F => .of (ok_Cal F M Z) (by decide)
  | ret => exact D.ret.callD (D.table .ret) fun _ _ F => .of (ok_Ret F M Z X) (by decide)
  | exit => exact D.exit.callD (D.table .exit) fun _ _ F => .of (ok_Exi F M Z W) (by decide)
theorem gAll_of {n j : Nat} (D : Defs K mg C fN adr) (M : Md K mg w dR dS adr) (Z : Mc P K mg C IP fI) (hj : 2 ≤ j) (G : GInto P w K mg base C IP n j) : GAll P w K mg base C IP n (j + 3) := D.all.goD fun _ _ F => ok_all F M Z (by omega) (acts D M Z hj G)
theorem gInto (D : Defs K mg C fN adr) (M : Md K mg w dR dS adr) (Z : Mc P K mg C IP fI) : ∀ n : Nat, GInto P w K mg base C IP n (4 * n + 2)
  | 0 => D.into.goD fun _ _ F => ok_into (j := 1) F M Z (Nat.le_refl _) fun h => absurd rfl h
  | n + 1 => D.into.goD fun _ _ F => ok_into (n := n + 1) (j := 4 * n + 2 + 3) F M Z (by omega) fun _ => gAll_of D M Z (by omega) (gInto D M Z n)
theorem gAll (D : Defs K mg C fN adr) (M : Md K mg w dR dS adr) (Z : Mc P K mg C IP fI) (n : Nat) : GAll P w K mg base C IP n (4 * n + 5) := gAll_of D M Z (by omega) (gInto D M Z n)
/-! ### checked -/
def ResC (C IP : Addr) (G : Hp) (r : Except (List Int) CS) (Q : VK) (E : XK) : Prop := match r with
  | .ok S => ∀ H' F, Same G H' → At C H' F S → Q (.ref (Foot.c F)) H'
  | .error path => ∀ H' d p, Same G H' → H' d = some (.xd [("path", .ref p)]) → H' p = some (.tup (path.map V.int)) → E (.ref IP) (some d) H'
def spChecked (K : PySem.W.Frag) (C IP : Addr) : Sp := fun vs H Q E => ∃ v t, vs = [v] ∧ PIm K H v t ∧ ResC C IP H (check t) Q E
/-- between two entries -/
def Pe (K : PySem.W.Frag) (C IP : Addr) (F : Foot) (G : Hp) (v a m : V) (mt : T) (es : List T) (Q : VK) (E : XK) : Nat → L2.St → Hp → Prop := fun i σ H => ∃ S v5 v6 v7, σ = [some v, some a, some m, some (V.ref F.c), some (V.int i), v5, v6, v7] ∧ Same G H ∧ At C H F S ∧ Ok S ∧ S.places = [] ∧ S.fns.length ≤ i ∧
  ResC C IP G (finish mt (entries S (es.drop i) i)) Q E
theorem raise_ok {G H : Hp} {path : List Int} {Q : VK} {E : XK} (q : ResC C IP G (.error path) Q E) (sm : Same G H) (r : Addr) (nr : H r = none) (d : Addr) (nd : (upd H r (.tup (path.map V.int))) d = none) : E (.ref IP) (some d) (upd (upd H r (.tup (path.map V.int))) d (.xd [("path", .ref r)])) := by
  refine q _ d r (Ck.Same.new (Ck.Same.new sm nr) nd) upd_same ?_
  rw [upd_ne (ne_of_none upd_same nd), upd_same]
theorem putK_ftab {z : Str} {fs : List (Str × Int)} {i : Int} (h : fs.lookup z = none) : putK (ftab fs) (.inr z) (.int i) = ftab (fs ++ [(z, i)]) := by
  unfold putK
  have e : ((ftab fs).any fun kv => decide (kv.1 = (Sum.inr z : Key))) = false := by
    rw [valV_any, valV_ftab, h]
    rfl
  rw [e, if_neg Bool.false_ne_true]
  simp [ftab]
theorem entries_no {S : CS} {e : T} {es : List T} {k : Int} (h : isEntry S.fns e = false) : entries S (e :: es) k = .error [k] := by
  have out : (∀ a b, e = .tup [a, b] → False) → entries S (e :: es) k = .error [k] := fun n => by
    rw [entries]
    intro a b z
    exact n a b z
  cases e with
  | tup ts =>
    rcases ts with _ | ⟨a, _ | ⟨b, _ | ⟨c, r⟩⟩⟩
    · exact out fun _ _ z => by cases z
    · exact out fun _ _ z => by cases z
    · cases a with
      | str z =>
        rw [entries]
        have h2 : (nameOk z && (S.fns.lookup z).isNone) = false := h
        rw [if_neg]
        rintro ⟨h3, h4⟩
        rw [h3, h4] at h2
        cases h2
      | _ =>
        rw [entries]
        intro z y
        cases y
    · exact out fun _ _ z => by cases z
  | _ => exact out fun _ _ z => by cases z
theorem entry_yes {fs : List (Str × Int)} {H : Hp} {v : V} {e : T} (im : Im K H v e) (h : isEntry fs e = true) : ∃ a z b y, v = .ref a ∧ e = .tup [.str z, b] ∧ H a = some (.tup [.str z, y]) ∧ Im K H y b ∧ nameOk z = true ∧ fs.lookup z = none := by
  cases im with
  | @tup a xs ts ha ip =>
    rcases two ip with ⟨x0, x1, t0, t1, rfl, rfl, i0, i1⟩ | ⟨c, nt⟩
    · cases i0 with
      | str hz =>
        have h2 : (nameOk _ && (fs.lookup _).isNone) = true := h
        rw [Bool.and_eq_true] at h2
        exact ⟨_, _, _, _, rfl, rfl, ha, i1, h2.1, Option.isNone_iff_eq_none.mp h2.2⟩
      | _ => simp [isEntry] at h
    · exfalso
      rcases ts with _ | ⟨t0, _ | ⟨t1, _ | ⟨t2, r⟩⟩⟩ <;> first | (simp [isEntry] at h; done) | exact absurd rfl (nt _ _) | (cases t0 <;> simp [isEntry] at h)
  | _ => simp [isEntry] at h
theorem ok_checked {fN f : Addr} {fd : FuncData} (F0 : Fun K "checked" "checked" sChecked f fd) (D : Defs K mg C fN adr) (M : Md K mg w dR dS adr) (Z : Mc P K mg C IP fI) : FnD P w K mg base (L2.CX P w) 242 f fd ["program"] (spChecked K C IP) := by
  have GA : GAll P w K mg base C IP 59 241 := gAll D M Z 59
  have GO : Go P w K mg base CX0 1 "is_outline" ["program"] (spOutline K) := D.outline.go fun _ _ F => ok_outline F M
  have GE : Go P w K mg base CX0 2 "is_entry" ["entry", "functions"] (spEntry K) := D.entry.go fun _ _ F => ok_entry F M (gN D M)
  obtain ⟨fdI, FI, bI⟩ := D.init
  have GM : FnOk P w K mg base CX0 1 fN fdI ["self"] (spInit C) := ok_init FI Z
  obtain ⟨tv, mv⟩ := M.mv
  obtain ⟨tu, mu⟩ := M.mu
  refine okXD F0 scChecked (fun vs H Q E h => ?_) (fun cdv A outer s H vs Q E hr h => ?_)
  · obtain ⟨_, _, rfl, _⟩ := h
    rfl
  obtain ⟨v, t, rfl, im, q⟩ := h
  have hu := hu_of hr.low
  have hr1 := hr.low.mono (j := 1) (by decide)
  have hr2 := hr.low.mono (j := 2) (by decide)
  refine ⟨_, pss_cons (ps_if (pt_not (pt_val (pe_go GO hr1 pass0 rfl (pa_cons (pv 0) pa_nil)))) (pss_one (ps_raiseE rfl Z.er given_path hr1 (takes_of rfl rfl rfl rfl) (pe_tup pa_nil))) pss_nil)
    (pss_cons (ps_asg (pv 0) (pg_tup (by rfl) (pgs_cons (pg_name (i := 1) scChecked.nd rfl (.inl rfl)) (pgs_cons (pg_name (i := 2) scChecked.nd rfl (.inl rfl)) pgs_nil))))
    (pss_cons (ps_set (i := 3) scChecked.nd rfl (.inl rfl) (pe_make0 (E := E) D.mkk GM hr2 rfl D.gC bI .nil pass0))
    (pss_cons (ps_fld (pv 3) pe_bl rfl)
    (pss_cons (ps_set (i := 4) scChecked.nd rfl (.inl rfl) pe_int)
    (pss_cons (ps_for (passes_of rfl) rfl (pi_tup (pv 1)) (pg_name (i := 5) scChecked.nd rfl (.inl rfl))
      (pss_cons (ps_if (pt_not (pt_val (pe_go GE hr2 pass0 rfl (pa_cons (pv 5) (pa_cons (pe_fld (pv 3) rfl) pa_nil))))) (pss_one (ps_raiseE rfl Z.er given_path hr1 (takes_of rfl rfl rfl rfl) (pe_tup (pa_cons (pv 4) pa_nil)))) pss_nil)
      (pss_cons (ps_asg (pv 5) (pg_tup (by rfl) (pgs_cons (pg_name (i := 6) scChecked.nd rfl (.inl rfl)) (pgs_cons (pg_name (i := 7) scChecked.nd rfl (.inl rfl)) pgs_nil))))
      (pss_cons (ps_dput hu (pe_fld (pv 3) rfl) (pv 6) (pe_callB (call_min2 rfl) rfl M.mm (by decide +kernel) (pa_cons (pe_goD (E := E) GA hr (passes_call (takes_of rfl rfl rfl rfl) fun _ _ _ _ z => z) rfl (pa_cons (pv 3) (pa_cons (pe_tup (pa_cons (pv 7) pa_nil)) (pa_cons (pv 4) pa_nil))))
          (pa_cons (pe_op op_add (pe_glob (v := .int 3000) rfl mu ⟨_, rfl⟩) pe_int) pa_nil))) rfl)
      (pss_one (ps_aug (i := 4) scChecked.nd rfl (.inl rfl) pe_int ip_add))))))
    (pss_cons (ps_fld (pv 3) pe_bl rfl)
    (pss_cons (ps_fld (pv 3) (pe_goD (E := E) GA hr (passes_call (takes_of rfl rfl rfl rfl) fun _ _ _ _ z => z) rfl (pa_cons (pv 3) (pa_cons (pe_tup (pa_cons (pv 2) pa_nil)) (pa_cons (pe_un un_neg pe_int) pa_nil)))) rfl)
    (pss_cons (ps_if (PW.pt (pw_or (pt_cmpR op_gt (pe_callB call_lenD rfl M.ml PySem.boot_len (pa_cons (pe_fld (pv 3) rfl) pa_nil)) (pe_glob (v := .int 40) rfl mv ⟨_, rfl⟩) (nomark _)) (pw_or1 (pt_cmpR op_gt (pe_fld (pv 3) rfl) (pe_glob (v := .int 3000) rfl mu ⟨_, rfl⟩) (nomark _))))) (pss_one (ps_raiseE rfl Z.er given_path hr1 (takes_of rfl rfl rfl rfl) (pe_tup pa_nil))) pss_nil)
    (pss_one (ps_ret (pv 3))))))))))), ?_⟩
  dsimp only [L2.tRet, L2.tRetN, tAndV, tOrV, tNotV, tCB, L2.tCons, L2.tNil, tC, tVar, L2.tOp, L2.tUn, tSeq, tAsg, gName, tIfS, tTest, tNext, tAnd, tOr, tNot, L2.tIf, tFld, sFld, sFldAug, tCall, tTup, tB, tAug, tDrop, L2.tSl, tPart, tNoPart, tBM, tBM0, tChain, gTup, gCons, gNil, tPar, tIs, List.set, iTup, sDPut, tMake]
  refine ⟨_, rfl, v, t, rfl, im, _, rfl, ?_⟩
  cases co : isOutline t with
  | false =>
    have e : check t = .error [] := by
      rcases t with _ | b | i | z | ts | o
      · rfl
      · rfl
      · rfl
      · rfl
      · rcases ts with _ | ⟨t0, _ | ⟨t1, _ | ⟨t2, r⟩⟩⟩
        · rfl
        · cases t0 <;> rfl
        · cases t0 with
          | tup fs =>
            rw [check_tup, if_neg (of_decide_eq_false co)]
          | _ => rfl
        · cases t0 <;> rfl
      · rfl
    rw [e] at q
    exact if_yes rfl ⟨by decide, fun r nr d nd => raise_ok q (fun _ _ z => z) r nr d nd⟩
  | true =>
  refine if_no rfl ?_
  obtain ⟨a, b, x1, ys, fs, m, rfl, rfl, ha, hb, ifs, imm, few20⟩ : ∃ a b x1 ys fs m, v = .ref a ∧ t = .tup [.tup fs, m] ∧ H a = some (.tup [.ref b, x1]) ∧ Rd H b (.tup ys) ∧ Ims K H ys fs ∧ Im K H x1 m ∧ fs.length ≤ 20 := by
    rcases im with im | ⟨a, b, o, mv, ys, fs, t1, rfl, rfl, ha, hb, ip, im1⟩
    rotate_left
    · exact ⟨_, _, _, _, _, _, rfl, rfl, ha, .inr ⟨o, hb⟩, ip, im1, of_decide_eq_true co⟩
    cases im with
    | @tup a xs ts ha ip =>
      rcases two ip with ⟨x0, x1, t0, t1, rfl, rfl, i0, i1⟩ | ⟨c, nt⟩
      · cases i0 with
        | tup hb ib => exact ⟨_, _, _, _, _, _, rfl, rfl, ha, .inl hb, ib, i1, of_decide_eq_true co⟩
        | _ => simp [isOutline] at co
      · exfalso
        rcases ts with _ | ⟨t0, _ | ⟨t1, _ | ⟨t2, r⟩⟩⟩ <;> first | (simp [isOutline] at co; done) | exact absurd rfl (nt _ _) | (cases t0 <;> simp [isOutline] at co)
    | _ => simp [isOutline] at co
  rw [check_tup, if_pos few20] at q
  refine ⟨_, rfl, a, _, rfl, sqt ha, rfl, _, _, rfl, _, _, rfl, rfl, fun x dx nx ndx nxd => ?_⟩
  refine ⟨x, dx, rfl, upd_same, fun F H1 eF keep new at1 => ⟨rfl, ?_⟩⟩
  subst eF
  have sm1 : Same H H1 := fun b o z => keep b o (by rw [upd_ne (ne_of_none z nx), upd_ne (ne_of_none z ndx)]; exact z) (ne_of_none z nx)
  have fr : Free F H := by
    have n : ∀ {p : Addr}, (∀ b o, (upd (upd H dx (.own F.c)) F.c (.ins C dx [])) b = some o → b ≠ F.c → p ≠ b) → H p = none := fun {p} h => by
      cases e : H p with
      | none => rfl
      | some o => exact absurd rfl (h p o (by rw [upd_ne (ne_of_none e nx), upd_ne (ne_of_none e ndx)]; exact e) (ne_of_none e nx))
    exact ⟨nx, n fun b o z y => (new b o z y).1, n fun b o z y => (new b o z y).2.1, n fun b o z y => (new b o z y).2.2.1, n fun b o z y => (new b o z y).2.2.2⟩
  have at2 := at1.set (S' := start) put_rets rfl rfl rfl rfl
  refine ⟨_, rfl, F.c, C, F.dx, _, rfl, at1.c, Z.cl, Z.n8, few F _, ?_⟩
  have sm2 := Ck.Same.up (o := .ins C F.dx (putF "returns" (.bl true) (flds F start0))) sm1 fr.c
  refine ⟨_, rfl, b, rfl, ⟨_, .inl (rd_same sm2 hb)⟩, for_tup (K := K) (a := b) (xs := ys) (Pe K C IP F H (.ref a) (.ref b) x1 m fs Q E) ?h0 ?hl ?hs ?hd⟩
  case h0 =>
    refine ⟨start, none, none, none, rfl, sm2, at2, ⟨by decide, by decide, by decide, by decide⟩, rfl, by decide, ?_⟩
    exact q
  case hl =>
    rintro i σ H' _ ⟨_, _, _, _, _, sm3, _⟩
    exact .inl (rd_same sm3 hb)
  case hd =>
    rintro σ H3 ⟨S, v5, v6, v7, rfl, sm3, at3, ok3, pl, fn, q3⟩
    have e : fs.drop ys.length = [] := by rw [ifs.len, List.drop_length]
    rw [e, entries_nil] at q3
    have at4 := at3.set (S' := { S with rets := false }) put_rets rfl rfl rfl rfl
    have sm4 := Ck.Same.up (o := .ins C F.dx (putF "returns" (.bl false) (flds F S))) sm3 fr.c
    refine ⟨_, rfl, F.c, C, F.dx, _, rfl, at3.c, Z.cl, Z.n8, few F _, ?_⟩
    refine ⟨_, rfl, _, rfl, (by show 1 ≤ sizeLine; decide), fun r nr => ⟨1, rfl, ?_⟩⟩
    have nG := Ck.Same.non sm4 nr
    refine ⟨F, { S with rets := false }, upd H r (.tup [x1]), r, [x1], [m], -1, rfl, Ck.Same.both sm4, fr.new at4 nr, at4.new nr, ⟨ok3.lo, ok3.hi, ok3.cm, ok3.va⟩, (by show S.places.length + 59 = 59; rw [pl]; rfl), upd_same, (Ims.cons imm .nil).mono (Ck.Same.new (fun _ _ z => z) nG), ?_⟩
    have qf : ResC C IP H (match all 59 { S with rets := false } [m] (-1) 0 with
      | .error e => .error e
      | .ok (i, S') => if 40 < S'.vars.length ∨ 3000 < i then .error [] else .ok { S' with unf := i }) Q E := q3
    show Res C IP F _ S.places (all 59 { S with rets := false } [m] (-1) 0) _ E
    cases r5 : all 59 { S with rets := false } [m] (-1) 0 with
    | error path =>
      rw [r5] at qf
      exact fun H' d p y z u => qf H' d p (Ck.Same.left y nG) z u
    | ok v =>
      obtain ⟨i, S5⟩ := v
      rw [r5] at qf
      intro H5 sm5 at5 ok5 pl5
      have at6 := at5.set (S' := { S5 with unf := i }) put_unf rfl rfl rfl rfl
      have sm6 := Ck.Same.up (o := .ins C F.dx (putF "unfolded" (.int i) (flds F S5))) (Ck.Same.left sm5 nG) fr.c
      refine ⟨_, rfl, F.c, C, F.dx, _, rfl, at5.c, Z.cl, Z.n4, few F _, ?_⟩
      have q6 : ResC C IP H (if 40 < S5.vars.length ∨ 3000 < i then .error [] else .ok { S5 with unf := i }) Q E := qf
      refine ⟨_, rfl, F.c, C, F.dx, _, _, rfl, at6.c, Z.cl, Z.n3, get_vars, F.dv, _, rfl, at6.dv, _, _, rfl, rfl, _, rfl, ?_⟩
      have ln : (tab S5.vars).length = S5.vars.length := by simp [tab]
      by_cases c1 : 40 < S5.vars.length
      · rw [if_pos (.inl c1)] at q6
        exact if_yes (decide_eq_true (by show ((tab S5.vars).length : Int) > 40; rw [ln]; omega)) (if_yes rfl ⟨by decide, fun r nr d nd => raise_ok q6 sm6 r nr d nd⟩)
      · refine if_no (decide_eq_false (by show ¬ ((tab S5.vars).length : Int) > 40; rw [ln]; omega)) ?_
        refine ⟨_, rfl, F.c, C, F.dx, _, _, rfl, at6.c, Z.cl, Z.n4, get_unf, _, _, rfl, rfl, _, rfl, ?_⟩
        by_cases c2 : 3000 < i
        · rw [if_pos (.inr c2)] at q6
          exact if_yes (decide_eq_true (by show i > 3000; omega)) ⟨by decide, fun r nr d nd => raise_ok q6 sm6 r nr d nd⟩
        · rw [if_neg (by omega)] at q6
          exact if_no (decide_eq_false (by show ¬ i > 3000; omega)) ⟨_, rfl, q6 _ F sm6 at6⟩
  case hs =>
    rintro i x σ H3 hx ⟨S, v5, v6, v7, rfl, sm3, at3, ok3, pl, fn, q3⟩
    obtain ⟨e, et, ie⟩ := ims_at ifs hx
    have i20 : i < 20 := by
      have z := (List.getElem?_eq_some_iff.mp hx).1
      rw [ifs.len] at z
      omega
    rw [et] at q3
    refine ⟨_, rfl, _, rfl, F.c, C, F.dx, _, _, rfl, at3.c, Z.cl, Z.n5, get_fns, x, e, F.df, S.fns, rfl, ie.mono sm3, at3.df, _, rfl, ?_⟩
    cases c1 : isEntry S.fns e with
    | false =>
      rw [entries_no c1] at q3
      exact if_yes rfl ⟨_, rfl, (by show 1 ≤ sizeLine; decide), fun r nr d nd => raise_ok (path := [(i : Int)]) q3 sm3 r nr d nd⟩
    | true =>
    obtain ⟨a2, z, bd, y, rfl, rfl, ha2, ib, nok, lk⟩ := entry_yes ie c1
    rw [entries_yes nok lk] at q3
    refine if_no rfl ⟨_, rfl, a2, _, rfl, sqt (sm3 _ _ ha2), rfl, _, _, rfl, _, _, rfl, rfl, ?_⟩
    refine ⟨_, rfl, _, rfl, (by show 1 ≤ sizeLine; decide), fun r nr => ⟨_, rfl, ?_⟩⟩
    have nG := Ck.Same.non sm3 nr
    refine ⟨F, S, upd H r (.tup [y]), r, [y], [bd], (i : Int), rfl, Ck.Same.both sm3, fr.new at3 nr, at3.new nr, ok3, (by rw [pl]; rfl), upd_same, (Ims.cons ib .nil).mono (Ck.Same.new (fun _ _ z => z) nG), ?_⟩
    cases r5 : all 59 S [bd] (i : Int) 0 with
    | error path =>
      rw [r5] at q3
      exact fun H' d p y z u => q3 H' d p (Ck.Same.left y nG) z u
    | ok v =>
      obtain ⟨k, S5⟩ := v
      rw [r5] at q3
      intro H5 sm5 at5 ok5 pl5
      have fn5 : S5.fns = S.fns := all_fns _ _ _ _ _ _ _ r5
      have sm6 := Ck.Same.left sm5 nG
      refine ⟨_, _, rfl, rfl, k, _, rfl, ?_⟩
      have at6 := at5.fns (S5.fns ++ [(z, if (3000 + 1 : Int) < k then 3000 + 1 else k)])
      rw [← putK_ftab (by rw [fn5]; exact lk)] at at6
      refine ⟨_, rfl, F.c, C, F.dx, _, _, rfl, at5.c, Z.cl, Z.n5, get_fns, _, rfl, F.df, _, rfl, DPut.k (k := Sum.inr z) at5.df (by unfold ftab; rw [List.length_map, fn5, sizeLine_eq]; omega), ?_⟩
      refine ⟨_, rfl, _, _, rfl, rfl, ?_⟩
      refine ⟨{ S5 with fns := S5.fns ++ [(z, if (3000 + 1 : Int) < k then 3000 + 1 else k)] }, some (V.ref a2), some (V.str z), some y, ?_, Ck.Same.up sm6 fr.df, at6, ⟨ok5.lo, ok5.hi, ok5.cm, ok5.va⟩, pl5.trans pl, ?_, q3⟩
      · show [some (V.ref a), some (V.ref b), some x1, some (V.ref F.c), some (V.int (i + 1)), some (V.ref a2), some (V.str z), some y] = _
        rfl
      · show (S5.fns ++ [_]).length ≤ i + 1
        rw [List.length_append, fn5]
        simp
        exact fn
end
end Ck

/-! A try whose first clause, 'except x as n', takes every exception of its body; more clauses may follow. -/
namespace L2
open PySem PySem.Spec PyProof.Rows
section
variable {X : Cx} {x n : Str} {c : Value} {i : Nat} {body suite : List Stmt} {b0 : Stmt} {np pos pos' : Pos} {more : List ExceptHandler} {tb : WX → TS} {ts : Addr → Value → Option Addr → TS}
end
end L2

/-! The draws. -/
namespace Ck
open PySem PySem.Spec PyProof.Rows L2
section
variable {P : Program} {w : World} {K : PySem.W.Frag} {mg : Str → Option Value} {base : Heap}
abbrev sMixed : Stmt := topS 60
abbrev sSource : Stmt := topS 61
abbrev sTake : Stmt := topS 62
abbrev NM : List Str := ["_law_cell", "_law_draw", "_law_figure"]
abbrev NO : List Str := ["_law_cell"]
abbrev NT : List Str := ["_law_source_here", "_law_bound", "_law_drawn"]
theorem scMx : FnScope NM ["_law_cell", "_law_draw"] (defScope sMixed) := ⟨rfl, rfl, rfl, by decide +kernel, rfl, by decide +kernel, by decide +kernel⟩
theorem scSo : FnScope NO ["_law_cell"] (defScope sSource) := ⟨rfl, rfl, rfl, by decide +kernel, rfl, by decide +kernel, by decide +kernel⟩
theorem scTk : FnScope NT ["_law_source_here", "_law_bound"] (defScope sTake) := ⟨rfl, rfl, rfl, by decide +kernel, rfl, by decide +kernel, by decide +kernel⟩
def rIn : List V → Hp → VK → Prop := fun xs H Q => (∃ i, xs = [.int i] ∧ Q (.int i) H) ∨ ∃ k, xs = [.bl k] ∧ Q (.int (if k then 1 else 0)) H
abbrev tInt (te : TE) : TE := tCB rIn (tCons te tNil)
abbrev rMo : R2 := rI (fun _ j => 0 < j) fun i j => .int (i % j)
abbrev rMu : R2 := rI CMul fun i j => .int (i * j)
abbrev rAd : R2 := rI0 fun i j => .int (i + j)
abbrev rDi : R2 := rI CDivW fun i j => .int (i / j)
abbrev rPo : R2 := rI CPow fun i j => .int (i ^ j.toNat)
abbrev cI (i : Int) : TE := tC (.int i)
theorem pe_intc {X : Cx} {e : Expr} {te : TE} {p pos : Pos} (mi : X.mg "int" = none) (hg : Gl X "int") (he : PE X e te) (h1 : starEach [e] X.env = (false, eval e X.env) :: starEach [] X.env := by rfl) : PE X (.Call (.Name "int" p) [e] [] pos) (tInt te) :=
  pe_callTy call_int1 hg mi boot_int (pa_cons he pa_nil h1) (by decide) (by decide) h1
def spMixed : Sp := fun vs H Q _ => ∃ c d : Int, vs = [.int c, .int d] ∧ ∀ r : Int, Q (.int r) H
def tMixed : TS :=
  tSeq (tAsg (tOp rMo (tInt (tOp rMu (tOp rAd (tOp rMo (tInt (tVar 0)) (cI 2147483646)) (cI 1)) (tOp rAd (tOp rMu (tVar 1) (cI 7919)) (cI 104729)))) (cI 2147483647)) (gName 2))
  (tSeq (tAsg (tOp rMo (tInt (tOp rMu (tOp rAd (tVar 2) (tOp rMu (tOp rMo (tInt (tOp rDi (tVar 0) (cI 2147483646))) (cI 1000003)) (tOp rAd (tVar 1) (cI 31)))) (cI 48271))) (cI 2147483629)) (gName 2))
  (tSeq (tAsg (tOp rMo (tInt (tOp rMu (tVar 2) (tOp rAd (tOp rAd (tOp rDi (tVar 2) (cI 1013)) (cI 69621)) (tVar 1)))) (cI 2147483587)) (gName 2))
  (tRet (tOp rMo (tInt (tOp rMu (tVar 2) (tOp rAd (tOp rDi (tVar 2) (cI 2003)) (cI 40692)))) (cI 2147483563)))))
theorem mul_left {i j : Int} (h0 : 0 ≤ i) (h : i < 4294967296) : CMul i j := by
  left
  constructor <;> omega
theorem body_mixed (mi : mg "int" = none) (f : Addr) (cdv : Value) (A : Around) (outer : List Env) (st : Shared) (H : Hp) (E : XK) :
    PSs (cxOf CX0 P w K mg base NM "_law_mixed" (defScope sMixed) f cdv A outer st H E).nox (defBody sMixed) tMixed := by
  unfold tMixed
  refine pss_cons (ps_set (i := 2) scMx.nd rfl (.inl rfl) ?a) (pss_cons (ps_set (i := 2) scMx.nd rfl (.inl rfl) ?b) (pss_cons (ps_set (i := 2) scMx.nd rfl (.inl rfl) ?c) (pss_one (ps_ret ?d))))
  case a => exact pe_op op_mod (pe_intc mi rfl (pe_op op_mul (pe_op op_add (pe_op op_mod (pe_intc mi rfl (pv 0)) pe_int) pe_int) (pe_op op_add (pe_op op_mul (pv 1) pe_int) pe_int))) pe_int
  case b => exact pe_op op_mod (pe_intc mi rfl (pe_op op_mul (pe_op op_add (pv 2) (pe_op op_mul (pe_op op_mod (pe_intc mi rfl (pe_op op_fdivW (pv 0) pe_int)) pe_int) (pe_op op_add (pv 1) pe_int))) pe_int)) pe_int
  case c => exact pe_op op_mod (pe_intc mi rfl (pe_op op_mul (pv 2) (pe_op op_add (pe_op op_add (pe_op op_fdivW (pv 2) pe_int) pe_int) (pv 1)))) pe_int
  case d => exact pe_op op_mod (pe_intc mi rfl (pe_op op_mul (pv 2) (pe_op op_add (pe_op op_fdivW (pv 2) pe_int) pe_int))) pe_int
theorem wd {i j : Int} (h : 0 < j) (hb : j < 4294967296) : CDivW i j := wide_div (b := 32) h (by omega) (by decide) (by decide)
theorem pure_mixed (vs : List V) (H : Hp) (Q : VK) (E : XK) (h : spMixed vs H Q E) : tMixed { nx := fun _ H' => Q .non H', rt := Q } (L2.start NM vs) H := by
  obtain ⟨c, d, rfl, k⟩ := h
  unfold tMixed
  dsimp only [tSeq, tAsg, gName, tRet, L2.tOp, tInt, tCB, L2.tCons, L2.tNil, tVar, tC, cI]
  have m1 : ∀ (x m : Int), 0 < m → 0 ≤ x % m ∧ x % m < m := fun x m hm => ⟨Int.emod_nonneg _ (by omega), Int.emod_lt_of_pos _ hm⟩
  refine ⟨_, rfl, Or.inl ⟨_, rfl, _, _, rfl, rfl, (by show (0 : Int) < _; decide), _, _, rfl, rfl, _, rfl, _, _, rfl, rfl, (Or.inr ⟨by decide, by decide⟩), _, _, rfl, rfl, _, _, rfl, rfl, ?_, Or.inl ⟨_, rfl, _, _, rfl, rfl, (by show (0 : Int) < _; decide), ?_⟩⟩⟩
  · have z := m1 c 2147483646 (by decide)
    exact mul_left (by omega) (by omega)
  generalize hf : ((c % 2147483646 + 1) * (d * 7919 + 104729)) % 2147483647 = g1
  refine ⟨_, rfl, _, rfl, _, _, rfl, rfl, wd (by decide) (by decide), Or.inl ⟨_, rfl, _, _, rfl, rfl, (by show (0 : Int) < _; decide), _, rfl, _, _, rfl, rfl, _, _, rfl, rfl, ?_, _, _, rfl, rfl, _, _, rfl, rfl, (Or.inr ⟨by decide, by decide⟩), Or.inl ⟨_, rfl, _, _, rfl, rfl, (by show (0 : Int) < _; decide), ?_⟩⟩⟩
  · have z := m1 (c / 2147483646) 1000003 (by decide)
    exact mul_left (by omega) (by omega)
  generalize hg : ((g1 + c / 2147483646 % 1000003 * (d + 31)) * 48271) % 2147483629 = g2
  have b2 := m1 ((g1 + c / 2147483646 % 1000003 * (d + 31)) * 48271) 2147483629 (by decide)
  rw [hg] at b2
  refine ⟨_, rfl, _, rfl, _, _, rfl, rfl, wd (by decide) (by decide), _, _, rfl, rfl, _, rfl, _, _, rfl, rfl, _, _, rfl, rfl, mul_left (by omega) (by omega), Or.inl ⟨_, rfl, _, _, rfl, rfl, (by show (0 : Int) < _; decide), ?_⟩⟩
  generalize hh : (g2 * (g2 / 1013 + 69621 + d)) % 2147483587 = g3
  have b3 := m1 (g2 * (g2 / 1013 + 69621 + d)) 2147483587 (by decide)
  rw [hh] at b3
  exact ⟨_, rfl, _, rfl, _, _, rfl, rfl, wd (by decide) (by decide), _, _, rfl, rfl, _, _, rfl, rfl, mul_left (by omega) (by omega), Or.inl ⟨_, rfl, _, _, rfl, rfl, (by show (0 : Int) < _; decide), k _⟩⟩
theorem ok_mixed {f : Addr} {fd : FuncData} (F : Fun K "_law_mixed" "_law_mixed" sMixed f fd) (mi : mg "int" = none) : FnOk P w K mg base CX0 1 f fd ["_law_cell", "_law_draw"] spMixed := by
  refine F.ok scMx (fun vs H Q E h => ?_) (fun cdv A outer s H vs Q E hr h => ⟨tMixed, body_mixed mi f cdv A outer s H E, pure_mixed vs H Q E h⟩)
  obtain ⟨_, _, rfl, _⟩ := h
  rfl
def spSource : Sp := fun vs H Q _ => ∃ c : Int, vs = [.int c] ∧ ∀ p, H p = none → Q (.ref p) (upd H p (.lst [.int c, .int c, .int 0]))
def tSource : TS := tRet (tLst (tCons (tVar 0) (tCons (tVar 0) (tCons (cI 0) tNil))))
theorem ok_source {f : Addr} {fd : FuncData} (F : Fun K "_law_source" "_law_source" sSource f fd) : FnOk P w K mg base CX0 1 f fd ["_law_cell"] spSource := by
  refine F.ok scSo (fun vs H Q E h => ?_) (fun cdv A outer s H vs Q E hr h => ⟨tSource, pss_one (ps_ret (pe_lst (pa_cons (pv 0) (pa_cons (pv 0) (pa_cons pe_int pa_nil))))), ?_⟩)
  · obtain ⟨_, rfl, _⟩ := h
    rfl
  · obtain ⟨c, rfl, k⟩ := h
    exact ⟨_, rfl, _, rfl, (show 3 ≤ sizeLine by rw [sizeLine_eq]; decide), k⟩
def spTake : Sp := fun vs H Q _ => ∃ (l : Addr) (a c n b : Int), vs = [.ref l, .int b] ∧ 0 < b ∧ b < 4294967296 ∧ H l = some (.lst [.int a, .int c, .int n]) ∧ ∀ r a' n' : Int, 0 ≤ r → r < b → Q (.int r) (upd H l (.lst [.int a', .int c, .int n']))
abbrev tAt (K : PySem.W.Frag) (i : Int) : TE := tOp (rIxL K) (tVar 0) (cI i)
def tTake (K : PySem.W.Frag) : TS :=
  tSeq (tIfS (tTest (tOp (rI0 fun i j => .bl (decide (j ≤ i))) (tAt K 0) (tOp rPo (cI 10) (cI 18))))
    (tSeq (tAsg (tOp rMo (tInt (tAt K 0)) (tVar 1)) (gName 2)) (tSeq (tAsg (tOp rDi (tAt K 0) (tVar 1)) (gSub (tVar 0) (cI 0) rSetL)) (tRet (tVar 2)))) tNext)
  (tSeq (tAsg (tOp rAd (tAt K 2) (cI 1)) (gSub (tVar 0) (cI 2) rSetL))
  (tRet (tOp rMo (tInt (tCall spMixed [] (fun _ _ _ => False) (tCons (tAt K 1) (tCons (tAt K 2) tNil)))) (tVar 1))))
theorem body_take {fM : Addr} {fdM : FuncData} (FM : FnOk P w K mg base CX0 1 fM fdM ["_law_cell", "_law_draw"] spMixed) (gM : mg "_law_mixed" = some (.ref fM)) (kM : PySem.W.keepIn K (.ref fM) = true) (bM : Binds K fdM ["_law_cell", "_law_draw"] []) (mi : mg "int" = none)
    (f : Addr) (cdv : Value) (A : Around) (outer : List Env) (st : Shared) (H : Hp) (E : XK) (hr : Room 1 (A.deeper (envOfC "_law_take" (defScope sTake) st.heap.objs.size f cdv))) :
    PSs (cxOf CX0 P w K mg base NT "_law_take" (defScope sTake) f cdv A outer st H E).nox (defBody sTake) (tTake K) := by
  unfold tTake
  refine pss_cons (ps_if (pt_cmpR op_ge (pe_ix ix_list (pv 0) pe_int fun _ _ => rfl) (pe_op op_pow pe_int pe_int) rfl) ?t pss_nil) (pss_cons (ps_asg (pe_op op_add (pe_ix ix_list (pv 0) pe_int fun _ _ => rfl) pe_int) (pg_sub (pv 0) pe_int set_list)) (pss_one (ps_ret ?r)))
  case t => exact pss_cons (ps_set (i := 2) scTk.nd rfl (.inl rfl) (pe_op op_mod (pe_intc mi rfl (pe_ix ix_list (pv 0) pe_int fun _ _ => rfl)) (pv 1))) (pss_cons (ps_asg (pe_op op_fdivW (pe_ix ix_list (pv 0) pe_int fun _ _ => rfl) (pv 1)) (pg_sub (pv 0) pe_int set_list)) (pss_one (ps_ret (pv 2))))
  case r => exact pe_op op_mod (pe_intc mi rfl (pe_call FM hr rfl gM kM bM .nil pass0 (pa_cons (pe_ix ix_list (pv 0) pe_int fun _ _ => rfl) (pa_cons (pe_ix ix_list (pv 0) pe_int fun _ _ => rfl) pa_nil)))) (pv 1)
theorem pure_take (vs : List V) (H : Hp) (Q : VK) (E : XK) (h : spTake vs H Q E) : tTake K { nx := fun _ H' => Q .non H', rt := Q } (L2.start NT vs) H := by
  obtain ⟨l, a, c, n, b, rfl, b0, b1, hl, k⟩ := h
  unfold tTake
  have sq : SqL K H l [.int a, .int c, .int n] := Or.inl (Or.inl hl)
  have m1 : ∀ x : Int, 0 ≤ x % b ∧ x % b < b := fun x => ⟨Int.emod_nonneg _ (by omega), Int.emod_lt_of_pos _ b0⟩
  refine ⟨_, rfl, l, _, _, _, rfl, rfl, sq, rfl, _, _, rfl, rfl, ⟨by decide, by decide, by decide⟩, _, _, rfl, rfl, _, rfl, ?_⟩
  by_cases big : (10 : Int) ^ (18 : Int).toNat ≤ a
  · refine if_yes (decide_eq_true big) ?_
    refine ⟨_, rfl, l, _, _, _, rfl, rfl, sq, rfl, Or.inl ⟨_, rfl, _, rfl, _, _, rfl, rfl, (by show (0 : Int) < _; exact b0), ?_⟩⟩
    refine ⟨_, rfl, l, _, _, _, rfl, rfl, sq, rfl, _, rfl, _, _, rfl, rfl, wd b0 b1, ?_⟩
    refine ⟨_, rfl, l, _, _, _, rfl, rfl, hl, rfl, ?_⟩
    exact ⟨_, rfl, k _ _ _ (m1 a).1 (m1 a).2⟩
  · refine if_no (decide_eq_false big) ?_
    refine ⟨_, rfl, l, _, _, _, rfl, rfl, sq, rfl, _, _, rfl, rfl, ?_⟩
    refine ⟨_, rfl, l, _, _, _, rfl, rfl, hl, rfl, ?_⟩
    have sq2 : SqL K (upd H l (.lst ([V.int a, .int c, .int n].set 2 (.int (n + 1))))) l [.int a, .int c, .int (n + 1)] := Or.inl (Or.inl upd_same)
    refine ⟨_, rfl, l, _, _, _, rfl, rfl, sq2, rfl, _, rfl, l, _, _, _, rfl, rfl, sq2, rfl, c, n + 1, rfl, fun r => ?_⟩
    exact Or.inl ⟨_, rfl, _, rfl, _, _, rfl, rfl, (by show (0 : Int) < _; exact b0), k _ _ _ (m1 r).1 (m1 r).2⟩
theorem ok_take {f fM : Addr} {fd fdM : FuncData} (F : Fun K "_law_take" "_law_take" sTake f fd) (FM : FnOk P w K mg base CX0 1 fM fdM ["_law_cell", "_law_draw"] spMixed) (gM : mg "_law_mixed" = some (.ref fM)) (kM : PySem.W.keepIn K (.ref fM) = true) (bM : Binds K fdM ["_law_cell", "_law_draw"] []) (mi : mg "int" = none) :
    FnOk P w K mg base CX0 2 f fd ["_law_source_here", "_law_bound"] spTake := by
  refine F.ok scTk (fun vs H Q E h => ?_) (fun cdv A outer s H vs Q E hr h => ⟨tTake K, body_take FM gM kM bM mi f cdv A outer s H E hr, pure_take vs H Q E h⟩)
  obtain ⟨_, _, _, _, _, rfl, _⟩ := h
  rfl

end
end Ck

namespace Ck
open PySem PySem.Spec PyProof.Rows L2 PySem.ErrKw
mutual
def toD : T → PyData
  | .non => .none
  | .bl b => .bool b
  | .int i => .int i
  | .str z => .str z
  | .tup ts => .tuple (toDs ts)
  | .odd _ => .none
def toDs : List T → List PyData
  | [] => []
  | t :: ts => toD t :: toDs ts
end
mutual
def flatT : T → Bool
  | .non => true
  | .bl _ => true
  | .int _ => true
  | .str _ => true
  | .tup ts => flatTs ts
  | .odd _ => false
def flatTs : List T → Bool
  | [] => true
  | t :: ts => flatT t && flatTs ts
end
section
variable {P : Program} {w : World} {K : PySem.W.Frag} {mg : Str → Option Value} {base : Heap} {dR dS : Addr} {adr : Kind → Addr} {C IP fI fN : Addr}
mutual
theorem Im.dp {H : Hp} : ∀ {v : V} {t : T}, Im K H v t → flatT t = true → Dp K H v (toD t)
  | _, _, .non, _ => .non
  | _, _, .bl b, _ => .bl b
  | _, _, .int i, _ => .int i
  | _, _, .str _, _ => .str _
  | _, _, .tup e r, h => .tup (sqt e) (Ims.dp r (by simpa [flatT] using h))
  | _, _, .odd _ _ _ _ _ _, h => by simp [flatT] at h
theorem Ims.dp {H : Hp} : ∀ {vs : List V} {ts : List T}, Ims K H vs ts → flatTs ts = true → DpAll K H vs (toDs ts)
  | _, _, .nil, _ => .nil
  | _ :: _, t :: ts, .cons a r, h => by
    have h2 : flatT t = true ∧ flatTs ts = true := by simpa [flatTs] using h
    exact .cons (Im.dp a h2.1) (Ims.dp r h2.2)
end
/-- two that are the same are not unlike -/
theorem str_few {z : Str} (h : z.length ≤ 100) : z.length ≤ sizeLine := by rw [sizeLine_eq]; omega
end
end Ck
/-! Loops whose turns stay folded. -/
namespace L2
open PySem
def tLoop (g : TG) (tb : TS) (D : Ends) (σ : St) : It → Hp → Prop := fun J H1 =>
  ∃ W : Nat → Nat → St → Hp → Prop, (∃ m, W 0 m σ H1) ∧ ∀ i m σ H, W i m σ H → (J.stop i H ∧ D.nx σ H) ∨ (J.go i H ∧ ∃ N : St → Hp → Prop, (∀ σ' H', N σ' H' → ∃ m', m' < m ∧ W (i + 1) m' σ' H') ∧ ∀ x H', J.yld i H x H' → g x σ H' fun σ2 H2 => tb { nx := N, rt := D.rt, bk := D.nx, ct := N } σ2 H2)
theorem loop_in {wi : TI} {g : TG} {tb : TS} {D : Ends} {σ : St} {H : Hp} (h : wi σ H (tLoop g tb D σ)) : tFor wi g tb D σ H := h
theorem loop_tup {K : PySem.W.Frag} {a : Addr} {xs : List V} {g : TG} {tb : TS} {D : Ends} {σ : St} {H : Hp} (Pv : Nat → St → Hp → Prop) (h0 : Pv 0 σ H) (hl : ∀ i σ H, i ≤ xs.length → Pv i σ H → SqT K H a xs)
    (hs : ∀ i x σ H, xs[i]? = some x → Pv i σ H → g x σ H fun σ2 H2 => tb { nx := Pv (i + 1), rt := D.rt, bk := D.nx, ct := Pv (i + 1) } σ2 H2) (hd : ∀ σ H, Pv xs.length σ H → D.nx σ H) : tLoop g tb D σ (Itt K a) H := for_tup Pv h0 hl hs hd
theorem loop_list {K : PySem.W.Frag} {a : Addr} {xs : List V} {g : TG} {tb : TS} {D : Ends} {σ : St} {H : Hp} (Pv : Nat → St → Hp → Prop) (h0 : Pv 0 σ H) (hl : ∀ i σ H, i ≤ xs.length → Pv i σ H → SqL K H a xs)
    (hs : ∀ i x σ H, xs[i]? = some x → Pv i σ H → g x σ H fun σ2 H2 => tb { nx := Pv (i + 1), rt := D.rt, bk := D.nx, ct := Pv (i + 1) } σ2 H2) (hd : ∀ σ H, Pv xs.length σ H → D.nx σ H) : tLoop g tb D σ (Itl K a) H := for_list Pv h0 hl hs hd
theorem loop_range {lo : Int} {n : Nat} {g : TG} {tb : TS} {D : Ends} {σ : St} {H : Hp} (Pv : Nat → St → Hp → Prop) (h0 : Pv 0 σ H)
    (hs : ∀ i σ H, i < n → Pv i σ H → g (.int (lo + i)) σ H fun σ2 H2 => tb { nx := Pv (i + 1), rt := D.rt, bk := D.nx, ct := Pv (i + 1) } σ2 H2) (hd : ∀ σ H, Pv n σ H → D.nx σ H) : tLoop g tb D σ (Itr lo n) H := for_range Pv h0 hs hd
def tLcL (g : TG) (tt : TT) (te : TE) (vs : List Nat) (σ : St) (Q : VK) : It → Hp → Prop := fun J H1 => ∀ D, H1 D = none → ∃ W : Nat → Nat → Hp → Prop, (∃ m, W 0 m (upd H1 D (.lst []))) ∧ ∀ i m H, W i m H → (J.stop i H ∧ Q (.ref D) H) ∨ (J.go i H ∧ ∃ Nx : Hp → Prop, (∀ H', Nx H' → ∃ m', m' < m ∧ W (i + 1) m' H') ∧
  ∀ x H', J.yld i H x H' → g x (wipe σ vs) H' fun σ2 H2 => wipe σ2 vs = wipe σ vs ∧ tt σ2 H2 fun b H3 => if b = true then te σ2 H3 fun y H4 => ∃ acc, H4 D = some (.lst acc) ∧ acc.length < sizeLine ∧ Nx (upd H4 D (.lst (acc ++ [y]))) else Nx H3)
theorem lc_in {wi : TI} {g : TG} {tt : TT} {te : TE} {vs : List Nat} {σ : St} {H : Hp} {Q : VK} (h : wi σ H (tLcL g tt te vs σ Q)) : tLc wi g tt te vs σ H Q := h
theorem lcl_range {lo : Int} {n : Nat} {g : TG} {tt : TT} {te : TE} {vs : List Nat} {σ : St} {H1 : Hp} {Q : VK} (Pv : Addr → Nat → Hp → Prop) (h0 : ∀ D, H1 D = none → Pv D 0 (upd H1 D (.lst [])))
    (hs : ∀ D, H1 D = none → ∀ i H, i < n → Pv D i H → g (.int (lo + i)) (wipe σ vs) H fun σ2 H2 => wipe σ2 vs = wipe σ vs ∧ tt σ2 H2 fun b H3 => if b = true then te σ2 H3 fun y H4 => ∃ acc, H4 D = some (.lst acc) ∧ acc.length < sizeLine ∧ Pv D (i + 1) (upd H4 D (.lst (acc ++ [y]))) else Pv D (i + 1) H3)
    (hd : ∀ D, H1 D = none → ∀ H, Pv D n H → Q (.ref D) H) : tLcL g tt te vs σ Q (Itr lo n) H1 := fun D nD => lc_range (D := D) (Pv D) (h0 D nD) (hs D nD) (hd D nD)
end L2
/-! Data that has no strange things in it. -/
namespace Ck
open PySem PySem.Spec PyProof.Rows L2

section
variable {P : Program} {w : World} {K : PySem.W.Frag} {mg : Str → Option Value} {base : Heap} {H H1 H2 : Hp}
/-- tuples stay -/
def Stay (H H' : Hp) : Prop := ∀ b xs, H b = some (.tup xs) → H' b = some (.tup xs)
theorem flatTs_cons {t : T} {ts : List T} (f : flatTs (t :: ts) = true) : flatT t = true ∧ flatTs ts = true := by simpa [flatTs] using f
theorem same_stay (h : Same H H1) : Stay H H1 := fun b xs z => h b _ z
theorem stay_lst {l : Addr} {xs : List V} {o : HO} (h : H l = some (.lst xs)) : Stay H (upd H l o) := fun b ys z => by
  rw [upd_ne (ne_of z h (by intro z; cases z))]
  exact z
theorem Stay.trans (h : Stay H H1) (h2 : Stay H1 H2) : Stay H H2 := fun b xs z => h2 b xs (h b xs z)
mutual
theorem im_stay (s : Stay H H1) : ∀ {v : V} {t : T}, flatT t = true → Im K H v t → Im K H1 v t
  | _, _, _, .non => .non
  | _, _, _, .bl b => .bl b
  | _, _, _, .int i => .int i
  | _, _, _, .str z => .str z
  | _, _, f, .tup e r => .tup (s _ _ e) (ims_stay s (by simpa [flatT] using f) r)
  | _, _, f, .odd _ _ _ _ _ _ => by simp [flatT] at f
theorem ims_stay (s : Stay H H1) : ∀ {vs : List V} {ts : List T}, flatTs ts = true → Ims K H vs ts → Ims K H1 vs ts
  | _, _, _, .nil => .nil
  | _ :: _, _ :: _, f, .cons a r => by
    have f2 := flatTs_cons f
    exact .cons (im_stay s f2.1 a) (ims_stay s f2.2 r)
end
structure Dat (K : PySem.W.Frag) (H : Hp) (v : V) (t : T) : Prop where
  im : Im K H v t
  fl : flatT t = true
structure Dats (K : PySem.W.Frag) (H : Hp) (vs : List V) (ts : List T) : Prop where
  im : Ims K H vs ts
  fl : flatTs ts = true
theorem Dat.up {v : V} {t : T} (d : Dat K H v t) (s : Stay H H1) : Dat K H1 v t := ⟨im_stay s d.fl d.im, d.fl⟩
theorem Dats.up {v : List V} {t : List T} (d : Dats K H v t) (s : Stay H H1) : Dats K H1 v t := ⟨ims_stay s d.fl d.im, d.fl⟩
theorem Dat.int (i : Int) : Dat K H (.int i) (.int i) := ⟨.int i, rfl⟩
theorem Dat.non : Dat K H .non .non := ⟨.non, rfl⟩
theorem Dat.str {z : Str} (h : z.length ≤ 100) : Dat K H (.str z) (.str z) := ⟨.str (str_few h), rfl⟩
theorem Dats.nil : Dats K H [] [] := ⟨.nil, rfl⟩
theorem Dats.cons {v : V} {t : T} {vs : List V} {ts : List T} (d : Dat K H v t) (r : Dats K H vs ts) : Dats K H (v :: vs) (t :: ts) := ⟨.cons d.im r.im, by rw [flatTs, d.fl, r.fl]; rfl⟩
theorem Dats.tup {vs : List V} {ts : List T} (r : Dats K H vs ts) {a : Addr} (h : H a = some (.tup vs)) : Dat K H (.ref a) (.tup ts) := ⟨.tup h r.im, by rw [flatT]; exact r.fl⟩
theorem Dats.app {vs us : List V} {ts ss : List T} : Dats K H vs ts → Dats K H us ss → Dats K H (vs ++ us) (ts ++ ss) := fun a b => by
  obtain ⟨im, fl⟩ := a
  induction vs generalizing ts with
  | nil => cases im; exact b
  | cons v vs ih =>
    cases im with
    | cons x r =>
      have f2 := flatTs_cons fl
      exact Dats.cons ⟨x, f2.1⟩ (ih r f2.2)
theorem Dats.len {vs : List V} {ts : List T} (d : Dats K H vs ts) : vs.length = ts.length := by
  obtain ⟨im, fl⟩ := d
  clear fl
  induction vs generalizing ts with
  | nil => cases im; rfl
  | cons v vs ih =>
    cases im with
    | cons x r => rw [List.length_cons, List.length_cons, ih r]
/-- where a source of draws stands -/
def Sr (l : Addr) (H : Hp) : Prop := ∃ a c n : Int, H l = some (.lst [.int a, .int c, .int n])
theorem Sr.up {l : Addr} (h : Sr l H) (s : Same H H1) : Sr l H1 := by
  obtain ⟨a, c, n, e⟩ := h
  exact ⟨a, c, n, s _ _ e⟩
/-- a draw, as the others use it -/
theorem take_use {l : Addr} {b : Int} {Q : VK} {E : XK} (h : Sr l H) (b0 : 0 < b) (b1 : b < 4294967296) (q : ∀ (r : Int) H1, 0 ≤ r → r < b → Stay H H1 → (∀ p, p ≠ l → H1 p = H p) → Sr l H1 → Q (.int r) H1) : spTake [.ref l, .int b] H Q E := by
  obtain ⟨a, c, n, e⟩ := h
  exact ⟨l, a, c, n, b, rfl, b0, b1, e, fun r a' n' r0 r1 => q r _ r0 r1 (stay_lst e) (fun p z => upd_ne z) ⟨_, _, _, upd_same⟩⟩
theorem sl {n : Nat} (h : n ≤ 1000000) : n ≤ sizeLine := by rw [sizeLine_eq]; omega
abbrev GTk (P : Program) (w : World) (K : PySem.W.Frag) (mg : Str → Option Value) (base : Heap) : Prop := Go P w K mg base CX0 88 "_law_take" ["_law_source_here", "_law_bound"] spTake
end
end Ck

/-! Methods, constructors, statements that are not reached. -/
namespace L2
open PySem PySem.Spec PyProof.Rows
structure GoM (P : Program) (w : World) (K : PySem.W.Frag) (mg : Str → Option Value) (base : Heap) (CX : CXT) (n : Nat) (C : Addr) (m : Str) (ps : List Str) (sp : Sp) : Prop where
  cl : Cls K C
  ex : ∃ f fd, FnOk P w K mg base CX n f fd ps sp ∧ Meth K C m f ∧ Binds K fd ps []
structure GoC (P : Program) (w : World) (K : PySem.W.Frag) (mg : Str → Option Value) (base : Heap) (CX : CXT) (n : Nat) (C : Addr) (x : Str) (ps : List Str) (sp : Sp) : Prop where
  ex : ∃ f fd, FnOk P w K mg base CX n f fd ps sp ∧ Mk K C f ∧ mg x = some (.ref C) ∧ Binds K fd ps []
section
variable {X : Cx} {CX : CXT} {n : Nat} {C : Addr} {x m : Str} {ps : List Str} {sp : Sp} {p pos apos : Pos} {o e : Expr} {es : List Expr} {ta : TE} {t : TA}
theorem pe_goM {pl : Sem Bool} (G : GoM X.prog X.w X.K X.mg X.base CX n C m ps sp) (hr : Room n X.A) (hx : Passes CX X fun _ _ _ => False) (he : PE X o ta) (ha : PA X (e :: es) t)
    (hst : starEach (e :: es) X.env = (false, eval e X.env) :: starEach es X.env := by rfl) (hpl : (backTo pos (starEach es X.env)).any (·.1) = false := by rfl)
    (ht : eval (.Call (.Attribute o m apos) (e :: es) [] pos) X.env = (do
      let ov ← eval o X.env
      standAt apos.atName
      let (f, first) ← holding [ov] (getMethod ov m pl)
      callWith pos f first (backTo pos (starEach (e :: es) X.env)) (backToKw pos (keywordEach [] X.env))) := by rfl) :
    PE X (.Call (.Attribute o m apos) (e :: es) [] pos) (tMeth C m sp [] (fun _ _ _ => False) ta t) := by
  obtain ⟨f, fd, F, M, b⟩ := G.ex
  exact pe_meth he G.cl M F hr b .nil hx ha hst hpl ht
theorem pe_goC (G : GoC X.prog X.w X.K X.mg X.base CX n C x ps sp) (hr : Room (n + 1) X.A) (hg : Gl X x) (hx : Passes CX X fun _ _ _ => False) (ha : PA X (e :: es) t)
    (hdb : (x == ("__debug__" : Str)) = false := by decide) (he : starEach (e :: es) X.env = (false, eval e X.env) :: starEach es X.env := by rfl) (hpl : (backTo pos (starEach es X.env)).any (·.1) = false := by rfl) :
    PE X (.Call (.Name x p) (e :: es) [] pos) (tMake C sp [] (fun _ _ _ => False) t) := by
  obtain ⟨f, fd, F, M, g, b⟩ := G.ex
  exact pe_make M F hr hg g b .nil hx ha hdb he hpl
end
/-! ### what changes, handed on as a letter -/
def sFldC (K : PySem.W.Frag) (ta tv : TE) (f : Str) : TS := fun D σ H => tv σ H fun y H1 => ta σ H1 fun x H2 => ∃ a C dx fs, x = .ref a ∧ H2 a = some (.ins C dx fs) ∧ Cls K C ∧ NoAttr K C f ∧ fs.length < 1000 ∧ ∀ H3, H3 = upd H2 a (.ins C dx (putF f y fs)) → D.nx σ H3
theorem sFldC_eq {K : PySem.W.Frag} {ta tv : TE} {f : Str} : sFldC K ta tv f = sFld K ta tv f := by
  funext D σ H
  unfold sFldC sFld
  simp only [forall_eq]
def sFldAugC (K : PySem.W.Frag) (ta tv : TE) (rd : V → V → Hp → VK → Prop) (f : Str) : TS := fun D σ H => ta σ H fun x H1 => ∃ a C dx fs v, x = .ref a ∧ H1 a = some (.ins C dx fs) ∧ Cls K C ∧ NoAttr K C f ∧ fs.lookup f = some v ∧
  tv σ H1 fun y H2 => rd v y H2 fun z H3 => ∃ dx' fs', H3 a = some (.ins C dx' fs') ∧ fs'.length < 1000 ∧ ∀ H4, H4 = upd H3 a (.ins C dx' (putF f z fs')) → D.nx σ H4
def rPopC : V → List V → Hp → VK → Prop := fun x vs H Q => ∃ l xs y, x = .ref l ∧ vs = [] ∧ H l = some (.lst xs) ∧ xs[xs.length - 1]? = some y ∧ ∀ H', H' = upd H l (.lst xs.dropLast) → Q y H'
theorem rPopC_eq : rPopC = rPop := by
  funext x vs H Q
  unfold rPopC rPop
  simp only [forall_eq]
def rSetLC : V → V → V → Hp → (Hp → Prop) → Prop := fun o i v H Q => ∃ p xs k j, o = .ref p ∧ i = .int k ∧ H p = some (.lst xs) ∧ ixN xs.length k = some j ∧ ∀ H', H' = upd H p (.lst (xs.set j v)) → Q H'
theorem rSetLC_eq : rSetLC = rSetL := by
  funext o i v H Q
  unfold rSetLC rSetL
  simp only [forall_eq]
def tMakeC (C : Addr) (sp : Sp) (dvs : List V) (E : XK) (t : TA) : TE := fun σ H Q => t σ H fun vs H1 => ∀ x dx, H1 x = none → H1 dx = none → dx ≠ x → ∀ H', H' = upd (upd H1 dx (.own x)) x (.ins C dx []) →
  sp (.ref x :: (vs ++ dvs)) H' (fun v H2 => v = .non ∧ Q (.ref x) H2) E
theorem tMakeC_eq {C : Addr} {sp : Sp} {dvs : List V} {E : XK} {t : TA} : tMakeC C sp dvs E t = tMake C sp dvs E t := by
  funext σ H Q
  unfold tMakeC tMake
  simp only [forall_eq]
section
variable {X : Cx} {CX : CXT} {n : Nat} {C : Addr} {x f : Str} {ps : List Str} {sp : Sp} {p pos pos' tpos : Pos} {o e value : Expr} {es : List Expr} {ta tv : TE} {t : TA}
theorem ps_fldC (ha : PE X o ta) (hv : PE X value tv) (hs : swapsWith value (some (.Attribute o f pos')) pos.line X.env = pure false) : PS X (.Assign [.Attribute o f pos'] value pos) (sFldC X.K ta tv f) := by
  rw [sFldC_eq]
  exact ps_fld ha hv hs
theorem mt_popC : MtM X "list.pop" rPopC := by
  rw [rPopC_eq]
  exact mt_pop
theorem set_listC : PSet X rSetLC := by
  rw [rSetLC_eq]
  exact set_list
theorem pe_goCC (G : GoC X.prog X.w X.K X.mg X.base CX n C x ps sp) (hr : Room (n + 1) X.A) (hg : Gl X x) (hx : Passes CX X fun _ _ _ => False) (ha : PA X (e :: es) t)
    (hdb : (x == ("__debug__" : Str)) = false := by decide) (he : starEach (e :: es) X.env = (false, eval e X.env) :: starEach es X.env := by rfl) (hpl : (backTo pos (starEach es X.env)).any (·.1) = false := by rfl) :
    PE X (.Call (.Name x p) (e :: es) [] pos) (tMakeC C sp [] (fun _ _ _ => False) t) := by
  rw [tMakeC_eq]
  exact pe_goC G hr hg hx ha hdb he hpl
end
end L2
namespace Ck
open PySem PySem.Spec PyProof.Rows L2

end Ck

/-! Methods and classes of the module. -/
namespace Wk
open PySem PySem.Spec PyProof.Rows L2 Ck
/-- a method of a class -/
structure MethD (K : PySem.W.Frag) (C : Addr) (m qual : Str) (st : Stmt) (ps : List Str) : Prop where
  ex : ∃ f fd, Fun K m qual st f fd ∧ Meth K C m f ∧ Binds K fd ps []
theorem MethD.go {P : Program} {w : World} {K : PySem.W.Frag} {mg : Str → Option Value} {base : Heap} {CX : CXT} {n : Nat} {C : Addr} {m qual : Str} {st : Stmt} {ps : List Str} {sp : Sp} (D : MethD K C m qual st ps) (c : Cls K C) (h : ∀ f fd, Fun K m qual st f fd → FnOk P w K mg base CX n f fd ps sp) : GoM P w K mg base CX n C m ps sp := by
  obtain ⟨f, fd, F, a, b⟩ := D.ex
  exact ⟨c, f, fd, h f fd F, a, b⟩
/-- a class that is called -/
structure ClsD (K : PySem.W.Frag) (mg : Str → Option Value) (C : Addr) (x qual : Str) (st : Stmt) (ps : List Str) : Prop where
  ex : ∃ f fd, Fun K "__init__" qual st f fd ∧ Mk K C f ∧ mg x = some (.ref C) ∧ Binds K fd ps []
theorem ClsD.go {P : Program} {w : World} {K : PySem.W.Frag} {mg : Str → Option Value} {base : Heap} {CX : CXT} {n : Nat} {C : Addr} {x qual : Str} {st : Stmt} {ps : List Str} {sp : Sp} (D : ClsD K mg C x qual st ps) (h : ∀ f fd, Fun K "__init__" qual st f fd → FnOk P w K mg base CX n f fd ps sp) : GoC P w K mg base CX n C x ps sp := by
  obtain ⟨f, fd, F, a, b, c⟩ := D.ex
  exact ⟨f, fd, h f fd F, a, b, c⟩
end Wk

/-! Defs that may be called by word. -/
namespace Ck
open PySem PySem.Spec PyProof.Rows L2
section
variable {X : Cx} {CX : CXT} {k : Nat} {f : Addr} {fd : FuncData} {ps ks : List Str} {sp : Sp} {E : XK} {x : Str} {p pos : Pos} {kws : List Keyword} {tk : TA} {g : List Value → List Value → List Value} {gV : List V → List V → List V}
/-- f(k = v) -/
theorem pe_callK0 (F : FnOk X.prog X.w X.K X.mg X.base CX k f fd ps sp) (hr : Room k X.A) (hg : Gl X x) (hm : X.mg x = some (.ref f)) (hk : PySem.W.keepIn X.K (.ref f) = true) (hb : KBinds X.K fd ps ks g gV) (hx : Passes CX X E) (hkw : PK X kws tk)
    (hall : (backToKw pos (keywordEach kws X.env)).all (·.1.isSome) = true := by rfl) (hks : (backToKw pos (keywordEach kws X.env)).filterMap (·.1) = ks := by rfl) (hdb : (x == ("__debug__" : Str)) = false := by decide)
    (hpl : ((backTo pos (starEach [] X.env)).any (·.1) || (backToKw pos (keywordEach kws X.env)).any (·.1.isNone)) = false := by rfl) :
    PE X (.Call (.Name x p) [] kws pos) (tCallK sp gV E L2.tNil tk) := by
  refine ⟨fun pins s σ H Q I h => ?_⟩
  refine wpAny_Call_Name_kw (ld_glob I hg hm ?_ hdb)
  refine PySem.W.callWith_KW0 (h₀ := X.base) I.ok.mod.kin hk hall (thn (hkw.run pos pins s σ H _ I h) fun ws s2 ⟨zs, H2, I2, rz, q2⟩ => ?_) hpl
  refine ⟨I2.kIn, ?_⟩
  rw [hks]
  exact run_fnk F hr hb hx I2 .nil rz q2
end
/-- a def that may be called by place or by word -/
structure GoK (P : Program) (w : World) (K : PySem.W.Frag) (mg : Str → Option Value) (base : Heap) (CX : CXT) (n : Nat) (x : Str) (ps : List Str) (sp : Sp) : Prop where
  ex : ∃ f fd, FnOk P w K mg base CX n f fd ps sp ∧ mg x = some (.ref f) ∧ PySem.W.keepIn K (.ref f) = true ∧ Binds K fd ps [] ∧ KBinds K fd ps ps (fun us ws => us ++ ws) (fun vs zs => vs ++ zs)
section
variable {X : Cx} {CX : CXT} {n : Nat} {ps : List Str} {sp : Sp} {E : XK} {x : Str} {p pos : Pos} {kws : List Keyword} {tk : TA} {P : Program} {w : World} {K : PySem.W.Frag} {mg : Str → Option Value} {base : Heap}
theorem GoK.go (G : GoK P w K mg base CX n x ps sp) : Go P w K mg base CX n x ps sp := by
  obtain ⟨f, fd, F, g, k, b, _⟩ := G.ex
  exact ⟨f, fd, F, g, k, b⟩
theorem pe_goK (G : GoK X.prog X.w X.K X.mg X.base CX n x ps sp) (hr : Room n X.A) (hx : Passes CX X E) (hg : Gl X x) (hkw : PK X kws tk)
    (hall : (backToKw pos (keywordEach kws X.env)).all (·.1.isSome) = true := by rfl) (hks : (backToKw pos (keywordEach kws X.env)).filterMap (·.1) = ps := by rfl) (hdb : (x == ("__debug__" : Str)) = false := by decide)
    (hpl : ((backTo pos (starEach [] X.env)).any (·.1) || (backToKw pos (keywordEach kws X.env)).any (·.1.isNone)) = false := by rfl) :
    PE X (.Call (.Name x p) [] kws pos) (tCallK sp (fun vs zs => vs ++ zs) E L2.tNil tk) := by
  obtain ⟨f, fd, F, g, k, b, kb⟩ := G.ex
  exact pe_callK0 F hr hg g k kb hx hkw hall hks hdb hpl
end
end Ck

/-! Programs that are drawn: what the check says of them. -/
namespace Ck
open PySem
/-- a tree: a block or not, its word, what stands before its parts, these, what stands behind them -/
inductive Tr where
  | mk (blk : Bool) (w : Str) (pre : List T) (ks : List Tr) (post : List T)
mutual
def enc : Tr → T
  | .mk true w _ ks _ => .tup [.str w, .tup (encs ks)]
  | .mk false w pre ks post => .tup (.str w :: (pre ++ (encs ks ++ post)))
def encs : List Tr → List T
  | [] => []
  | k :: ks => enc k :: encs ks
end
mutual
def cnt : Tr → Nat
  | .mk _ _ _ ks _ => 1 + cnts ks
def cnts : List Tr → Nat
  | [] => 0
  | k :: ks => cnt k + cnts ks
end
mutual
def ht : Tr → Nat
  | .mk _ _ _ ks _ => 1 + hts ks
def hts : List Tr → Nat
  | [] => 0
  | k :: ks => max (ht k) (hts ks)
end
def own (fs : List (Str × Int)) (w : Str) (pre : List T) (i : Int) : Int :=
  if w = "times" then 1 + (match pre with | [.int n] => n | _ => 0) * i
  else 1 + i + (if w = "call" then (match pre with | [.str f] => (fs.lookup f).getD 0 | _ => 0) else 0)
mutual
def unf (fs : List (Str × Int)) : Tr → Int
  | .mk _ w pre ks _ => own fs w pre (unfs fs ks)
def unfs (fs : List (Str × Int)) : List Tr → Int
  | [] => 0
  | k :: ks => unf fs k + unfs fs ks
end
def ownW (fs : List (Str × Int)) (w : Str) (pre : List T) (i : Int) : Int :=
  if w = "times" then 1 + max 1 (match pre with | [.int n] => n | _ => 0) * i
  else 1 + i + (if w = "call" then (match pre with | [.str f] => (fs.lookup f).getD 0 | _ => 0) else 0)
mutual
def wei (fs : List (Str × Int)) : Tr → Int
  | .mk _ w pre ks _ => ownW fs w pre (weis fs ks)
def weis (fs : List (Str × Int)) : List Tr → Int
  | [] => 0
  | k :: ks => wei fs k + weis fs ks
end
def ownC (w : Str) (pre : List T) : List Str := if w = "run" then (match pre with | .str c :: _ => [c] | _ => []) else []
def ownV (w : Str) (pre : List T) : List Str := if w = "give" ∨ w = "zero" ∨ w = "keep" ∨ w = "put" then (match pre with | .str c :: _ => [c] | _ => []) else []
mutual
def cms : Tr → List Str
  | .mk _ w pre ks _ => ownC w pre ++ cmss ks
def cmss : List Tr → List Str
  | [] => []
  | k :: ks => cms k ++ cmss ks
end
mutual
def vrs : Tr → List Str
  | .mk _ w pre ks _ => ownV w pre ++ vrss ks
def vrss : List Tr → List Str
  | [] => []
  | k :: ks => vrs k ++ vrss ks
end
/-- trees as they may be drawn: names of commands and variables, greatest numbers (of put: M), functions that may be called -/
inductive Okt (C W : List Str) (N M : Int) (known : List Str) : Bool → Nat → Tr → Prop
  | run {i l c} : c ∈ C → Okt C W N M known i l (.mk false "run" [.str c] [] [])
  | status {i l n} : 0 ≤ n → n ≤ N → Okt C W N M known i l (.mk false "status" [.int n] [] [])
  | var {i l} {w v : Str} : w = "give" ∨ w = "zero" ∨ w = "keep" → v ∈ W → Okt C W N M known i l (.mk false w [.str v] [] [])
  | put {i l v n} : v ∈ W → 0 ≤ n → n ≤ M → Okt C W N M known i l (.mk false "put" [.str v, .int n] [] [])
  | option {i l} {z : Str} {b} : z = "fail" ∨ z = "pipes" → Okt C W N M known i l (.mk false "option" [.str z, .bl b] [] [])
  | jump {i l} {w : Str} {k : Int} : w = "break" ∨ w = "next" → 1 ≤ k → k ≤ (l : Nat) → Okt C W N M known i l (.mk false w [.int k] [] [])
  | ret0 {l} : Okt C W N M known true l (.mk false "return" [.non] [] [])
  | ret {l n} : 0 ≤ n → n ≤ N → Okt C W N M known true l (.mk false "return" [.int n] [] [])
  | exit0 {i l} : Okt C W N M known i l (.mk false "exit" [.non] [] [])
  | exit {i l n} : 0 ≤ n → n ≤ N → Okt C W N M known i l (.mk false "exit" [.int n] [] [])
  | call {i l f} : f ∈ known → Okt C W N M known i l (.mk false "call" [.str f] [] [])
  | seq {i l ks} : 2 ≤ ks.length ∧ ks.length ≤ 5000 → (∀ k ∈ ks, Okt C W N M known i l k) → Okt C W N M known i l (.mk true "seq" [] ks [])
  | pipe {i l ks} : 2 ≤ ks.length ∧ ks.length ≤ 5000 → (∀ k ∈ ks, Okt C W N M known false 0 k) → Okt C W N M known i l (.mk true "pipe" [] ks [])
  | andor {i l} {w : Str} {a b} : w = "and" ∨ w = "or" → Okt C W N M known i l a → Okt C W N M known i l b → Okt C W N M known i l (.mk false w [] [a, b] [])
  | not {i l a} : Okt C W N M known i l a → Okt C W N M known i l (.mk false "not" [] [a] [])
  | ife {i l c a b} : Okt C W N M known i l c → Okt C W N M known i l a → Okt C W N M known i l b → Okt C W N M known i l (.mk false "if" [] [c, a, b] [])
  | if1 {i l c a} : Okt C W N M known i l c → Okt C W N M known i l a → Okt C W N M known i l (.mk false "if" [] [c, a] [.non])
  | whl {i l} {w : Str} {c b} : w = "while" ∨ w = "until" → Okt C W N M known i (l + 1) c → Okt C W N M known i (l + 1) b → Okt C W N M known i l (.mk false w [] [c, b] [])
  | times {i l n b} : 0 ≤ n → n ≤ 1000 → Okt C W N M known i (l + 1) b → Okt C W N M known i l (.mk false "times" [.int n] [b] [])
  | trap0 {i l} {z : Str} : z = "end" ∨ z = "fail" → Okt C W N M known i l (.mk false "trap" [.str z] [] [.non])
  | trap {i l} {z : Str} {b} : z = "end" ∨ z = "fail" → Okt C W N M known false 0 b → Okt C W N M known i l (.mk false "trap" [.str z] [b] [])
  | sub {i l b} : Okt C W N M known false 0 b → Okt C W N M known i l (.mk false "sub" [] [b] [])
/-! ### names that are noted -/
def add1 (ns : List Str) (z : Str) : List Str := if ns.contains z = true then ns else ns ++ [z]
def adds (ns zs : List Str) : List Str := zs.foldl add1 ns
theorem adds_nil (ns : List Str) : adds ns [] = ns := rfl
theorem adds_app (ns a b : List Str) : adds ns (a ++ b) = adds (adds ns a) b := List.foldl_append
def CS.plus (S : CS) (n : Int) (c v : List Str) : CS := { S with trees := S.trees + n, cmds := adds S.cmds c, vars := adds S.vars v }
theorem plus_plus (S : CS) (n m : Int) (c v d u : List Str) : (S.plus n c v).plus m d u = S.plus (n + m) (c ++ d) (v ++ u) := by
  unfold CS.plus
  simp only [adds_app, Int.add_assoc]
theorem plus_zero (S : CS) : S.plus 0 [] [] = S := by
  cases S
  unfold CS.plus
  simp only [adds_nil, Int.add_zero]
theorem newn_ok {ns : List Str} {z : Str} (h : nameOk z = true) : newName ns (.str z) = (true, add1 ns z) := by
  show (if ns.contains z = true then (true, ns) else if nameOk z = true then (true, ns ++ [z]) else (false, ns)) = _
  rw [h]
  unfold add1
  split <;> rfl
theorem unfs_nn {fs : List (Str × Int)} : ∀ {ks : List Tr}, (∀ k ∈ ks, 1 ≤ unf fs k) → 0 ≤ unfs fs ks
  | [], _ => Int.le_refl _
  | k :: ks, h => by
    have a := h k List.mem_cons_self
    have b := unfs_nn (ks := ks) fun k q => h k (List.mem_cons_of_mem _ q)
    show 0 ≤ unf fs k + unfs fs ks
    omega
/-! ### the check of such a tree -/
def Fns (known : List Str) (fs : List (Str × Int)) : Prop := ∀ f ∈ known, ∃ v, fs.lookup f = some v ∧ 0 ≤ v
theorem Okt.pos {C W : List Str} {N M : Int} {known : List Str} {fs : List (Str × Int)} (F : Fns known fs) {i : Bool} {l : Nat} {t : Tr} (h : Okt C W N M known i l t) : 1 ≤ unf fs t := by
  induction h with
  | run _ => exact Int.le_refl _
  | status _ _ => exact Int.le_refl _
  | var e _ => rcases e with rfl | rfl | rfl <;> exact Int.le_refl _
  | put _ _ _ => exact Int.le_refl _
  | option _ => exact Int.le_refl _
  | jump e _ _ => rcases e with rfl | rfl <;> exact Int.le_refl _
  | ret0 => exact Int.le_refl _
  | ret _ _ => exact Int.le_refl _
  | exit0 => exact Int.le_refl _
  | exit _ _ => exact Int.le_refl _
  | @call _ _ f m =>
    obtain ⟨v, e, p⟩ := F f m
    show 1 ≤ 1 + (0 : Int) + (fs.lookup f).getD 0
    rw [e]
    show 1 ≤ 1 + (0 : Int) + v
    omega
  | @seq _ _ ks _ _ ih =>
    have z : 0 ≤ unfs fs ks := unfs_nn ih
    show 1 ≤ 1 + unfs fs ks + 0
    omega
  | @pipe _ _ ks _ _ ih =>
    have z : 0 ≤ unfs fs ks := unfs_nn ih
    show 1 ≤ 1 + unfs fs ks + 0
    omega
  | @andor _ _ w a b e _ _ ia ib =>
    rcases e with rfl | rfl
    · show 1 ≤ 1 + (unf fs a + (unf fs b + 0)) + 0
      omega
    · show 1 ≤ 1 + (unf fs a + (unf fs b + 0)) + 0
      omega
  | @not _ _ a _ ia =>
    show 1 ≤ 1 + (unf fs a + 0) + 0
    omega
  | @ife _ _ c a b _ _ _ ic ia ib =>
    show 1 ≤ 1 + (unf fs c + (unf fs a + (unf fs b + 0))) + 0
    omega
  | @if1 _ _ c a _ _ ic ia =>
    show 1 ≤ 1 + (unf fs c + (unf fs a + 0)) + 0
    omega
  | @whl _ _ w c b e _ _ ic ib =>
    rcases e with rfl | rfl
    · show 1 ≤ 1 + (unf fs c + (unf fs b + 0)) + 0
      omega
    · show 1 ≤ 1 + (unf fs c + (unf fs b + 0)) + 0
      omega
  | @times _ _ n b n0 _ _ ib =>
    show 1 ≤ 1 + n * (unf fs b + 0)
    have z : 0 ≤ n * (unf fs b + 0) := Int.mul_nonneg n0 (by omega)
    omega
  | trap0 _ => exact Int.le_refl _
  | @trap _ _ z b _ _ ib =>
    show 1 ≤ 1 + (unf fs b + 0) + 0
    omega
  | @sub _ _ b _ ib =>
    show 1 ≤ 1 + (unf fs b + 0) + 0
    omega
structure CondW (C W : List Str) (N M : Int) : Prop where
  c : ∀ z ∈ C, nameOk z = true
  v : ∀ z ∈ W, nameOk z = true
  n : N ≤ 255
  m : M ≤ 255
/-- what the check gives for a tree whose place is counted -/
def Says (t : Tr) (i : Bool) (l : Nat) (known : List Str) : Prop := ∀ (n : Nat) (S : CS) (p : Int), ht t ≤ n + 1 → S.loops = (l : Nat) → S.rets = i → Fns known S.fns → S.places.length + n = 59 → S.trees + cnts [t] ≤ 3001 →
  one (ins n) S p (enc t) = .ok (unf S.fns t, S.plus ((cnt t : Nat) - 1) (cms t) (vrs t))
theorem many_ok {C W : List Str} {N M : Int} {i : Bool} {l : Nat} {known : List Str} {n : Nat} : ∀ (ks : List Tr) (S : CS) (p a : Int), (∀ k ∈ ks, Okt C W N M known i l k) → (∀ k ∈ ks, Says k i l known) → hts ks ≤ n + 1 → S.loops = (l : Nat) → S.rets = i → Fns known S.fns → S.places.length + n = 59 → S.trees + cnts ks ≤ 3000 →
    many (one (ins n)) S (encs ks) p a = .ok (a + unfs S.fns ks, S.plus (cnts ks : Nat) (cmss ks) (vrss ks))
  | [], S, p, a, _, _, _, _, _, _, _, _ => by
    show Except.ok (a, S) = Except.ok (a + 0, S.plus 0 [] [])
    rw [plus_zero, Int.add_zero]
  | k :: ks, S, p, a, ok, says, h, lo, re, F, pl, tr => by
    have hk : ht k ≤ n + 1 ∧ hts ks ≤ n + 1 := by
      have z : max (ht k) (hts ks) ≤ n + 1 := h
      omega
    have ck : 1 ≤ cnt k := by
      cases k
      show 1 ≤ 1 + _
      omega
    have tr2 : S.trees + ((cnt k + cnts ks : Nat) : Int) ≤ 3000 := tr
    show (if S.trees = 3000 then Except.error [] else _) = _
    rw [if_neg (by omega)]
    have one := says k List.mem_cons_self n { S with trees := S.trees + 1 } p hk.1 lo re F pl (by show S.trees + 1 + ((cnt k + 0 : Nat) : Int) ≤ 3001; omega)
    rw [one]
    have pos := Okt.pos F (ok k List.mem_cons_self)
    dsimp only
    rw [if_neg (by omega)]
    have e1 : CS.plus { S with trees := S.trees + 1 } ((cnt k : Nat) - 1) (cms k) (vrs k) = S.plus (cnt k : Nat) (cms k) (vrs k) := by
      unfold CS.plus
      dsimp only
      congr 1
      omega
    rw [e1]
    rw [many_ok ks (S.plus (cnt k : Nat) (cms k) (vrs k)) (p + 1) (a + unf S.fns k) (fun k h => ok k (List.mem_cons_of_mem _ h)) (fun k h => says k (List.mem_cons_of_mem _ h)) hk.2 lo re F pl (by show S.trees + (cnt k : Nat) + (cnts ks : Nat) ≤ 3000; omega)]
    rw [plus_plus, Int.add_assoc]
    show _ = Except.ok (a + (unf S.fns k + unfs S.fns ks), S.plus ((cnt k + cnts ks : Nat) : Int) (cms k ++ cmss ks) (vrs k ++ vrss ks))
    rw [Int.natCast_add]
    rfl
theorem ins_ok {C W : List Str} {N M : Int} {i : Bool} {l : Nat} {known : List Str} {n : Nat} {ks : List Tr} {S : CS} {p : Int} (ok : ∀ k ∈ ks, Okt C W N M known i l k) (says : ∀ k ∈ ks, Says k i l known) (h : 1 + hts ks ≤ n + 1) (ne : 1 ≤ hts ks) (lo : S.loops = (l : Nat)) (re : S.rets = i) (F : Fns known S.fns) (pl : S.places.length + n = 59) (tr : S.trees + cnts ks ≤ 3000) :
    ins n S (encs ks) p = .ok (unfs S.fns ks, S.plus (cnts ks : Nat) (cmss ks) (vrss ks)) := by
  cases n with
  | zero => omega
  | succ m =>
    show (if S.places.length + 1 = 60 then _ else _) = _
    rw [if_neg (by omega), all_eq]
    rw [many_ok ks { S with places := S.places ++ [p] } 0 0 ok says (by omega) lo re F (by show (S.places ++ [p]).length + m = 59; rw [List.length_append]; show S.places.length + 1 + m = 59; omega) tr]
    show Except.ok _ = _
    rw [Int.zero_add]
    congr 2
    unfold CS.plus
    dsimp only
    rw [List.dropLast_concat]
end Ck

namespace Ck
open PySem
theorem one_of {z : Str} {k : Kind} {f : CS → List T → Int → R} {S : CS} {p : Int} {ds : List T} (h : kindOf z = some k) : one f S p (.tup (.str z :: ds)) = act f k S (.str z :: ds) p := by
  show (match kindOf z with | some k => act f k S (.str z :: ds) p | none => Except.ok (0, S)) = _
  rw [h]
theorem ko_run : kindOf "run" = some .run := by decide +kernel
theorem ko_status : kindOf "status" = some .status := by decide +kernel
theorem ko_put : kindOf "put" = some .put := by decide +kernel
theorem ko_option : kindOf "option" = some .option := by decide +kernel
theorem ko_ret : kindOf "return" = some .ret := by decide +kernel
theorem ko_exit : kindOf "exit" = some .exit := by decide +kernel
theorem ko_call : kindOf "call" = some .call := by decide +kernel
theorem ko_seq : kindOf "seq" = some .seq := by decide +kernel
theorem ko_pipe : kindOf "pipe" = some .pipe := by decide +kernel
theorem ko_not : kindOf "not" = some .not := by decide +kernel
theorem ko_if : kindOf "if" = some .ife := by decide +kernel
theorem ko_times : kindOf "times" = some .times := by decide +kernel
theorem ko_trap : kindOf "trap" = some .trap := by decide +kernel
theorem ko_sub : kindOf "sub" = some .sub := by decide +kernel
theorem ko_var {w : Str} (h : w = "give" ∨ w = "zero" ∨ w = "keep") : kindOf w = some .var := by
  rcases h with rfl | rfl | rfl <;> decide +kernel
theorem ko_jump {w : Str} (h : w = "break" ∨ w = "next") : kindOf w = some .jump := by
  rcases h with rfl | rfl <;> decide +kernel
theorem ko_andor {w : Str} (h : w = "and" ∨ w = "or") : kindOf w = some .andor := by
  rcases h with rfl | rfl <;> decide +kernel
theorem ko_whl {w : Str} (h : w = "while" ∨ w = "until") : kindOf w = some .whl := by
  rcases h with rfl | rfl <;> decide +kernel
theorem plus_c (S : CS) (c : List Str) : S.plus (((1 : Nat) : Int) - 1) c [] = { S with cmds := adds S.cmds c } := by
  cases S
  simp [CS.plus, adds]
theorem plus_v (S : CS) (c : List Str) : S.plus (((1 : Nat) : Int) - 1) [] c = { S with vars := adds S.vars c } := by
  cases S
  simp [CS.plus, adds]
theorem plus_n (S : CS) : S.plus (((1 : Nat) : Int) - 1) [] [] = S := by
  cases S
  simp [CS.plus, adds]
theorem within_of {n a b : Int} (h : a ≤ n) (h2 : n ≤ b) : within a b (.int n) = true := by
  show (decide _ && decide _) = true
  rw [decide_eq_true h, decide_eq_true h2]
  rfl
theorem enc_tup : ∀ t : Tr, ∃ ts, enc t = .tup ts
  | .mk true _ _ _ _ => ⟨_, rfl⟩
  | .mk false _ _ _ _ => ⟨_, rfl⟩
theorem enc_non (t : Tr) : isNon (enc t) = false := by
  obtain ⟨ts, e⟩ := enc_tup t
  rw [e]
  rfl
theorem encs_len : ∀ ks : List Tr, (encs ks).length = ks.length
  | [] => rfl
  | k :: ks => by rw [encs, List.length_cons, List.length_cons, encs_len ks]
theorem ht_pos (t : Tr) : 1 ≤ ht t := by
  cases t
  show 1 ≤ 1 + _
  omega
theorem all_one {p : Tr → Prop} {a : Tr} (h : p a) : ∀ k ∈ [a], p k := by
  intro k m
  rw [List.mem_singleton] at m
  exact m ▸ h
theorem all_two {p : Tr → Prop} {a b : Tr} (h : p a) (g : p b) : ∀ k ∈ [a, b], p k := by
  intro k m
  rcases List.mem_cons.mp m with e | m
  · exact e ▸ h
  · exact all_one g k m
theorem all_three {p : Tr → Prop} {a b c : Tr} (h : p a) (g : p b) (f : p c) : ∀ k ∈ [a, b, c], p k := by
  intro k m
  rcases List.mem_cons.mp m with e | m
  · exact e ▸ h
  · exact all_two g f k m
theorem hts_cons (a : Tr) (ks : List Tr) : 1 ≤ hts (a :: ks) := by
  have z := ht_pos a
  show 1 ≤ max (ht a) (hts ks)
  omega
/-- the numbers of a tree with parts -/
theorem plus_in (S : CS) (m : Nat) (c v : List Str) : S.plus (((1 + m : Nat) : Int) - 1) c v = S.plus (m : Nat) c v := by
  congr 1
  omega
section
variable {C W : List Str} {N M : Int} {known : List Str}
/-- parts in the same place -/
theorem in_here {n : Nat} {S : CS} {p : Int} {i : Bool} {l : Nat} {b : Bool} {w : Str} {pre post : List T} {ks : List Tr} (ok : ∀ k ∈ ks, Okt C W N M known i l k) (says : ∀ k ∈ ks, Says k i l known) (ne : 1 ≤ hts ks) (h : ht (.mk b w pre ks post) ≤ n + 1) (lo : S.loops = (l : Nat)) (re : S.rets = i) (F : Fns known S.fns) (pl : S.places.length + n = 59) (tr : S.trees + cnts [.mk b w pre ks post] ≤ 3001) :
    ins n S (encs ks) p = .ok (unfs S.fns ks, S.plus (cnts ks : Nat) (cmss ks) (vrss ks)) :=
  ins_ok ok says h ne lo re F pl (by
    have z : S.trees + ((1 + cnts ks + 0 : Nat) : Int) ≤ 3001 := tr
    omega)
theorem says_ok (Cd : CondW C W N M) {i : Bool} {l : Nat} {t : Tr} (h : Okt C W N M known i l t) : Says t i l known := by
  induction h with
  | @run i l c m =>
    intro n S p _ _ _ _ _ _
    show one _ _ _ (.tup [.str "run", .str c]) = .ok (1, S.plus (((1 : Nat) : Int) - 1) [c] [])
    rw [one_of ko_run, plus_c]
    show Except.ok (b2 (newName S.cmds (.str c)).1, { S with cmds := (newName S.cmds (.str c)).2 }) = _
    rw [newn_ok (Cd.c c m)]
    rfl
  | @status i l a h0 h1 =>
    intro n S p _ _ _ _ _ _
    show one _ _ _ (.tup [.str "status", .int a]) = .ok (1, S.plus (((1 : Nat) : Int) - 1) [] [])
    rw [one_of ko_status, plus_n]
    show Except.ok (b2 (within 0 255 (.int a)), S) = _
    rw [within_of h0 (Int.le_trans h1 Cd.n)]
    rfl
  | @var i l w v e m =>
    intro n S p _ _ _ _ _ _
    have u : unf S.fns (.mk false w [.str v] [] []) = 1 := by rcases e with rfl | rfl | rfl <;> rfl
    have c : cms (.mk false w [.str v] [] []) = [] := by rcases e with rfl | rfl | rfl <;> rfl
    have d : vrs (.mk false w [.str v] [] []) = [v] := by rcases e with rfl | rfl | rfl <;> rfl
    rw [u, c, d]
    show one _ _ _ (.tup [.str w, .str v]) = .ok (1, S.plus (((1 : Nat) : Int) - 1) [] [v])
    rw [one_of (ko_var e), plus_v]
    show Except.ok (b2 (newName S.vars (.str v)).1, { S with vars := (newName S.vars (.str v)).2 }) = _
    rw [newn_ok (Cd.v v m)]
    rfl
  | @put i l v a m h0 h1 =>
    intro n S p _ _ _ _ _ _
    show one _ _ _ (.tup [.str "put", .str v, .int a]) = .ok (1, S.plus (((1 : Nat) : Int) - 1) [] [v])
    rw [one_of ko_put, plus_v]
    show (if within 0 255 (.int a) = true then Except.ok (b2 (newName S.vars (.str v)).1, { S with vars := (newName S.vars (.str v)).2 }) else Except.ok (0, S)) = _
    rw [within_of h0 (Int.le_trans h1 Cd.m), if_pos rfl, newn_ok (Cd.v v m)]
    rfl
  | @option i l z b e =>
    intro n S p _ _ _ _ _ _
    show one _ _ _ (.tup [.str "option", .str z, .bl b]) = .ok (1, S.plus (((1 : Nat) : Int) - 1) [] [])
    rw [one_of ko_option, plus_n]
    show Except.ok (b2 (decide (z = "fail") || decide (z = "pipes")), S) = _
    have q : (decide (z = "fail") || decide (z = "pipes")) = true := by
      rw [Bool.or_eq_true, decide_eq_true_eq, decide_eq_true_eq]
      exact e
    rw [q]
    rfl
  | @jump i l w k e h0 h1 =>
    intro n S p _ lo _ _ _ _
    have u : unf S.fns (.mk false w [.int k] [] []) = 1 := by rcases e with rfl | rfl <;> rfl
    have c : cms (.mk false w [.int k] [] []) = [] := by rcases e with rfl | rfl <;> rfl
    have d : vrs (.mk false w [.int k] [] []) = [] := by rcases e with rfl | rfl <;> rfl
    rw [u, c, d]
    show one _ _ _ (.tup [.str w, .int k]) = .ok (1, S.plus (((1 : Nat) : Int) - 1) [] [])
    rw [one_of (ko_jump e), plus_n]
    show Except.ok (b2 (decide (1 ≤ k) && decide (k ≤ S.loops)), S) = _
    rw [decide_eq_true h0, decide_eq_true (by rw [lo]; exact h1)]
    rfl
  | @ret0 l =>
    intro n S p _ _ re _ _ _
    show one _ _ _ (.tup [.str "return", .non]) = .ok (1, S.plus (((1 : Nat) : Int) - 1) [] [])
    rw [one_of ko_ret, plus_n]
    show (if S.rets = true then Except.ok ((1 : Int), S) else _) = _
    rw [if_pos re]
  | @ret l a h0 h1 =>
    intro n S p _ _ re _ _ _
    show one _ _ _ (.tup [.str "return", .int a]) = .ok (1, S.plus (((1 : Nat) : Int) - 1) [] [])
    rw [one_of ko_ret, plus_n]
    show (if S.rets = true then Except.ok (b2 (isNon (.int a) || within 0 255 (.int a)), S) else _) = _
    rw [if_pos re, within_of h0 (Int.le_trans h1 Cd.n)]
    rfl
  | @exit0 i l =>
    intro n S p _ _ _ _ _ _
    show one _ _ _ (.tup [.str "exit", .non]) = .ok (1, S.plus (((1 : Nat) : Int) - 1) [] [])
    rw [one_of ko_exit, plus_n]
    rfl
  | @exit i l a h0 h1 =>
    intro n S p _ _ _ _ _ _
    show one _ _ _ (.tup [.str "exit", .int a]) = .ok (1, S.plus (((1 : Nat) : Int) - 1) [] [])
    rw [one_of ko_exit, plus_n]
    show Except.ok (b2 (isNon (.int a) || within 0 255 (.int a)), S) = _
    rw [within_of h0 (Int.le_trans h1 Cd.n)]
    rfl
  | @call i l f m =>
    intro n S p _ _ _ F _ _
    obtain ⟨v, e, v0⟩ := F f m
    show one _ _ _ (.tup [.str "call", .str f]) = .ok (1 + (0 : Int) + (S.fns.lookup f).getD 0, S.plus (((1 : Nat) : Int) - 1) [] [])
    rw [one_of ko_call, plus_n]
    show (match S.fns.lookup f with | some v => Except.ok (1 + v, S) | none => Except.ok (0, S)) = _
    rw [e]
    show Except.ok (1 + v, S) = Except.ok (1 + (0 : Int) + v, S)
    rw [Int.add_zero]
  | @seq i l ks two ok ih =>
    intro n S p h lo re F pl tr
    have ne : 1 ≤ hts ks := by
      cases ks with
      | nil => exact absurd two.1 (by decide)
      | cons a r => exact hts_cons a r
    show one _ _ _ (.tup [.str "seq", .tup (encs ks)]) = .ok (1 + unfs S.fns ks + 0, S.plus (((1 + cnts ks : Nat) : Int) - 1) (cmss ks) (vrss ks))
    rw [one_of ko_seq, plus_in, Int.add_zero]
    show (if 2 ≤ (encs ks).length then inc (ins n S (encs ks) p) else _) = _
    rw [if_pos (by rw [encs_len]; exact two.1), in_here ok ih ne h lo re F pl tr]
    rfl
  | @pipe i l ks two ok ih =>
    intro n S p h lo re F pl tr
    have ne : 1 ≤ hts ks := by
      cases ks with
      | nil => exact absurd two.1 (by decide)
      | cons a r => exact hts_cons a r
    show one _ _ _ (.tup [.str "pipe", .tup (encs ks)]) = .ok (1 + unfs S.fns ks + 0, S.plus (((1 + cnts ks : Nat) : Int) - 1) (cmss ks) (vrss ks))
    rw [one_of ko_pipe, plus_in, Int.add_zero]
    show (if 2 ≤ (encs ks).length then inc (behind (fun S' => { S' with loops := S.loops, rets := S.rets }) (ins n { S with loops := 0, rets := false } (encs ks) p)) else _) = _
    rw [if_pos (by rw [encs_len]; exact two.1), in_here (S := { S with loops := 0, rets := false }) ok ih ne h rfl rfl F pl tr]
    rfl
  | @andor i l w a b e oa ob ia ib =>
    intro n S p h lo re F pl tr
    have u : unf S.fns (.mk false w [] [a, b] []) = 1 + unfs S.fns [a, b] := by rcases e with rfl | rfl <;> exact Int.add_zero _
    have c : cms (.mk false w [] [a, b] []) = cmss [a, b] := by rcases e with rfl | rfl <;> rfl
    have d : vrs (.mk false w [] [a, b] []) = vrss [a, b] := by rcases e with rfl | rfl <;> rfl
    rw [u, c, d]
    show one _ _ _ (.tup [.str w, enc a, enc b]) = .ok (1 + unfs S.fns [a, b], S.plus (((1 + cnts [a, b] : Nat) : Int) - 1) (cmss [a, b]) (vrss [a, b]))
    rw [one_of (ko_andor e), plus_in]
    show inc (ins n S (encs [a, b]) p) = _
    rw [in_here (all_two oa ob) (all_two ia ib) (hts_cons _ _) h lo re F pl tr]
    rfl
  | @not i l a oa ia =>
    intro n S p h lo re F pl tr
    show one _ _ _ (.tup [.str "not", enc a]) = .ok (1 + unfs S.fns [a] + 0, S.plus (((1 + cnts [a] : Nat) : Int) - 1) (cmss [a]) (vrss [a]))
    rw [one_of ko_not, plus_in, Int.add_zero]
    show inc (ins n S (encs [a]) p) = _
    rw [in_here (all_one oa) (all_one ia) (hts_cons _ _) h lo re F pl tr]
    rfl
  | @ife i l c a b oc oa ob ic ia ib =>
    intro n S p h lo re F pl tr
    show one _ _ _ (.tup [.str "if", enc c, enc a, enc b]) = .ok (1 + unfs S.fns [c, a, b] + 0, S.plus (((1 + cnts [c, a, b] : Nat) : Int) - 1) (cmss [c, a, b]) (vrss [c, a, b]))
    rw [one_of ko_if, plus_in, Int.add_zero]
    show inc (ins n S (if isNon (enc b) = true then [enc c, enc a] else encs [c, a, b]) p) = _
    rw [enc_non, if_neg Bool.false_ne_true, in_here (all_three oc oa ob) (all_three ic ia ib) (hts_cons _ _) h lo re F pl tr]
    rfl
  | @if1 i l c a oc oa ic ia =>
    intro n S p h lo re F pl tr
    show one _ _ _ (.tup [.str "if", enc c, enc a, .non]) = .ok (1 + unfs S.fns [c, a] + 0, S.plus (((1 + cnts [c, a] : Nat) : Int) - 1) (cmss [c, a]) (vrss [c, a]))
    rw [one_of ko_if, plus_in, Int.add_zero]
    show inc (ins n S (encs [c, a]) p) = _
    rw [in_here (all_two oc oa) (all_two ic ia) (hts_cons _ _) h lo re F pl tr]
    rfl
  | @whl i l w a b e oa ob ia ib =>
    intro n S p h lo re F pl tr
    have u : unf S.fns (.mk false w [] [a, b] []) = 1 + unfs S.fns [a, b] := by rcases e with rfl | rfl <;> exact Int.add_zero _
    have c : cms (.mk false w [] [a, b] []) = cmss [a, b] := by rcases e with rfl | rfl <;> rfl
    have d : vrs (.mk false w [] [a, b] []) = vrss [a, b] := by rcases e with rfl | rfl <;> rfl
    rw [u, c, d]
    show one _ _ _ (.tup [.str w, enc a, enc b]) = .ok (1 + unfs S.fns [a, b], S.plus (((1 + cnts [a, b] : Nat) : Int) - 1) (cmss [a, b]) (vrss [a, b]))
    rw [one_of (ko_whl e), plus_in]
    show inc (behind (fun S' => { S' with loops := S'.loops - 1 }) (ins n { S with loops := S.loops + 1 } (encs [a, b]) p)) = _
    rw [in_here (S := { S with loops := S.loops + 1 }) (all_two oa ob) (all_two ia ib) (hts_cons _ _) h (by show S.loops + 1 = ((l + 1 : Nat) : Int); rw [lo]; rfl) re F pl tr]
    show Except.ok _ = _
    have z : S.loops + 1 - 1 = S.loops := Int.add_sub_cancel _ _
    congr 2
    unfold CS.plus
    dsimp only
    rw [z]
  | @times i l k b k0 k1 ob ib =>
    intro n S p h lo re F pl tr
    show one _ _ _ (.tup [.str "times", .int k, enc b]) = .ok (1 + k * unfs S.fns [b], S.plus (((1 + cnts [b] : Nat) : Int) - 1) (cmss [b]) (vrss [b]))
    rw [one_of ko_times, plus_in]
    show (if within 0 1000 (.int k) = true then timed k (behind (fun S' => { S' with loops := S'.loops - 1 }) (ins n { S with loops := S.loops + 1 } (encs [b]) p)) else _) = _
    rw [within_of k0 k1, if_pos rfl, in_here (S := { S with loops := S.loops + 1 }) (all_one ob) (all_one ib) (hts_cons _ _) h (by show S.loops + 1 = ((l + 1 : Nat) : Int); rw [lo]; rfl) re F pl tr]
    show Except.ok _ = _
    have z : S.loops + 1 - 1 = S.loops := Int.add_sub_cancel _ _
    congr 2
    unfold CS.plus
    dsimp only
    rw [z]
  | @trap0 i l z e =>
    intro n S p h lo re F pl tr
    show one _ _ _ (.tup [.str "trap", .str z, .non]) = .ok (1, S.plus (((1 : Nat) : Int) - 1) [] [])
    rw [one_of ko_trap, plus_n]
    show (if z = "end" ∨ z = "fail" then Except.ok ((1 : Int), S) else _) = _
    rw [if_pos e]
  | @trap i l z b e ob ib =>
    intro n S p h lo re F pl tr
    show one _ _ _ (.tup [.str "trap", .str z, enc b]) = .ok (1 + unfs S.fns [b] + 0, S.plus (((1 + cnts [b] : Nat) : Int) - 1) (cmss [b]) (vrss [b]))
    rw [one_of ko_trap, plus_in, Int.add_zero]
    show (if z = "end" ∨ z = "fail" then (if isNon (enc b) = true then Except.ok ((1 : Int), S) else inc (behind (fun S' => { S' with loops := S.loops, rets := S.rets }) (ins n { S with loops := 0, rets := false } (encs [b]) p))) else _) = _
    rw [if_pos e, enc_non, if_neg Bool.false_ne_true, in_here (S := { S with loops := 0, rets := false }) (all_one ob) (all_one ib) (hts_cons _ _) h rfl rfl F pl tr]
    rfl
  | @sub i l b ob ib =>
    intro n S p h lo re F pl tr
    show one _ _ _ (.tup [.str "sub", enc b]) = .ok (1 + unfs S.fns [b] + 0, S.plus (((1 + cnts [b] : Nat) : Int) - 1) (cmss [b]) (vrss [b]))
    rw [one_of ko_sub, plus_in, Int.add_zero]
    show inc (behind (fun S' => { S' with loops := S.loops, rets := S.rets }) (ins n { S with loops := 0, rets := false } (encs [b]) p)) = _
    rw [in_here (S := { S with loops := 0, rets := false }) (all_one ob) (all_one ib) (hts_cons _ _) h rfl rfl F pl tr]
    rfl
end
end Ck

/-! How a program is carried out, as plain functions over data. -/
namespace Wk
open PySem Ck
def kids : Tr → List Tr | .mk _ _ _ ks _ => ks
def word : Tr → Str | .mk _ w _ _ _ => w
def pre : Tr → List T | .mk _ _ p _ _ => p
/-- the number, the text, the switch that a tree holds -/
def num (t : Tr) : Int := match pre t with | .int n :: _ => n | _ => 0
def num2 (t : Tr) : Int := match pre t with | _ :: .int n :: _ => n | _ => 0
def txt (t : Tr) : Str := match pre t with | .str z :: _ => z | _ => ""
def swi (t : Tr) : Bool := match pre t with | _ :: .bl b :: _ => b | _ => false
def isN (t : Tr) : Bool := match pre t with | .non :: _ => true | _ => false
structure Nd where
  t : Tr
  p : List Int
def Nd.part (n : Nd) (k : Nat) : Nd := ⟨(kids n.t)[k]?.getD n.t, n.p ++ [(k : Int)]⟩
structure Fm where
  nd : Nd
  te : Bool
  place : Nat
  held : Int
  started : Int
  rounds : Int
structure Sh where
  last : Int
  fail : Bool
  pipes : Bool
  vars : List (Str × Int)
  tEnd : Option Nd
  tFail : Option Nd
  ending : Bool
  ended : Bool
  frames : List Fm
  calls : Int
  tst : Option Int
structure W where
  shells : List Sh
  coming : Option Nd
  te : Bool
  begun : Int
  asking : Option Nd
  status : Option Int
  silent : Bool
  going : Bool
  tot : Nat
def Sh.open (s : Sh) (nd : Nd) (te : Bool) : Sh := { s with frames := ⟨nd, te, 0, 0, 0, 0⟩ :: s.frames }
def W.plan (w : W) (nd : Nd) (te : Bool) : W := { w with coming := some nd, te := te }
def Sh.leaveAll (s : Sh) (st : Int) : Sh := { s with ending := true, frames := [], last := st, calls := 0, tst := none }
/-- begins a trap's body in the shell s -/
def trapBody (w : W) (s : Sh) (r : List Sh) (nd : Nd) : W := { w with shells := { s.open nd true with tst := some s.last } :: r }.plan (nd.part 0) true
def setChecked (w : W) (st : Int) (te : Bool) : W := match w.shells with
  | [] => w
  | s :: r => if te = true ∨ st = 0 then { w with shells := { s with last := st } :: r } else
    match s.tFail with
    | some nd => if s.calls = 0 then trapBody w { s with last := st } r nd else if s.fail then { w with shells := ({ s with last := st }).leaveAll st :: r } else { w with shells := { s with last := st } :: r }
    | none => if s.fail then { w with shells := ({ s with last := st }).leaveAll st :: r } else { w with shells := { s with last := st } :: r }
def retTrap (w : W) (s : Sh) (r : List Sh) (fs : List Fm) : W :=
  let st := s.tst.getD 0
  let s1 := { s with tst := none, frames := fs, last := st }
  { w with shells := (if s.fail then s1.leaveAll st else s1) :: r }
/-- the innermost tree goes on with its part k -/
def beginPart (w : W) (s : Sh) (r : List Sh) (f : Fm) (fs : List Fm) (k : Nat) : W := { w with shells := { s with frames := { f with place := k } :: fs } :: r }.plan (f.nd.part k) f.te
def newShell (s : Sh) (st : Int) : Sh := ⟨st, s.fail, s.pipes, s.vars, none, none, false, false, [], 0, none⟩
/-- part k of a pipe, or of a sub, in a shell of its own -/
def partIn (w : W) (s : Sh) (r : List Sh) (f : Fm) (fs : List Fm) (k : Nat) : W := { w with shells := newShell s f.started :: { s with frames := { f with place := k } :: fs } :: r }.plan (f.nd.part k) f.te
def popFm (w : W) (s : Sh) (r : List Sh) (fs : List Fm) : W := { w with shells := { s with frames := fs } :: r }
def finishCall (w : W) (s : Sh) (r : List Sh) (f : Fm) (fs : List Fm) : W := setChecked { w with shells := { s with frames := fs, calls := s.calls - 1 } :: r } s.last f.te
/-- goes on behind the end of a shell in the tree that started it -/
def shellBack (w : W) (s : Sh) (r : List Sh) (f : Fm) (fs : List Fm) (st : Int) : W :=
  if word f.nd.t = "sub" then setChecked { w with shells := { s with frames := fs } :: r } st f.te else
    let h := if st = 0 then f.held else st
    if f.place + 1 < (kids f.nd.t).length then partIn { w with shells := s :: r } s r { f with held := h } fs (f.place + 1)
    else setChecked { w with shells := { s with frames := fs } :: r } (if s.pipes then h else st) f.te
def closeShell (w : W) : W := match w.shells with
  | [] => w
  | [s] => { w with shells := [], status := some s.last, going := false }
  | s0 :: s :: r => match s.frames with
    | [] => w
    | f :: fs => shellBack { w with shells := s :: r } s r f fs s0.last
/-- behind the end of a part of the innermost tree -/
def behind (w : W) (s : Sh) (r : List Sh) (f : Fm) (fs : List Fm) : W :=
  let z := word f.nd.t
  if z = "trap" then retTrap w s r fs
  else if z = "seq" then (if f.place + 1 < (kids f.nd.t).length then beginPart w s r f fs (f.place + 1) else popFm w s r fs)
  else if z = "and" ∨ z = "or" then (if f.place = 0 ∧ (decide (s.last = 0) = decide (z = "and")) then beginPart w s r f fs 1 else popFm w s r fs)
  else if z = "not" then popFm w { s with last := if s.last = 0 then 1 else 0 } r fs
  else if z = "if" then (if f.place = 0 ∧ s.last = 0 then beginPart w s r f fs 1 else if f.place = 0 ∧ (kids f.nd.t).length = 3 then beginPart w s r f fs 2 else popFm w { s with last := if f.place = 0 then 0 else s.last } r fs)
  else if z = "while" ∨ z = "until" then (if f.place = 1 then { w with shells := { s with frames := { f with held := s.last, place := 0 } :: fs } :: r }.plan (f.nd.part 0) true
    else if decide (s.last = 0) = decide (z = "while") then beginPart w s r f fs 1 else popFm w { s with last := f.held } r fs)
  else if z = "times" then (if f.rounds - 1 > 0 then beginPart w s r { f with rounds := f.rounds - 1 } fs 0 else popFm w s r fs)
  else finishCall w s r f fs
def goBack (w : W) : W := match w.shells with
  | [] => w
  | s :: r => match s.frames with
    | f :: fs => behind w s r f fs
    | [] => match s.tEnd, s.ended with
      | some nd, false => trapBody w { s with ending := true, ended := true } r nd
      | _, _ => closeShell { w with shells := { s with ending := true } :: r }
def setV (vs : List (Str × Int)) (z : Str) (i : Int) : List (Str × Int) := vs.map fun p => if p.1 = z then (z, i) else p
def getV (vs : List (Str × Int)) (z : Str) : Int := (vs.lookup z).getD 0
def isLoop (t : Tr) : Bool := decide (word t = "while") || (decide (word t = "until") || decide (word t = "times"))
def leaveLoop : Int → List Fm → List Fm
  | _, [] => []
  | n, f :: fs => if isLoop f.nd.t then (if n = 1 then f :: fs else leaveLoop (n - 1) fs) else leaveLoop n fs
def leaveCall : List Fm → List Fm
  | [] => []
  | f :: fs => if word f.nd.t = "call" then f :: fs else leaveCall fs
/-- the beginning of a tree -/
def begin (B : List (Str × Nd)) (w : W) (nd : Nd) (te : Bool) : W := match w.shells with
  | [] => w
  | s :: r =>
    let z := word nd.t
    if z = "run" then { w with asking := some nd, going := false }
    else if z = "status" then setChecked w (num nd.t) te
    else if z = "give" then setChecked w (getV s.vars (txt nd.t)) te
    else if z = "zero" then setChecked w (if getV s.vars (txt nd.t) = 0 then 0 else 1) te
    else if z = "keep" then { w with shells := { s with vars := setV s.vars (txt nd.t) s.last, last := 0 } :: r }
    else if z = "put" then { w with shells := { s with vars := setV s.vars (txt nd.t) (num2 nd.t), last := 0 } :: r }
    else if z = "option" then { w with shells := { s with fail := if txt nd.t = "fail" then swi nd.t else s.fail, pipes := if txt nd.t = "pipes" then swi nd.t else s.pipes, last := 0 } :: r }
    else if z = "trap" then { w with shells := { s with tEnd := if txt nd.t = "end" then (if (kids nd.t).isEmpty then none else some nd) else s.tEnd, tFail := if txt nd.t = "fail" then (if (kids nd.t).isEmpty then none else some nd) else s.tFail, last := 0 } :: r }
    else if z = "seq" then { w with shells := s.open nd te :: r }.plan (nd.part 0) te
    else if z = "and" ∨ z = "or" ∨ z = "not" ∨ z = "if" ∨ z = "while" ∨ z = "until" then { w with shells := s.open nd te :: r }.plan (nd.part 0) true
    else if z = "times" then (if num nd.t = 0 then { w with shells := { s with last := 0 } :: r } else { w with shells := { s with frames := ⟨nd, te, 0, 0, 0, num nd.t⟩ :: s.frames } :: r }.plan (nd.part 0) te)
    else if z = "break" then { w with shells := { s with frames := (leaveLoop (num nd.t) s.frames).tail, last := 0 } :: r }
    else if z = "next" then { w with shells := { s with frames := (match leaveLoop (num nd.t) s.frames with | f :: fs => { f with place := (kids f.nd.t).length - 1 } :: fs | [] => []), last := 0 } :: r }
    else if z = "call" then { w with shells := { s.open nd te with calls := s.calls + 1 } :: r }.plan ((B.lookup (txt nd.t)).getD nd) te
    else if z = "return" then (match leaveCall s.frames with | f :: fs => finishCall w { s with last := if isN nd.t then s.last else num nd.t } r f fs | [] => w)
    else if z = "exit" then { w with shells := s.leaveAll (if isN nd.t then s.tst.getD s.last else num nd.t) :: r }
    else { w with shells := newShell s s.last :: { s with frames := ⟨nd, te, 0, 0, s.last, 0⟩ :: s.frames } :: r }.plan (nd.part 0) te
def step (B : List (Str × Nd)) (w : W) : W := match w.coming with
  | none => goBack w
  | some nd => if w.begun = 1000 then { w with silent := true, going := false } else begin B { w with coming := none, begun := w.begun + 1, tot := w.tot + 1 } nd w.te
def start (vars : List (Str × Int)) (m : Nd) : W := ⟨[⟨0, false, false, vars, none, none, false, false, [], 0, none⟩], some m, false, 0, none, none, false, true, 0⟩
end Wk

/-! Expressions in which something is drawn: which values they may have. -/
namespace Ck
open PySem PySem.Spec PyProof.Rows L2
local macro_rules | `(tactic| bv_omega) => `(tactic| try dsimp only [L2.tRet, L2.tRetN, tAndV, tOrV, tNotV, tCB, L2.tCons, L2.tNil, tC, tVar, L2.tOp, L2.tUn, tSeq, tAsg, gName, tIfS, tTest, tNext, tAnd, tOr, tNot, L2.tIf, tFld, sFld, sFldAug, tCall, tTup, tB, tAug, tDrop, L2.tSl, tPart, tNoPart, tBM, tBM0, tChain, gTup, gCons, gNil, tPar, tIs, List.set, L2.start, iTup, L2.iList, L2.iRng1, tUn, tLst, tTest, gSub, tCall, L2.tIf, tCB, rRep, List.set, List.cons_append, List.nil_append, cxOf])
abbrev TSet := T → Prop
abbrev TsSet := List T → Prop
section
variable {X : Cx} {P : Program} {w : World} {K : PySem.W.Frag} {mg : Str → Option Value} {base : Heap} {H H1 H2 : Hp} {l : Addr}
theorem pe_imp {e : Expr} {t t' : TE} (p : PE X e t) (h : ∀ σ H Q, t' σ H Q → t σ H Q) : PE X e t' := ⟨fun pins s σ H Q I z => p.run pins s σ H Q I (h σ H Q z)⟩
theorem pa_imp {e : List Expr} {t t' : TA} (p : PA X e t) (h : ∀ σ H Q, t' σ H Q → t σ H Q) : PA X e t' := ⟨fun ps pins s σ H Q I z => p.run ps pins s σ H Q I (h σ H Q z)⟩
theorem same_id : Same H H := fun _ _ z => z
theorem same_new {p : Addr} {o : HO} (n : H p = none) : Same H (upd H p o) := Ck.Same.new same_id n
/-- a list of data at an address -/
def LD (K : PySem.W.Frag) (H : Hp) (a : Addr) (ts : List T) : Prop := ∃ xs, H a = some (.lst xs) ∧ Dats K H xs ts
/-- all but the source stays -/
structure Dr (l : Addr) (H H' : Hp) : Prop where
  keep : ∀ p o, p ≠ l → H p = some o → H' p = some o
  st : Stay H H'
  sr : Sr l H'
theorem Dr.refl (s : Sr l H) : Dr l H H := ⟨fun _ _ _ z => z, fun _ _ z => z, s⟩
theorem Dr.trans (a : Dr l H H1) (b : Dr l H1 H2) : Dr l H H2 := ⟨fun p o n z => b.keep p o n (a.keep p o n z), a.st.trans b.st, b.sr⟩
theorem Dr.same (s : Sr l H) (h : Same H H1) : Dr l H H1 := ⟨fun p o _ z => h p o z, same_stay h, s.up h⟩
theorem Dr.new {p : Addr} {o : HO} (a : Dr l H H1) (n : H1 p = none) : Dr l H (upd H1 p o) := a.trans (.same a.sr (same_new n))
theorem Sr.ne {p : Addr} (s : Sr l H) (n : H p = none) : p ≠ l := by
  obtain ⟨a, c, k, e⟩ := s
  rintro rfl
  rw [n] at e
  cases e
theorem LD.up {a : Addr} {ts : List T} (h : LD K H a ts) (s : Same H H1) : LD K H1 a ts := by
  obtain ⟨xs, e, d⟩ := h
  exact ⟨xs, s _ _ e, d.up (same_stay s)⟩
theorem LD.dr {a : Addr} {ts : List T} (h : LD K H a ts) (s : Dr l H H1) (n : a ≠ l) : LD K H1 a ts := by
  obtain ⟨xs, e, d⟩ := h
  exact ⟨xs, s.keep _ _ n e, d.up s.st⟩
theorem dat_int {v : V} {i : Int} (d : Dat K H v (.int i)) : v = .int i := by
  obtain ⟨im, _⟩ := d
  cases im
  rfl
theorem dat_str {v : V} {z : Str} (d : Dat K H v (.str z)) : v = .str z := by
  obtain ⟨im, _⟩ := d
  cases im
  rfl
theorem dat_bl {v : V} {b : Bool} (d : Dat K H v (.bl b)) : v = .bl b := by
  obtain ⟨im, _⟩ := d
  cases im
  rfl
theorem dat_non {v : V} (d : Dat K H v .non) : v = .non := by
  obtain ⟨im, _⟩ := d
  cases im
  rfl
theorem dat_tup {v : V} {ts : List T} (d : Dat K H v (.tup ts)) : ∃ a xs, v = .ref a ∧ H a = some (.tup xs) ∧ Dats K H xs ts := by
  obtain ⟨im, f⟩ := d
  cases im with
  | tup e r => exact ⟨_, _, rfl, e, r, by rw [flatT] at f; exact f⟩
theorem dats_nil {vs : List V} (d : Dats K H vs []) : vs = [] := List.eq_nil_of_length_eq_zero d.len
theorem dats_cons {vs : List V} {t : T} {ts : List T} (d : Dats K H vs (t :: ts)) : ∃ v us, vs = v :: us ∧ Dat K H v t ∧ Dats K H us ts := by
  obtain ⟨im, f⟩ := d
  have f2 := flatTs_cons f
  cases im with
  | cons a r => exact ⟨_, _, rfl, ⟨a, f2.1⟩, ⟨r, f2.2⟩⟩
theorem Dats.at {vs : List V} {ts : List T} (d : Dats K H vs ts) {n : Nat} {t : T} (h : ts[n]? = some t) : ∃ v, vs[n]? = some v ∧ Dat K H v t := by
  induction n generalizing vs ts with
  | zero =>
    cases ts with
    | nil => cases h
    | cons t ts =>
      obtain ⟨v, us, rfl, a, r⟩ := dats_cons d
      cases h
      exact ⟨v, rfl, a⟩
  | succ n ih =>
    cases ts with
    | nil => cases h
    | cons t ts =>
      obtain ⟨v, us, rfl, a, r⟩ := dats_cons d
      exact ih r h
abbrev tR (K : PySem.W.Frag) (l : Addr) (C : L2.St → Hp → TSet → Prop) : TE := fun σ H Q => ∃ D, C σ H D ∧ Sr l H ∧ ∀ t v H', D t → Dr l H H' → Dat K H' v t → Q v H'
abbrev tRs (K : PySem.W.Frag) (l : Addr) (C : L2.St → Hp → TsSet → Prop) : TA := fun σ H Q => ∃ D, C σ H D ∧ Sr l H ∧ ∀ ts vs H', D ts → Dr l H H' → Dats K H' vs ts → Q vs H'
abbrev tRl (K : PySem.W.Frag) (l : Addr) (C : L2.St → Hp → TsSet → Prop) : TE := fun σ H Q => ∃ D, C σ H D ∧ Sr l H ∧ ∀ ts a H', D ts → Dr l H H' → a ≠ l → LD K H' a ts → Q (.ref a) H'
structure PR (X : Cx) (l : Addr) (e : Expr) (C : L2.St → Hp → TSet → Prop) : Prop where
  pe : PE X e (tR X.K l C)
  up : ∀ σ H H' D, Dr l H H' → C σ H D → C σ H' D
structure PRs (X : Cx) (l : Addr) (es : List Expr) (C : L2.St → Hp → TsSet → Prop) : Prop where
  pa : PA X es (tRs X.K l C)
  up : ∀ σ H H' D, Dr l H H' → C σ H D → C σ H' D
structure PRl (X : Cx) (l : Addr) (e : Expr) (C : L2.St → Hp → TsSet → Prop) : Prop where
  pe : PE X e (tRl X.K l C)
  up : ∀ σ H H' D, Dr l H H' → C σ H D → C σ H' D
theorem pe_r {e : Expr} {C : L2.St → Hp → TSet → Prop} (h : PR X l e C) : PE X e (tR X.K l C) := h.pe
theorem pe_rl {e : Expr} {C : L2.St → Hp → TsSet → Prop} (h : PRl X l e C) : PE X e (tRl X.K l C) := h.pe
/-! ### the rules -/
theorem pr_int {i : Int} {j : Nat} {pos : Pos} : PR X l (.Constant (.int i) j pos) fun _ _ D => D = fun t => t = .int i :=
  ⟨pe_imp pe_int fun σ H Q ⟨D, e, s, q⟩ => by subst e; exact q _ _ _ rfl (.refl s) (.int i), fun _ _ _ _ _ h => h⟩
theorem pr_non {j : Nat} {pos : Pos} : PR X l (.Constant .none j pos) fun _ _ D => D = fun t => t = .non :=
  ⟨pe_imp pe_non fun σ H Q ⟨D, e, s, q⟩ => by subst e; exact q _ _ _ rfl (.refl s) .non, fun _ _ _ _ _ h => h⟩
theorem pr_str {z : Str} {j : Nat} {pos : Pos} (few : z.length ≤ 100 := by decide +kernel) : PR X l (.Constant (.str z) j pos) fun _ _ D => D = fun t => t = .str z :=
  ⟨pe_imp pe_str fun σ H Q ⟨D, e, s, q⟩ => by subst e; exact q _ _ _ rfl (.refl s) (.str few), fun _ _ _ _ _ h => h⟩
theorem Dat.bl (b : Bool) : Dat K H (.bl b) (.bl b) := ⟨.bl b, rfl⟩
theorem pr_bool {b : Bool} {j : Nat} {pos : Pos} : PR X l (.Constant (.bool b) j pos) fun _ _ D => D = fun t => t = .bl b :=
  ⟨pe_imp pe_bl fun σ H Q ⟨D, e, s, q⟩ => by subst e; exact q _ _ _ rfl (.refl s) (.bl b), fun _ _ _ _ _ h => h⟩
theorem pr_var (i : Nat) {x : Str} {pos : Pos} (p : PE X (.Name x pos) (tVar i)) : PR X l (.Name x pos) fun σ H D => ∃ v t, σ[i]? = some (some v) ∧ Dat X.K H v t ∧ D = fun u => u = t :=
  ⟨pe_imp p fun σ H Q ⟨D, ⟨v, t, e, d, z⟩, s, q⟩ => by subst z; exact ⟨v, e, q _ _ _ rfl (.refl s) d⟩, fun _ _ _ _ s ⟨v, t, e, d, z⟩ => ⟨v, t, e, d.up s.st, z⟩⟩
theorem prs_nil : PRs X l [] fun _ _ D => D = fun ts => ts = [] := ⟨pa_imp pa_nil fun σ H Q ⟨D, e, s, q⟩ => by subst e; exact q _ _ _ rfl (.refl s) .nil, fun _ _ _ _ _ h => h⟩
theorem prs_cons {e : Expr} {es : List Expr} {C : L2.St → Hp → TSet → Prop} {Cs : L2.St → Hp → TsSet → Prop} (a : PR X l e C) (r : PRs X l es Cs) (h : starEach (e :: es) X.env = (false, eval e X.env) :: starEach es X.env := by rfl) :
    PRs X l (e :: es) fun σ H D => ∃ D1 D2, C σ H D1 ∧ Cs σ H D2 ∧ D = fun ts => ∃ t us, ts = t :: us ∧ D1 t ∧ D2 us :=
  ⟨pa_imp (pa_cons a.pe r.pa h) fun σ H Q ⟨D, ⟨D1, D2, c1, c2, e⟩, s, q⟩ => by
    subst e
    refine ⟨D1, c1, s, fun t v H1 d1 r1 a1 => ⟨D2, r.up _ _ _ _ r1 c2, r1.sr, fun us vs H2 d2 r2 a2 => ?_⟩⟩
    exact q _ _ _ ⟨t, us, rfl, d1, d2⟩ (r1.trans r2) (.cons (a1.up r2.st) a2), fun σ _ _ _ s ⟨D1, D2, c1, c2, e⟩ => ⟨D1, D2, a.up _ _ _ _ s c1, r.up _ _ _ _ s c2, e⟩⟩
theorem pr_tup {es : List Expr} {j : Nat} {pos : Pos} {Cs : L2.St → Hp → TsSet → Prop} (a : PRs X l es Cs) (few : es.length ≤ 1000 := by decide) : PR X l (.Tuple es j pos) fun σ H D => ∃ D1, Cs σ H D1 ∧ (∀ ts, D1 ts → ts.length ≤ 1000) ∧ D = fun t => ∃ ts, t = .tup ts ∧ D1 ts :=
  ⟨pe_imp (pe_tup a.pa) fun σ H Q ⟨D, ⟨D1, c, b, e⟩, s, q⟩ => by
    subst e
    refine ⟨D1, c, s, fun ts vs H1 d1 r1 a1 => ⟨sl (by rw [a1.len]; have := b ts d1; omega), fun p n => ?_⟩⟩
    exact q _ _ _ ⟨ts, rfl, d1⟩ (r1.new n) ((a1.up (same_stay (same_new n))).tup upd_same), fun σ _ _ _ s ⟨D1, c, b, e⟩ => ⟨D1, a.up _ _ _ _ s c, b, e⟩⟩
theorem prl_disp {es : List Expr} {pos : Pos} {Cs : L2.St → Hp → TsSet → Prop} (a : PRs X l es Cs) : PRl X l (.List es pos) fun σ H D => Cs σ H D ∧ (∀ ts, D ts → ts.length ≤ 1000) :=
  ⟨pe_imp (pe_lst a.pa) fun σ H Q ⟨D, ⟨c, b⟩, s, q⟩ => by
    refine ⟨D, c, s, fun ts vs H1 d1 r1 a1 => ⟨sl (by rw [a1.len]; have := b ts d1; omega), fun p n => ?_⟩⟩
    exact q _ _ _ d1 (r1.new n) (r1.sr.ne n) ⟨vs, upd_same, a1.up (same_stay (same_new n))⟩, fun σ _ _ _ s ⟨c, b⟩ => ⟨a.up _ _ _ _ s c, b⟩⟩
theorem prl_var (i : Nat) {x : Str} {pos : Pos} (p : PE X (.Name x pos) (tVar i)) : PRl X l (.Name x pos) fun σ H D => ∃ a ts, σ[i]? = some (some (.ref a)) ∧ a ≠ l ∧ LD X.K H a ts ∧ D = fun us => us = ts :=
  ⟨pe_imp p fun σ H Q ⟨D, ⟨a, ts, e, n, d, z⟩, s, q⟩ => by subst z; exact ⟨_, e, q _ _ _ rfl (.refl s) n d⟩, fun _ _ _ _ s ⟨a, ts, e, n, d, z⟩ => ⟨a, ts, e, n, d.dr s n, z⟩⟩
/-- one of a list by a number -/
theorem pr_atL {e ix : Expr} {pos : Pos} {Cl : L2.St → Hp → TsSet → Prop} {Ci : L2.St → Hp → TSet → Prop} (ha : PRl X l e Cl) (hi : PR X l ix Ci) (hs : PlainIx ix) :
    PR X l (.Subscript e ix pos) fun σ H D => ∃ D1 D2, Cl σ H D1 ∧ Ci σ H D2 ∧ (∀ ts t, D1 ts → D2 t → ∃ (k : Nat) (u : T), t = .int (k : Nat) ∧ ts[k]? = some u) ∧ D = fun u => ∃ ts, ∃ k : Nat, D1 ts ∧ D2 (.int (k : Nat)) ∧ ts[k]? = some u :=
  ⟨pe_imp (pe_ix ix_list ha.pe hi.pe hs) fun σ H Q ⟨D, ⟨D1, D2, c1, c2, b, e⟩, s, q⟩ => by
    subst e
    refine ⟨D1, c1, s, fun ts a H1 d1 r1 na ⟨xs, ex, dx⟩ => ⟨D2, hi.up _ _ _ _ r1 c2, r1.sr, fun t v H2 d2 r2 a2 => ?_⟩⟩
    obtain ⟨k, u, rfl, eu⟩ := b ts t d1 d2
    obtain ⟨y, ey, dy⟩ := (dx.up r2.st).at eu
    exact ⟨a, xs, _, y, rfl, dat_int a2, .inl (.inl (r2.keep _ _ na ex)), atI_nat ey, q _ _ _ ⟨ts, k, d1, d2, eu⟩ (r1.trans r2) dy⟩, fun σ _ _ _ s ⟨D1, D2, c1, c2, b, e⟩ => ⟨D1, D2, ha.up _ _ _ _ s c1, hi.up _ _ _ _ s c2, b, e⟩⟩
theorem pr_bin {a b : Expr} {pos : Pos} {op : Operator} {f : Int → Int → Int} {C1 C2 : L2.St → Hp → TSet → Prop} (o : OpR X (binaryOp op) (rI0 fun i j => .int (f i j))) (ha : PR X l a C1) (hb : PR X l b C2) :
    PR X l (.BinOp a op b pos) fun σ H D => ∃ D1 D2, C1 σ H D1 ∧ C2 σ H D2 ∧ (∀ t u, D1 t → D2 u → ∃ i j, t = .int i ∧ u = .int j) ∧ D = fun t => ∃ i j, D1 (.int i) ∧ D2 (.int j) ∧ t = .int (f i j) :=
  ⟨pe_imp (pe_op o ha.pe hb.pe) fun σ H Q ⟨D, ⟨D1, D2, c1, c2, b, e⟩, s, q⟩ => by
    subst e
    refine ⟨D1, c1, s, fun t v H1 d1 r1 a1 => ⟨D2, hb.up _ _ _ _ r1 c2, r1.sr, fun u v2 H2 d2 r2 a2 => ?_⟩⟩
    obtain ⟨i, j, rfl, rfl⟩ := b t u d1 d2
    exact ⟨i, j, dat_int a1, dat_int a2, q _ _ _ ⟨i, j, d1, d2, rfl⟩ (r1.trans r2) (.int _)⟩, fun σ _ _ _ s ⟨D1, D2, c1, c2, b, e⟩ => ⟨D1, D2, ha.up _ _ _ _ s c1, hb.up _ _ _ _ s c2, b, e⟩⟩
theorem prl_cat {a b : Expr} {pos : Pos} {C1 C2 : L2.St → Hp → TsSet → Prop} (ha : PRl X l a C1) (hb : PRl X l b C2) :
    PRl X l (.BinOp a .Add b pos) fun σ H D => ∃ D1 D2, C1 σ H D1 ∧ C2 σ H D2 ∧ (∀ ts us, D1 ts → D2 us → ts.length + us.length ≤ 10000) ∧ D = fun vs => ∃ ts us, D1 ts ∧ D2 us ∧ vs = ts ++ us :=
  ⟨pe_imp (pe_op op_cat ha.pe hb.pe) fun σ H Q ⟨D, ⟨D1, D2, c1, c2, b, e⟩, s, q⟩ => by
    subst e
    refine ⟨D1, c1, s, fun ts a H1 d1 r1 na ⟨xs, ex, dx⟩ => ⟨D2, hb.up _ _ _ _ r1 c2, r1.sr, fun us a2 H2 d2 r2 na2 ⟨ys, ey, dy⟩ => ?_⟩⟩
    have few := b ts us d1 d2
    refine ⟨a, a2, xs, ys, rfl, rfl, r2.keep _ _ na ex, ey, sl (by rw [dx.len, dy.len]; omega), fun p2 np => ?_⟩
    exact q _ _ _ ⟨ts, us, d1, d2, rfl⟩ ((r1.trans r2).new np) (r2.sr.ne np) ⟨_, upd_same, ((dx.up r2.st).app dy).up (same_stay (same_new np))⟩, fun σ _ _ _ s ⟨D1, D2, c1, c2, b, e⟩ => ⟨D1, D2, ha.up _ _ _ _ s c1, hb.up _ _ _ _ s c2, b, e⟩⟩
/-- tuple(a list) -/
theorem pr_tuple {e : Expr} {p pos : Pos} {C : L2.St → Hp → TsSet → Prop} (mt : X.mg "tuple" = none) (hg : Gl X "tuple") (ha : PRl X l e C) (h1 : starEach [e] X.env = (false, eval e X.env) :: starEach [] X.env := by rfl) (h2 : ((backTo pos (starEach [] X.env)).any fun x => x.1) = false := by rfl) :
    PR X l (.Call (.Name "tuple" p) [e] [] pos) fun σ H D => ∃ D1, C σ H D1 ∧ D = fun t => ∃ ts, t = .tup ts ∧ D1 ts :=
  ⟨pe_imp (pe_callTy call_tuple_of hg mt (by decide +kernel) (pa_cons ha.pe pa_nil h1) (by decide) (by decide) h1 h2) fun σ H Q ⟨D, ⟨D1, c, e⟩, s, q⟩ => by
    subst e
    refine ⟨D1, c, s, fun ts a H1 d1 r1 na ⟨xs, ex, dx⟩ => ⟨a, xs, rfl, .inl ⟨.inl (.inl ex), fun p n => ?_⟩⟩⟩
    exact q _ _ _ ⟨ts, rfl, d1⟩ (r1.new n) ((dx.up (same_stay (same_new n))).tup upd_same), fun σ _ _ _ s ⟨D1, c, e⟩ => ⟨D1, ha.up _ _ _ _ s c, e⟩⟩
/-- a draw -/
theorem pr_take {e : Expr} {C : L2.St → Hp → TSet → Prop} {x : Str} {p p2 pos : Pos} {i : Nat} (GT : GTk X.prog X.w X.K X.mg X.base) (hr : Room 88 X.A) (hg : Gl X "_law_take") (hx : PE X (.Name x p2) (tVar i)) (he : PR X l e C) (h1 : starEach [Expr.Name x p2, e] X.env = (false, eval (Expr.Name x p2) X.env) :: starEach [e] X.env := by rfl) (h2 : starEach [e] X.env = (false, eval e X.env) :: starEach [] X.env := by rfl) (hpl : (backTo pos (starEach [e] X.env)).any (·.1) = false := by rfl) :
    PR X l (.Call (.Name "_law_take" p) [.Name x p2, e] [] pos) fun σ H D => σ[i]? = some (some (.ref l)) ∧ ∃ D1, C σ H D1 ∧ (∀ t, D1 t → ∃ b, t = .int b ∧ 0 < b ∧ b < 4294967296) ∧ D = fun t => ∃ b r, D1 (.int b) ∧ 0 ≤ r ∧ r < b ∧ t = .int r :=
  ⟨pe_imp (pe_go GT hr pass0 hg (pa_cons hx (pa_cons he.pe pa_nil h2) h1) (by decide) h1 hpl) fun σ H Q ⟨D, ⟨el, D1, c, b, e⟩, s, q⟩ => by
    subst e
    refine ⟨_, el, ⟨D1, c, s, fun t v H1 d1 r1 a1 => ?_⟩⟩
    obtain ⟨b, rfl, b0, b1⟩ := b t d1
    have ev := dat_int a1
    subst ev
    bv_omega
    exact take_use r1.sr b0 b1 fun r H2 r0 r2 st keep sr2 => q _ _ _ ⟨b, r, d1, r0, r2, rfl⟩ (r1.trans ⟨fun p o n z => (keep p n).trans z, st, sr2⟩) (.int r), fun σ _ _ _ s ⟨el, D1, c, b, e⟩ => ⟨el, D1, he.up _ _ _ _ s c, b, e⟩⟩
end
end Ck

/-! The check of a program that is drawn. -/
namespace Ck
open PySem
abbrev Rows := List (Str × Tr)
def encF (r : Str × Tr) : T := .tup [.str r.1, enc r.2]
def encP (rows : Rows) (m : Tr) : T := .tup [.tup (rows.map encF), enc m]
def grown : List (Str × Int) → Rows → List (Str × Int)
  | fs, [] => fs
  | fs, r :: rs => grown (fs ++ [(r.1, unf fs r.2)]) rs
def NN (fs : List (Str × Int)) : Prop := ∀ p ∈ fs, 0 ≤ p.2
def RowsOk (C W : List Str) (N M : Int) : List (Str × Int) → Rows → Prop
  | _, [] => True
  | fs, r :: rs => nameOk r.1 = true ∧ fs.lookup r.1 = none ∧ Okt C W N M (fs.map (·.1)) true 0 r.2 ∧ unf fs r.2 ≤ 3000 ∧ ht r.2 ≤ 58 ∧ RowsOk C W N M (fs ++ [(r.1, unf fs r.2)]) rs
def tot : Rows → Nat
  | [] => 0
  | r :: rs => cnt r.2 + tot rs
def cmr : Rows → List Str
  | [] => []
  | r :: rs => cms r.2 ++ cmr rs
def vrr : Rows → List Str
  | [] => []
  | r :: rs => vrs r.2 ++ vrr rs
theorem look_some {f : Str} : ∀ {fs : List (Str × Int)}, f ∈ fs.map (·.1) → NN fs → ∃ v, fs.lookup f = some v ∧ 0 ≤ v
  | [], h, _ => by cases h
  | p :: fs, h, n => by
    by_cases e : f = p.1
    · refine ⟨p.2, ?_, n p List.mem_cons_self⟩
      rw [List.lookup_cons, e]
      simp
    · have h2 : f ∈ fs.map (·.1) := by
        rcases List.mem_cons.mp h with z | z
        · exact absurd z e
        · exact z
      obtain ⟨v, e2, v0⟩ := look_some h2 fun q m => n q (List.mem_cons_of_mem _ m)
      refine ⟨v, ?_, v0⟩
      rw [List.lookup_cons]
      have z : (f == p.1) = false := by simpa using e
      rw [z]
      exact e2
theorem NN.fns {fs : List (Str × Int)} (n : NN fs) : Fns (fs.map (·.1)) fs := fun f h => look_some h n
theorem NN.snoc {fs : List (Str × Int)} (n : NN fs) {z : Str} {i : Int} (h : 0 ≤ i) : NN (fs ++ [(z, i)]) := fun p m => by
  rcases List.mem_append.mp m with m | m
  · exact n p m
  · rw [List.mem_singleton] at m
    rw [m]
    exact h
section
variable {C W : List Str} {N M : Int}
theorem all_tree (Cd : CondW C W N M) {known : List Str} {i : Bool} {t : Tr} {S : CS} {p : Int} (ok : Okt C W N M known i 0 t) (h : ht t ≤ 58) (lo : S.loops = 0) (re : S.rets = i) (F : Fns known S.fns) (pl : S.places = []) (tr : S.trees + cnt t ≤ 3000) :
    all 59 S [enc t] p 0 = .ok (unf S.fns t, S.plus (cnt t : Nat) (cms t) (vrs t)) := by
  rw [all_eq]
  have z := many_ok (n := 59) [t] S p 0 (all_one ok) (all_one (says_ok Cd ok)) (by show max (ht t) 0 ≤ 60; omega) lo re F (by rw [pl]; rfl) tr
  have e1 : cmss [t] = cms t := List.append_nil _
  have e2 : vrss [t] = vrs t := List.append_nil _
  have e3 : (0 : Int) + unfs S.fns [t] = unf S.fns t := by
    show 0 + (unf S.fns t + 0) = _
    omega
  rw [e1, e2, e3] at z
  exact z
def CS.with (S : CS) (fs : List (Str × Int)) : CS := { S with fns := fs }
theorem entries_ok (Cd : CondW C W N M) : ∀ (rows : Rows) (S : CS) (k : Int), RowsOk C W N M S.fns rows → NN S.fns → S.loops = 0 → S.rets = true → S.places = [] → S.trees + tot rows ≤ 3000 →
    entries S (rows.map encF) k = .ok ((S.with (grown S.fns rows)).plus (tot rows : Nat) (cmr rows) (vrr rows)) ∧ NN (grown S.fns rows)
  | [], S, k, _, n, _, _, _, _ => by
    refine ⟨?_, n⟩
    show entries S [] k = .ok ((S.with S.fns).plus 0 [] [])
    rw [entries_nil, plus_zero]
    rfl
  | r :: rs, S, k, ok, n, lo, re, pl, tr => by
    obtain ⟨o1, o2, o3, o4, o5, o6⟩ := ok
    have tr2 : S.trees + ((cnt r.2 + tot rs : Nat) : Int) ≤ 3000 := tr
    have pos := Okt.pos n.fns o3
    have a := all_tree (p := k) Cd o3 (by omega) lo re n.fns pl (by omega)
    have ih := entries_ok Cd rs ((S.plus (cnt r.2 : Nat) (cms r.2) (vrs r.2)).with (S.fns ++ [(r.1, unf S.fns r.2)])) (k + 1) o6 (n.snoc (by omega)) lo re pl (by show S.trees + (cnt r.2 : Nat) + (tot rs : Nat) ≤ 3000; omega)
    refine ⟨?_, ih.2⟩
    show entries S (.tup [.str r.1, enc r.2] :: rs.map encF) k = _
    rw [entries_yes o1 o2, a]
    dsimp only
    rw [if_neg (by omega)]
    refine Eq.trans ih.1 ?_
    show Except.ok ((((S.with (grown (S.fns ++ [(r.1, unf S.fns r.2)]) rs)).plus (cnt r.2 : Nat) (cms r.2) (vrs r.2))).plus (tot rs : Nat) (cmr rs) (vrr rs)) = _
    rw [plus_plus, ← Int.natCast_add]
    rfl
/-! ### few variables -/
theorem add1_sub {W ns : List Str} {z : Str} (h : ∀ x ∈ ns, x ∈ W) (m : z ∈ W) : ∀ x ∈ add1 ns z, x ∈ W := by
  unfold add1
  split
  · exact h
  · intro x hx
    rcases List.mem_append.mp hx with q | q
    · exact h x q
    · rw [List.mem_singleton] at q
      exact q ▸ m
theorem add1_nd {ns : List Str} {z : Str} (h : ns.Nodup) : (add1 ns z).Nodup := by
  unfold add1
  split
  · exact h
  · rename_i c
    rw [List.nodup_append]
    refine ⟨h, by simp, fun a ha b hb e => c ?_⟩
    rw [List.mem_singleton] at hb
    rw [← hb, ← e]
    simpa using ha
theorem adds_sub {W : List Str} : ∀ {zs ns : List Str}, (∀ x ∈ ns, x ∈ W) → (∀ x ∈ zs, x ∈ W) → ∀ x ∈ adds ns zs, x ∈ W
  | [], _, h, _ => h
  | z :: zs, ns, h, g => adds_sub (zs := zs) (ns := add1 ns z) (add1_sub h (g z List.mem_cons_self)) fun x m => g x (List.mem_cons_of_mem _ m)
theorem adds_nd : ∀ {zs ns : List Str}, ns.Nodup → (adds ns zs).Nodup
  | [], _, h => h
  | z :: zs, ns, h => adds_nd (zs := zs) (ns := add1 ns z) (add1_nd h)
theorem nd_len : ∀ {ns W : List Str}, ns.Nodup → (∀ x ∈ ns, x ∈ W) → ns.length ≤ W.length
  | [], W, _, _ => Nat.zero_le _
  | n :: ns, W, d, h => by
    have d2 := List.nodup_cons.mp d
    have m : n ∈ W := h n List.mem_cons_self
    have r := nd_len (ns := ns) (W := W.erase n) d2.2 fun x hx => (List.mem_erase_of_ne (fun e => d2.1 (by rw [← e]; exact hx))).mpr (h x (List.mem_cons_of_mem _ hx))
    rw [List.length_erase_of_mem m] at r
    have z : 0 < W.length := List.length_pos_of_mem m
    show ns.length + 1 ≤ _
    omega
theorem mem_add1 {ns : List Str} {z x : Str} : x ∈ add1 ns z ↔ x ∈ ns ∨ x = z := by
  unfold add1
  split
  · rename_i c
    have c2 : z ∈ ns := by simpa using c
    exact ⟨.inl, fun h => h.elim id fun e => by rw [e]; exact c2⟩
  · rw [List.mem_append, List.mem_singleton]
theorem mem_adds {x : Str} : ∀ {zs ns : List Str}, x ∈ adds ns zs ↔ x ∈ ns ∨ x ∈ zs
  | [], ns => ⟨.inl, fun h => h.elim id fun e => (by cases e)⟩
  | z :: zs, ns => by
    show x ∈ adds (add1 ns z) zs ↔ _
    rw [mem_adds (zs := zs), mem_add1, List.mem_cons]
    exact or_assoc
/-- names stand among those that may be drawn -/
theorem Okt.names {known : List Str} {i : Bool} {l : Nat} {t : Tr} (h : Okt C W N M known i l t) : (∀ x ∈ cms t, x ∈ C) ∧ ∀ x ∈ vrs t, x ∈ W := by
  have none : ∀ {A : List Str}, ∀ x ∈ ([] : List Str), x ∈ A := fun x m => by cases m
  have many : ∀ {ks : List Tr}, (∀ k ∈ ks, (∀ x ∈ cms k, x ∈ C) ∧ ∀ x ∈ vrs k, x ∈ W) → (∀ x ∈ cmss ks, x ∈ C) ∧ ∀ x ∈ vrss ks, x ∈ W := by
    intro ks
    induction ks with
    | nil => exact fun _ => ⟨none, none⟩
    | cons k ks r =>
      intro h
      have a := h k List.mem_cons_self
      have b := r fun k m => h k (List.mem_cons_of_mem _ m)
      exact ⟨fun x m => (List.mem_append.mp m).elim (a.1 x) (b.1 x), fun x m => (List.mem_append.mp m).elim (a.2 x) (b.2 x)⟩
  induction h with
  | run m => exact ⟨fun x q => (List.mem_singleton.mp q) ▸ m, none⟩
  | status _ _ => exact ⟨none, none⟩
  | var e m => rcases e with rfl | rfl | rfl <;> exact ⟨none, fun x q => (List.mem_singleton.mp q) ▸ m⟩
  | put m _ _ => exact ⟨none, fun x q => (List.mem_singleton.mp q) ▸ m⟩
  | option _ => exact ⟨none, none⟩
  | jump e _ _ => rcases e with rfl | rfl <;> exact ⟨none, none⟩
  | ret0 => exact ⟨none, none⟩
  | ret _ _ => exact ⟨none, none⟩
  | exit0 => exact ⟨none, none⟩
  | exit _ _ => exact ⟨none, none⟩
  | call m => exact ⟨none, none⟩
  | seq _ _ ih => exact many ih
  | pipe _ _ ih => exact many ih
  | andor e _ _ ia ib => rcases e with rfl | rfl <;> exact many (all_two ia ib)
  | not _ ia => exact many (all_one ia)
  | ife _ _ _ ic ia ib => exact many (all_three ic ia ib)
  | if1 _ _ ic ia => exact many (all_two ic ia)
  | whl e _ _ ic ib => rcases e with rfl | rfl <;> exact many (all_two ic ib)
  | times _ _ _ ib => exact many (all_one ib)
  | trap0 _ => exact ⟨none, none⟩
  | trap _ _ ib => exact many (all_one ib)
  | sub _ ib => exact many (all_one ib)
theorem RowsOk.names : ∀ {rows : Rows} {fs : List (Str × Int)}, RowsOk C W N M fs rows → (∀ x ∈ cmr rows, x ∈ C) ∧ ∀ x ∈ vrr rows, x ∈ W
  | [], _, _ => ⟨fun x m => (by cases m), fun x m => (by cases m)⟩
  | r :: rs, fs, ok => by
    obtain ⟨_, _, o3, _, _, o6⟩ := ok
    have a := o3.names
    have b := RowsOk.names (rows := rs) o6
    exact ⟨fun x m => (List.mem_append.mp m).elim (a.1 x) (b.1 x), fun x m => (List.mem_append.mp m).elim (a.2 x) (b.2 x)⟩
/-- a program as it may be drawn -/
structure ProgOk (C W : List Str) (N M : Int) (rows : Rows) (m : Tr) : Prop where
  cd : CondW C W N M
  few : rows.length ≤ 20
  fv : W.length ≤ 40
  fc : C.length ≤ 20000
  rs : RowsOk C W N M [] rows
  mn : Okt C W N M ((grown [] rows).map (·.1)) false 0 m
  un : unf (grown [] rows) m ≤ 3000
  dp : ht m ≤ 58
  tr : tot rows + cnt m ≤ 3000
theorem finish_ok {S S' : CS} {i : Int} {m : T} (a : all 59 { S with rets := false } [m] (-1) 0 = .ok (i, S')) (c : ¬ (40 < S'.vars.length ∨ 3000 < i)) : finish m (.ok S) = .ok { S' with unf := i } := by
  unfold finish
  dsimp only
  rw [a]
  dsimp only
  rw [if_neg c]
theorem check_ok {rows : Rows} {m : Tr} (h : ProgOk C W N M rows m) : ∃ S, check (encP rows m) = .ok S ∧ S.trees = ((tot rows + cnt m : Nat) : Int) ∧ S.unf = unf (grown [] rows) m ∧ S.cmds = adds [] (cmr rows ++ cms m) ∧ S.vars = adds [] (vrr rows ++ vrs m) := by
  have tr := h.tr
  obtain ⟨e1, n1⟩ := entries_ok h.cd rows start 0 h.rs (fun p q => by cases q) rfl rfl rfl (by show (0 : Int) + (tot rows : Nat) ≤ 3000; omega)
  have a := all_tree (S := { (start.with (grown start.fns rows)).plus (tot rows : Nat) (cmr rows) (vrr rows) with rets := false }) (p := -1) h.cd h.mn (Nat.le_trans h.dp (by decide)) rfl rfl n1.fns rfl (by show (0 : Int) + (tot rows : Nat) + (cnt m : Nat) ≤ 3000; omega)
  have nm := RowsOk.names h.rs
  have nm2 := h.mn.names
  have fv : (adds [] (vrr rows ++ vrs m)).length ≤ 40 := by
    refine Nat.le_trans (nd_len (W := W) (adds_nd List.nodup_nil) (adds_sub (fun x q => by cases q) fun x q => ?_)) h.fv
    exact (List.mem_append.mp q).elim (nm.2 x) (nm2.2 x)
  have un := h.un
  unfold encP
  rw [check_tup, if_pos (by rw [List.length_map]; exact h.few), e1, finish_ok a ?no]
  case no =>
    rintro (z | z)
    · have z2 : 40 < (adds (adds [] (vrr rows)) (vrs m)).length := z
      rw [← adds_app] at z2
      omega
    · have z2 : 3000 < unf (grown [] rows) m := z
      omega
  refine ⟨_, rfl, ?_, rfl, ?_, ?_⟩
  · show (0 : Int) + (tot rows : Nat) + (cnt m : Nat) = _
    omega
  · show adds (adds [] (cmr rows)) (cms m) = _
    rw [← adds_app]
  · show adds (adds [] (vrr rows)) (vrs m) = _
    rw [← adds_app]
end
end Ck

/-! What the law counts: weights. -/
namespace L2
open PySem
theorem lcl_tup {K : PySem.W.Frag} {a : Addr} {xs : List V} {g : TG} {tt : TT} {te : TE} {vs : List Nat} {σ : St} {H1 : Hp} {Q : VK} (Pv : Addr → Nat → Hp → Prop) (h0 : ∀ D, H1 D = none → Pv D 0 (upd H1 D (.lst []))) (hl : ∀ D, H1 D = none → ∀ i H, i ≤ xs.length → Pv D i H → SqT K H a xs)
    (hs : ∀ D, H1 D = none → ∀ i x H, xs[i]? = some x → Pv D i H → g x (wipe σ vs) H fun σ2 H2 => wipe σ2 vs = wipe σ vs ∧ tt σ2 H2 fun b H3 => if b = true then te σ2 H3 fun y H4 => ∃ acc, H4 D = some (.lst acc) ∧ acc.length < sizeLine ∧ Pv D (i + 1) (upd H4 D (.lst (acc ++ [y]))) else Pv D (i + 1) H3)
    (hd : ∀ D, H1 D = none → ∀ H, Pv D xs.length H → Q (.ref D) H) : tLcL g tt te vs σ Q (Itt K a) H1 := fun D nD => lc_tup (D := D) (Pv D) (h0 D nD) (hl D nD) (hs D nD) (hd D nD)
end L2
namespace Ck
open PySem PySem.Spec PyProof.Rows L2
def isAtom : T → Bool
  | .tup _ => false
  | .odd _ => false
  | _ => true
def Any (known : List Str) (t : Tr) : Prop := ∃ C W N M i l, Okt C W N M known i l t
theorem Any.look {known : List Str} {b : Bool} {w : Str} {pre post : List T} {ks : List Tr} (h : Any known (.mk b w pre ks post)) :
    (∀ k ∈ ks, Any known k) ∧ (∀ t ∈ pre, isAtom t = true) ∧ (∀ t ∈ post, isAtom t = true) ∧ ((b = true ∧ (w = "seq" ∨ w = "pipe") ∧ pre = [] ∧ post = []) ∨ (b = false ∧ w ≠ "seq" ∧ w ≠ "pipe")) ∧ (w = "call" → ∃ f, pre = [.str f] ∧ f ∈ known ∧ b = false ∧ ks = []) ∧ (w = "times" → ∃ n, pre = [.int n] ∧ 0 ≤ n ∧ n ≤ 1000 ∧ b = false) ∧ w.length ≤ 100 ∧ pre.length + ks.length + post.length ≤ 5003 := by
  obtain ⟨C, W, N, M, i, l, o⟩ := h
  have an : ∀ {k i l}, Okt C W N M known i l k → Any known k := fun o => ⟨C, W, N, M, _, _, o⟩
  cases o with
  | run _ => exact ⟨by simp, by simp [isAtom], by simp, .inr ⟨rfl, by decide, by decide⟩, fun e => absurd e (by decide), fun e => absurd e (by decide), by decide +kernel, by simp⟩
  | status _ _ => exact ⟨by simp, by simp [isAtom], by simp, .inr ⟨rfl, by decide, by decide⟩, fun e => absurd e (by decide), fun e => absurd e (by decide), by decide +kernel, by simp⟩
  | var e _ => rcases e with rfl | rfl | rfl <;> exact ⟨by simp, by simp [isAtom], by simp, .inr ⟨rfl, by decide, by decide⟩, fun e => absurd e (by decide), fun e => absurd e (by decide), by decide +kernel, by simp⟩
  | put _ _ _ => exact ⟨by simp, by simp [isAtom], by simp, .inr ⟨rfl, by decide, by decide⟩, fun e => absurd e (by decide), fun e => absurd e (by decide), by decide +kernel, by simp⟩
  | option _ => exact ⟨by simp, by simp [isAtom], by simp, .inr ⟨rfl, by decide, by decide⟩, fun e => absurd e (by decide), fun e => absurd e (by decide), by decide +kernel, by simp⟩
  | jump e _ _ => rcases e with rfl | rfl <;> exact ⟨by simp, by simp [isAtom], by simp, .inr ⟨rfl, by decide, by decide⟩, fun e => absurd e (by decide), fun e => absurd e (by decide), by decide +kernel, by simp⟩
  | ret0 => exact ⟨by simp, by simp [isAtom], by simp, .inr ⟨rfl, by decide, by decide⟩, fun e => absurd e (by decide), fun e => absurd e (by decide), by decide +kernel, by simp⟩
  | ret _ _ => exact ⟨by simp, by simp [isAtom], by simp, .inr ⟨rfl, by decide, by decide⟩, fun e => absurd e (by decide), fun e => absurd e (by decide), by decide +kernel, by simp⟩
  | exit0 => exact ⟨by simp, by simp [isAtom], by simp, .inr ⟨rfl, by decide, by decide⟩, fun e => absurd e (by decide), fun e => absurd e (by decide), by decide +kernel, by simp⟩
  | exit _ _ => exact ⟨by simp, by simp [isAtom], by simp, .inr ⟨rfl, by decide, by decide⟩, fun e => absurd e (by decide), fun e => absurd e (by decide), by decide +kernel, by simp⟩
  | call m => exact ⟨by simp, by simp [isAtom], by simp, .inr ⟨rfl, by decide, by decide⟩, fun _ => ⟨_, rfl, m, rfl, rfl⟩, fun e => absurd e (by decide), by decide +kernel, by simp⟩
  | seq two ks => exact ⟨fun k m => an (ks k m), by simp, by simp, .inl ⟨rfl, .inl rfl, rfl, rfl⟩, fun e => absurd e (by decide), fun e => absurd e (by decide), by decide +kernel, by have := two.2; simp; omega⟩
  | pipe two ks => exact ⟨fun k m => an (ks k m), by simp, by simp, .inl ⟨rfl, .inr rfl, rfl, rfl⟩, fun e => absurd e (by decide), fun e => absurd e (by decide), by decide +kernel, by have := two.2; simp; omega⟩
  | andor e a b => rcases e with rfl | rfl <;> exact ⟨all_two (an a) (an b), by simp, by simp, .inr ⟨rfl, by decide, by decide⟩, fun e => absurd e (by decide), fun e => absurd e (by decide), by decide +kernel, by simp⟩
  | not a => exact ⟨all_one (an a), by simp, by simp, .inr ⟨rfl, by decide, by decide⟩, fun e => absurd e (by decide), fun e => absurd e (by decide), by decide +kernel, by simp⟩
  | ife c a b => exact ⟨all_three (an c) (an a) (an b), by simp, by simp, .inr ⟨rfl, by decide, by decide⟩, fun e => absurd e (by decide), fun e => absurd e (by decide), by decide +kernel, by simp⟩
  | if1 c a => exact ⟨all_two (an c) (an a), by simp, by simp [isAtom], .inr ⟨rfl, by decide, by decide⟩, fun e => absurd e (by decide), fun e => absurd e (by decide), by decide +kernel, by simp⟩
  | whl e a b => rcases e with rfl | rfl <;> exact ⟨all_two (an a) (an b), by simp, by simp, .inr ⟨rfl, by decide, by decide⟩, fun e => absurd e (by decide), fun e => absurd e (by decide), by decide +kernel, by simp⟩
  | times n0 n1 a => exact ⟨all_one (an a), by simp [isAtom], by simp, .inr ⟨rfl, by decide, by decide⟩, fun e => absurd e (by decide), fun _ => ⟨_, rfl, n0, n1, rfl⟩, by decide +kernel, by simp⟩
  | trap0 _ => exact ⟨by simp, by simp [isAtom], by simp [isAtom], .inr ⟨rfl, by decide, by decide⟩, fun e => absurd e (by decide), fun e => absurd e (by decide), by decide +kernel, by simp⟩
  | trap _ a => exact ⟨all_one (an a), by simp [isAtom], by simp, .inr ⟨rfl, by decide, by decide⟩, fun e => absurd e (by decide), fun e => absurd e (by decide), by decide +kernel, by simp⟩
  | sub a => exact ⟨all_one (an a), by simp, by simp, .inr ⟨rfl, by decide, by decide⟩, fun e => absurd e (by decide), fun e => absurd e (by decide), by decide +kernel, by simp⟩
/-- what a display holds: parts, and others -/
abbrev Its := List (T × Option Tr)
def Right (is : Its) : Prop := ∀ p ∈ is, (p.2 = none ∧ isAtom p.1 = true) ∨ ∃ k, p.2 = some k ∧ p.1 = enc k
def plain (ts : List T) : Its := ts.map fun t => (t, none)
def parted (ks : List Tr) : Its := ks.map fun k => (enc k, some k)
def kidsOf (is : Its) : List Tr := is.filterMap (·.2)
theorem fst_plain (ts : List T) : (plain ts).map (·.1) = ts := by
  unfold plain
  rw [List.map_map]
  exact List.map_id _
theorem fst_parted : ∀ ks : List Tr, (parted ks).map (·.1) = encs ks
  | [] => rfl
  | k :: ks => by
    show enc k :: (parted ks).map (·.1) = enc k :: encs ks
    rw [fst_parted ks]
theorem kids_plain : ∀ ts : List T, kidsOf (plain ts) = []
  | [] => rfl
  | t :: ts => kids_plain ts
theorem kids_parted : ∀ ks : List Tr, kidsOf (parted ks) = ks
  | [] => rfl
  | k :: ks => by
    show k :: kidsOf (parted ks) = k :: ks
    rw [kids_parted ks]
theorem kids_app (a b : Its) : kidsOf (a ++ b) = kidsOf a ++ kidsOf b := List.filterMap_append
theorem right_plain {ts : List T} (h : ∀ t ∈ ts, isAtom t = true) : Right (plain ts) := by
  intro p m
  obtain ⟨t, mt, rfl⟩ := List.mem_map.mp m
  exact .inl ⟨rfl, h t mt⟩
theorem right_parted (ks : List Tr) : Right (parted ks) := by
  intro p m
  obtain ⟨t, mt, rfl⟩ := List.mem_map.mp m
  exact .inr ⟨t, rfl, rfl⟩
theorem Right.app {a b : Its} (h : Right a) (g : Right b) : Right (a ++ b) := fun p m => (List.mem_append.mp m).elim (h p) (g p)
theorem isTu_atom {t : T} (h : isAtom t = true) : isTu t = false := by cases t <;> simp_all [isAtom, isTu]
theorem isTu_enc (t : Tr) : isTu (enc t) = true := by
  obtain ⟨ts, e⟩ := enc_tup t
  rw [e]
  rfl
end Ck

namespace Ck
open PySem PySem.Spec PyProof.Rows L2
section
variable {K : PySem.W.Frag} {H H1 H2 : Hp}
theorem dats_at {vs : List V} {ts : List T} (d : Dats K H vs ts) {i : Nat} {x : V} (h : vs[i]? = some x) : ∃ t, ts[i]? = some t ∧ Dat K H x t := by
  have l := d.len
  have li : i < ts.length := by
    rw [← l]
    exact (List.getElem?_eq_some_iff.mp h).1
  obtain ⟨v, e, dv⟩ := d.at (List.getElem?_eq_getElem li)
  rw [h] at e
  cases e
  exact ⟨_, List.getElem?_eq_getElem li, dv⟩
theorem sqt_up {a : Addr} {xs : List V} (h : SqT K H a xs) (s : Same H H1) : SqT K H1 a xs := by
  rcases h with (h | ⟨o, h⟩) | h
  · exact .inl (.inl (s _ _ h))
  · exact .inl (.inr ⟨o, s _ _ h⟩)
  · exact .inr h
theorem enc_in {b : Bool} {w : Str} {pre post : List T} {ks : List Tr} {v : V} (hb : b = true → pre = [] ∧ post = []) (d : Dat K H v (enc (.mk b w pre ks post))) :
    ∃ a xs, v = .ref a ∧ H a = some (.tup (.str w :: xs)) ∧ (b = true → ∃ p ys, xs = [.ref p] ∧ H p = some (.tup ys) ∧ Dats K H ys ((parted ks).map (·.1))) ∧ (b = false → Dats K H xs ((plain pre ++ (parted ks ++ plain post)).map (·.1))) := by
  cases b with
  | true =>
    obtain ⟨a, xs, rfl, ha, ds⟩ := dat_tup d
    obtain ⟨v0, us, rfl, d0, ds⟩ := dats_cons ds
    obtain ⟨v1, us, rfl, d1, ds⟩ := dats_cons ds
    cases dats_nil ds
    cases dat_str d0
    obtain ⟨p, ys, rfl, hp, dy⟩ := dat_tup d1
    exact ⟨a, _, rfl, ha, fun _ => ⟨p, ys, rfl, hp, (by rw [fst_parted]; exact dy)⟩, fun e => (by cases e)⟩
  | false =>
    obtain ⟨a, xs, rfl, ha, ds⟩ := dat_tup d
    obtain ⟨v0, us, rfl, d0, ds2⟩ := dats_cons ds
    cases dat_str d0
    exact ⟨a, _, rfl, ha, fun e => (by cases e), fun _ => by rw [List.map_append, List.map_append, fst_plain, fst_parted, fst_plain]; exact ds2⟩
theorem eqV_str (x y : Str) : eqV (.str x) (.str y) = decide (y = x) := by
  show (x == y) = _
  by_cases c : y = x
  · simp [c]
  · simp [c, Ne.symm c]
theorem in_two {p : Addr} {z a b : Str} {Q : VK} (hp : H p = some (.tup [.str a, .str b])) (q : Q (.bl (decide (z = a ∨ z = b))) H) : L2.rIn K false (.str z) (.ref p) H Q := by
  refine ⟨p, _, rfl, .inr (sqt hp), rfl, rfl, ?_⟩
  have e : inV (.str z) [.str a, .str b] = decide (z = a ∨ z = b) := by
    unfold inV
    show (eqV (.str a) (.str z) || (eqV (.str b) (.str z) || false)) = _
    have e1 : ∀ x y : Str, eqV (.str x) (.str y) = decide (y = x) := eqV_str
    rw [e1, e1, Bool.or_false]
    by_cases c1 : z = a
    · simp [c1]
    · simp [c1]
  show Q (.bl (inV (.str z) [.str a, .str b])) H
  rw [e]
  exact q
theorem ht_kid {b : Bool} {w : Str} {pre post : List T} {ks : List Tr} {h : Nat} (e : ht (.mk b w pre ks post) ≤ h + 1) {k : Tr} (m : k ∈ ks) : ht k ≤ h := by
  have z : 1 + hts ks ≤ h + 1 := e
  have y : ∀ {ks : List Tr}, k ∈ ks → ht k ≤ hts ks := by
    intro ks
    induction ks with
    | nil => intro m; cases m
    | cons a r ih =>
      intro m
      show ht k ≤ max (ht a) (hts r)
      rcases List.mem_cons.mp m with rfl | m
      · omega
      · have := ih m
        omega
  have := y m
  omega
end
end Ck

/-! How the state of a walk stands in the heap. -/
namespace Wk
open PySem PySem.Spec PyProof.Rows L2 Ck
inductive Cl where
  | wk | sl | sh (k : Nat) | nodes
  deriving DecidableEq
inductive Tag where
  | wk | sl | sh (k : Nat) | op (k : Nat) | va (k : Nat) | tr (k : Nat) | fl (k : Nat) | fr (k j : Nat) | nd | nl (a : Addr)
  deriving DecidableEq
def Tag.cls : Tag → Cl
  | .wk => .wk
  | .sl => .sl
  | .sh k => .sh k
  | .op k => .sh k
  | .va k => .sh k
  | .tr k => .sh k
  | .fl k => .sh k
  | .fr k _ => .sh k
  | .nd => .nodes
  | .nl _ => .nodes
structure SA where
  a : Addr
  dx : Addr
  op : Addr
  va : Addr
  tr : Addr
  fl : Addr
  fs : List (Addr × Addr)
structure WA where
  a : Addr
  dx : Addr
  bd : Addr
  sl : Addr
  ss : List SA
/-- the classes -/
structure Cs where
  N : Addr
  F : Addr
  S : Addr
  W : Addr
abbrev NM := Addr → Option (Nd × Addr)
abbrev TM := Addr → Option Tag
def NLe (N N' : NM) : Prop := ∀ a x, N a = some x → N' a = some x
def TLe (τ τ' : TM) : Prop := ∀ a x, τ a = some x → τ' a = some x
theorem NLe.rfl {N : NM} : NLe N N := fun _ _ h => h
theorem TLe.rfl {N : TM} : TLe N N := fun _ _ h => h
theorem NLe.trans {N N' N'' : NM} (h : NLe N N') (g : NLe N' N'') : NLe N N'' := fun a x z => g a x (h a x z)
theorem TLe.trans {N N' N'' : TM} (h : TLe N N') (g : TLe N' N'') : TLe N N'' := fun a x z => g a x (h a x z)
def NV (N : NM) (v : V) (nd : Nd) : Prop := ∃ a l, v = .ref a ∧ N a = some (nd, l)
def NVo (N : NM) (v : V) : Option Nd → Prop
  | none => v = .non
  | some nd => NV N v nd
theorem NV.up {N N' : NM} {v : V} {nd : Nd} (h : NV N v nd) (l : NLe N N') : NV N' v nd := by
  obtain ⟨a, x, e, z⟩ := h
  exact ⟨a, x, e, l _ _ z⟩
def intO : Option Int → V
  | none => .non
  | some i => .int i
def wfl (A : WA) (w : W) (cv av : V) : List (Str × V) := [("bodies", .ref A.bd), ("shells", .ref A.sl), ("coming", cv), ("tested", .bl w.te), ("begun", .int w.begun), ("asking", av), ("status", intO w.status), ("silent", .bl w.silent), ("going", .bl w.going), ("notes", .non)]
def sfl (s : SA) (S : Sh) : List (Str × V) := [("last", .int S.last), ("options", .ref s.op), ("variables", .ref s.va), ("traps", .ref s.tr), ("ending", .bl S.ending), ("end_begun", .bl S.ended), ("frames", .ref s.fl), ("calls", .int S.calls), ("trap_started", intO S.tst)]
def ffl (v : V) (f : Fm) : List (Str × V) := [("node", v), ("tested", .bl f.te), ("place", .int (f.place : Nat)), ("held", .int f.held), ("started", .int f.started), ("rounds", .int f.rounds)]
def opt (f p : Bool) : List (Key × V) := [(.inr "fail", .bl f), (.inr "pipes", .bl p)]
def trp (v1 v2 : V) : List (Key × V) := [(.inr "end", v1), (.inr "fail", v2)]
structure FrAt (C : Cs) (N : NM) (τ : TM) (H : Hp) (k j : Nat) (fa : Addr × Addr) (f : Fm) : Prop where
  tg : τ fa.1 = some (.fr k j)
  ob : ∃ v, NV N v f.nd ∧ H fa.1 = some (.ins C.F fa.2 (ffl v f))
def FrsAt (C : Cs) (N : NM) (τ : TM) (H : Hp) (k : Nat) : List (Addr × Addr) → List Fm → Prop
  | [], [] => True
  | a :: as, f :: fs => FrAt C N τ H k fs.length a f ∧ FrsAt C N τ H k as fs
  | _, _ => False
structure ShAt (C : Cs) (N : NM) (τ : TM) (H : Hp) (k : Nat) (s : SA) (S : Sh) : Prop where
  ta : τ s.a = some (.sh k)
  to : τ s.op = some (.op k)
  tv : τ s.va = some (.va k)
  tt : τ s.tr = some (.tr k)
  tl : τ s.fl = some (.fl k)
  ob : H s.a = some (.ins C.S s.dx (sfl s S))
  op : H s.op = some (.dK (opt S.fail S.pipes))
  va : H s.va = some (.dK (ftab S.vars))
  tr : ∃ v1 v2, NVo N v1 S.tEnd ∧ NVo N v2 S.tFail ∧ H s.tr = some (.dK (trp v1 v2))
  fl : H s.fl = some (.lst (s.fs.reverse.map fun a => V.ref a.1))
  fs : FrsAt C N τ H k s.fs S.frames
def ShsAt (C : Cs) (N : NM) (τ : TM) (H : Hp) : List SA → List Sh → Prop
  | [], [] => True
  | a :: as, s :: ss => ShAt C N τ H ss.length a s ∧ ShsAt C N τ H as ss
  | _, _ => False
structure NdAt (K : PySem.W.Frag) (C : Cs) (N : NM) (τ : TM) (H : Hp) (a : Addr) (nd : Nd) (l : Addr) : Prop where
  tg : τ a = some .nd
  tl : τ l = some (.nl a)
  an : ∃ known, Any known nd.t
  pl : nd.p.length + ht nd.t ≤ 1000
  ob : ∃ dx tv pv qv xs ys, H a = some (.ins C.N dx [("tree", tv), ("word", .str (word nd.t)), ("path", .ref pv), ("parts", .ref qv), ("nodes", .ref l)]) ∧ Dat K H tv (enc nd.t) ∧ H pv = some (.tup (nd.p.map V.int)) ∧ H qv = some (.tup xs) ∧ Dats K H xs (encs (kids nd.t)) ∧ H l = some (.lst ys) ∧ ys.length = (kids nd.t).length ∧ ∀ k y, ys[k]? = some y → y = .non ∨ NV N y (nd.part k)
structure Base (G : Hp) (τ : TM) (H : Hp) : Prop where
  sm : Same G H
  fr : ∀ q t, τ q = some t → G q = none ∧ ∃ o, H q = some o
/-- the nodes that are there -/
structure Nds (K : PySem.W.Frag) (C : Cs) (G : Hp) (N : NM) (τ : TM) (H : Hp) : Prop where
  bs : Base G τ H
  nd : ∀ a x l, N a = some (x, l) → NdAt K C N τ H a x l
structure St (K : PySem.W.Frag) (C : Cs) (B : List (Str × Nd)) (G : Hp) (N : NM) (τ : TM) (A : WA) (w : W) (H : Hp) : Prop where
  ns : Nds K C G N τ H
  tw : τ A.a = some .wk
  tl : τ A.sl = some .sl
  wk : ∃ cv av, NVo N cv w.coming ∧ NVo N av w.asking ∧ H A.a = some (.ins C.W A.dx (wfl A w cv av))
  sl : H A.sl = some (.lst (A.ss.reverse.map fun s => V.ref s.a))
  ss : ShsAt C N τ H A.ss w.shells
  bd : ∃ kvs, G A.bd = some (.dK kvs) ∧ ∀ z nd, B.lookup z = some nd → ∃ v, valV kvs (.inr z) = some v ∧ NV N v nd
section
variable {K : PySem.W.Frag} {C : Cs} {B : List (Str × Nd)} {G H H' : Hp} {N N' : NM} {τ τ' : TM} {A : WA} {w : W} {p q : Addr} {t u : Tag} {o : HO} {k : Nat}
theorem off (h : τ p = some t) (g : τ q = some u) (ne : u ≠ t) : upd H p o q = H q := by
  refine upd_ne ?_
  rintro rfl
  rw [h] at g
  exact ne (Option.some.inj g).symm
def tset (τ : TM) (p : Addr) (t : Tag) : TM := fun q => if q = p then some t else τ q
theorem tset_same : tset τ p t p = some t := if_pos rfl
theorem Base.upd (b : Base G τ H) (h : τ p = some t) : Base G τ (upd H p o) :=
  ⟨Ck.Same.up b.sm (b.fr _ _ h).1, fun q u e => ⟨(b.fr q u e).1, by
    by_cases c : q = p
    · exact ⟨o, by rw [c, upd_same]⟩
    · obtain ⟨o2, e2⟩ := (b.fr q u e).2
      exact ⟨o2, by rw [upd_ne c, e2]⟩⟩⟩
theorem Base.tag (b : Base G τ H) (n : G p = none) (e : ∃ o, H p = some o) : Base G (tset τ p t) H := ⟨b.sm, fun q u z => by
  unfold tset at z
  split at z
  · rename_i c
    rw [c]
    exact ⟨n, e⟩
  · exact b.fr q u z⟩
theorem NdAt.up {a l : Addr} {nd : Nd} (h : NdAt K C N τ H a nd l) (hl : NLe N N') (ht : TLe τ τ') (st : Stay H H') (e : ∀ q t, τ q = some t → t.cls = .nodes → H' q = H q) : NdAt K C N' τ' H' a nd l := by
  obtain ⟨dx, tv, pv, qv, xs, ys, h1, h2, h3, h4, h5, h6, h7, h8⟩ := h.ob
  exact ⟨ht _ _ h.tg, ht _ _ h.tl, h.an, h.pl, dx, tv, pv, qv, xs, ys, by rw [e _ _ h.tg rfl]; exact h1, h2.up st, st _ _ h3, st _ _ h4, h5.up st, by rw [e _ _ h.tl rfl]; exact h6, h7, fun k y z => (h8 k y z).imp id fun y => y.up hl⟩
theorem stay_ins {C : Addr} {dx : Addr} {fs : List (Str × V)} (h : H p = some (.ins C dx fs)) : Stay H (upd H p o) := fun b ys z => by
  rw [upd_ne (ne_of z h (by intro z; cases z))]
  exact z
theorem stay_dK {kvs : List (Key × V)} (h : H p = some (.dK kvs)) : Stay H (upd H p o) := fun b ys z => by
  rw [upd_ne (ne_of z h (by intro z; cases z))]
  exact z
end
end Wk

/-! Reading and setting what stands there. -/
namespace Wk
open PySem PySem.Spec PyProof.Rows L2 Ck
structure Wc (K : PySem.W.Frag) (C : Cs) : Prop where
  cN : Cls K C.N
  cF : Cls K C.F
  cS : Cls K C.S
  cW : Cls K C.W
  nN : ∀ f ∈ (["tree", "word", "path", "parts", "nodes"] : List Str), NoAttr K C.N f
  nF : ∀ f ∈ (["node", "tested", "place", "held", "started", "rounds"] : List Str), NoAttr K C.F f
  nS : ∀ f ∈ (["last", "options", "variables", "traps", "ending", "end_begun", "frames", "calls", "trap_started"] : List Str), NoAttr K C.S f
  nW : ∀ f ∈ (["bodies", "shells", "coming", "tested", "begun", "asking", "status", "silent", "going", "notes"] : List Str), NoAttr K C.W f
section
variable {K : PySem.W.Frag} {C : Cs} {B : List (Str × Nd)} {G H H' : Hp} {N N' : NM} {τ τ' : TM} {A : WA} {w : W} {p q : Addr} {t u : Tag} {o : HO} {k j : Nat} {Q : VK} {P : Hp → Prop} {sa : SA} {S : Sh} {R : List Sh} {sr : List SA}
/-! ### the walk -/
/-! ### a shell -/
theorem s0 (s : St K C B G N τ A w H) (ea : A.ss = sa :: sr) (es : w.shells = S :: R) : ShAt C N τ H R.length sa S := by
  have h := s.ss
  rw [ea, es] at h
  exact h.1
end
end Wk

/-! The tables of a shell, its open trees, shells that come and go. -/
namespace Wk
open PySem PySem.Spec PyProof.Rows L2 Ck
section
variable {K : PySem.W.Frag} {C : Cs} {B : List (Str × Nd)} {G H H' : Hp} {N N' : NM} {τ τ' : TM} {A : WA} {w : W} {p q : Addr} {t u : Tag} {o : HO} {k j : Nat} {Q : VK} {P : Hp → Prop} {sa : SA} {S : Sh} {R : List Sh} {sr : List SA}
/-! ### a frame -/
/-- the innermost frame of the innermost shell -/
theorem f0 {fa : Addr × Addr} {fas : List (Addr × Addr)} {f : Fm} {fs : List Fm} (s : St K C B G N τ A w H) (ea : A.ss = sa :: sr) (es : w.shells = S :: R) (ef : sa.fs = fa :: fas) (eg : S.frames = f :: fs) : FrAt C N τ H R.length fs.length fa f := by
  have h := (s0 s ea es).fs
  rw [ef, eg] at h
  exact h.1
/-! ### shells that go, things that are new -/
theorem Nds.same {sm : Same H H'} (s : Nds K C G N τ H) : Nds K C G N τ H' := by
  have e : ∀ q t, τ q = some t → H' q = H q := fun q t g => by
    obtain ⟨o2, e2⟩ := (s.bs.fr q t g).2
    rw [e2]
    exact sm _ _ e2
  refine ⟨⟨s.bs.sm.trans sm, fun q t g => ⟨(s.bs.fr q t g).1, ?_⟩⟩, fun a x l h => (s.nd a x l h).up NLe.rfl TLe.rfl (same_stay sm) fun q t g _ => e q t g⟩
  rw [e q t g]
  exact (s.bs.fr q t g).2
theorem tset_le {x : Addr} (n : τ x = none) : TLe τ (tset τ x t) := fun q u e => by
  unfold tset
  rw [if_neg]
  · exact e
  · rintro rfl
    rw [n] at e
    cases e
/-! ### counts -/
end
end Wk

/-! Nodes. -/
namespace Wk
open PySem PySem.Spec PyProof.Rows L2 Ck
local macro_rules | `(tactic| bv_omega) => `(tactic| try dsimp only [L2.tRet, L2.tRetN, tAndV, tOrV, tNotV, tCB, L2.tCons, L2.tNil, tC, tVar, L2.tOp, L2.tUn, tSeq, tAsg, gName, tIfS, tTest, tNext, tAnd, tOr, tNot, L2.tIf, tFld, sFld, sFldAug, tCall, tTup, tB, tAug, tDrop, L2.tSl, tPart, tNoPart, tBM, tBM0, tChain, gTup, gCons, gNil, tPar, tIs, List.set, L2.start, iTup, L2.iList, L2.iRng1, tUn, tLst, tTest, gSub, tCall, L2.tIf, tCB, rRep, List.set, List.cons_append, List.nil_append, List.append_nil, cxOf, sFldC, sFldAugC, tMeth, tMakeC, sDPut, tDGet, L2.tNotN])
section
variable {P : Program} {w : World} {K : PySem.W.Frag} {mg : Str → Option Value} {base : Heap} {C : Cs} {B : List (Str × Nd)} {G H H' : Hp} {N N' : NM} {τ τ' : TM} {v : V} {nd : Nd} {Q : VK}
theorem Nds.at (s : Nds K C G N τ H) (h : NV N v nd) : ∃ a l, v = .ref a ∧ N a = some (nd, l) ∧ NdAt K C N τ H a nd l := by
  obtain ⟨a, l, e, z⟩ := h
  exact ⟨a, l, e, z, s.nd a nd l z⟩
theorem n_word (Z : Wc K C) (s : Nds K C G N τ H) (h : NV N v nd) (q : Q (.str (word nd.t)) H) : ∃ a C' dx fs v', v = .ref a ∧ H a = some (.ins C' dx fs) ∧ Cls K C' ∧ NoAttr K C' "word" ∧ fs.lookup ("word" : Str) = some v' ∧ Q v' H := by
  obtain ⟨a, l, rfl, na, x⟩ := s.at h
  obtain ⟨dx, tv, p, qv, xs, ys, h1, h2, h3, h4, h5, h6, h7, h8⟩ := x.ob
  exact ⟨_, _, _, _, _, rfl, h1, Z.cN, Z.nN _ (by decide +kernel), (by with_unfolding_all rfl), q⟩
theorem n_tree (Z : Wc K C) (s : Nds K C G N τ H) (h : NV N v nd) (q : ∀ tv, Dat K H tv (enc nd.t) → Q tv H) : ∃ a C' dx fs v', v = .ref a ∧ H a = some (.ins C' dx fs) ∧ Cls K C' ∧ NoAttr K C' "tree" ∧ fs.lookup ("tree" : Str) = some v' ∧ Q v' H := by
  obtain ⟨a, l, rfl, na, x⟩ := s.at h
  obtain ⟨dx, tv, p, qv, xs, ys, h1, h2, h3, h4, h5, h6, h7, h8⟩ := x.ob
  exact ⟨_, _, _, _, _, rfl, h1, Z.cN, Z.nN _ (by decide +kernel), (by with_unfolding_all rfl), q _ h2⟩
theorem n_path (Z : Wc K C) (s : Nds K C G N τ H) (h : NV N v nd) (q : ∀ p, H p = some (.tup (nd.p.map V.int)) → Q (.ref p) H) : ∃ a C' dx fs v', v = .ref a ∧ H a = some (.ins C' dx fs) ∧ Cls K C' ∧ NoAttr K C' "path" ∧ fs.lookup ("path" : Str) = some v' ∧ Q v' H := by
  obtain ⟨a, l, rfl, na, x⟩ := s.at h
  obtain ⟨dx, tv, p, qv, xs, ys, h1, h2, h3, h4, h5, h6, h7, h8⟩ := x.ob
  exact ⟨_, _, _, _, _, rfl, h1, Z.cN, Z.nN _ (by decide +kernel), (by with_unfolding_all rfl), q _ h3⟩
theorem n_parts (Z : Wc K C) (s : Nds K C G N τ H) (h : NV N v nd) (q : ∀ p xs, H p = some (.tup xs) → Dats K H xs (encs (kids nd.t)) → Q (.ref p) H) : ∃ a C' dx fs v', v = .ref a ∧ H a = some (.ins C' dx fs) ∧ Cls K C' ∧ NoAttr K C' "parts" ∧ fs.lookup ("parts" : Str) = some v' ∧ Q v' H := by
  obtain ⟨a, l, rfl, na, x⟩ := s.at h
  obtain ⟨dx, tv, p, qv, xs, ys, h1, h2, h3, h4, h5, h6, h7, h8⟩ := x.ob
  exact ⟨_, _, _, _, _, rfl, h1, Z.cN, Z.nN _ (by decide +kernel), (by with_unfolding_all rfl), q _ _ h4 h5⟩
/-- what stands behind the words in the table of places -/
structure Pls (K : PySem.W.Frag) (w : World) (mg : Str → Option Value) (d : Addr) : Prop where
  gl : mg "PLACES" = some (.ref d)
  kd : ∃ es n, KDict K w d es n
  none : ∀ z : Str, z ≠ "trap" → z ≠ "and" → z ≠ "or" → z ≠ "not" → z ≠ "if" → z ≠ "while" → z ≠ "until" → z ≠ "times" → z ≠ "sub" → PySem.W.nsIn K d z = some Option.none
  one : ∀ z : Str, z = "not" ∨ z = "sub" → ∃ a, KDct K w d z (.ref a) ∧ ∀ H, SqT K H a [.int 1]
  two : ∀ z : Str, z = "trap" ∨ z = "times" → ∃ a, KDct K w d z (.ref a) ∧ ∀ H, SqT K H a [.int 2]
  both : ∀ z : Str, z = "and" ∨ z = "or" ∨ z = "while" ∨ z = "until" → ∃ a, KDct K w d z (.ref a) ∧ ∀ H, SqT K H a [.int 1, .int 2]
  three : ∃ a, KDct K w d "if" (.ref a) ∧ ∀ H, SqT K H a [.int 1, .int 2, .int 3]
abbrev s_parts_of : Stmt := topS 47
theorem sc_parts_of : FnScope ["tree", "word", "place"] ["tree"] (defScope s_parts_of) := ⟨rfl, rfl, rfl, by decide +kernel, rfl, by decide +kernel, by decide +kernel⟩
def spPartsOf (K : PySem.W.Frag) : Sp := fun vs H Q _ => ∃ v t known, vs = [v] ∧ Dat K H v (enc t) ∧ Any known t ∧ ∀ H' p xs, Same H H' → H' p = some (.tup xs) → Dats K H' xs (encs (kids t)) → Q (.ref p) H'
/-- the parts that stand at some places -/
def nn : Option V → Option V
  | some V.non => none
  | o => o
def sel (xs : List V) (ps : List Nat) : List V := ps.filterMap fun p => nn xs[p]?
theorem lc_places {t c : Addr} {xs : List V} {ps : List Nat} {Q : VK} {wrd : Option V} (ht : H t = some (.tup xs)) (hc : ∀ H, SqT K H c (ps.map fun p => V.int (p : Nat))) (hp : ∀ p ∈ ps, p < xs.length) (few : ps.length ≤ 10)
    (q : ∀ D H', Same H H' → H' D = some (.lst (sel xs ps)) → Q (.ref D) H') :
    tLcL (gName 2) (tTest (tOp (fun x y H Q => y = .non ∧ Q (.bl (!decide (x = .non))) H) (tOp (rIxT K) (tVar 0) (tVar 2)) (tC .non))) (tOp (rIxT K) (tVar 0) (tVar 2)) [2] [some (.ref t), wrd, none] Q (Itt K c) H := by
  refine lcl_tup (K := K) (a := c) (xs := ps.map fun p => V.int (p : Nat)) (fun D i H' => Same H H' ∧ H' D = some (.lst (sel xs (ps.take i)))) (fun D nD => ⟨same_new nD, upd_same⟩) (fun D nD i H' li s => hc H') ?hs ?hd
  case hs =>
    rintro D nD i x H2 hx ⟨s2, h2⟩
    rw [List.getElem?_map] at hx
    cases ep : ps[i]? with
    | none => rw [ep] at hx; cases hx
    | some p =>
    rw [ep] at hx
    cases hx
    have lp := hp p (List.mem_of_getElem? ep)
    have ex : xs[p]? = some xs[p] := List.getElem?_eq_getElem lp
    bv_omega
    refine ⟨rfl, ?_⟩
    refine ⟨_, rfl, _, rfl, t, _, _, _, rfl, rfl, sqt (s2 _ _ ht), atI_nat ex, rfl, _, rfl, ?_⟩
    have tk : sel xs (ps.take (i + 1)) = sel xs (ps.take i) ++ (nn xs[p]?).toList := by
      unfold sel
      rw [List.take_add_one, ep, List.filterMap_append]
      congr 1
    rw [ex] at tk
    by_cases c0 : xs[p] = .non
    · rw [c0] at tk
      refine if_no (by rw [decide_eq_true c0]; rfl) ⟨s2, ?_⟩
      rw [tk]
      show _ = some (HO.lst (_ ++ []))
      rw [List.append_nil]
      exact h2
    · refine if_yes (by rw [decide_eq_false c0]; rfl) ?_
      refine ⟨_, rfl, _, rfl, t, _, _, _, rfl, rfl, sqt (s2 _ _ ht), atI_nat ex, ⟨_, h2, ?_, Ck.Same.up s2 nD, ?_⟩⟩
      · have l1 : (sel xs (ps.take i)).length ≤ (ps.take i).length := List.length_filterMap_le _ _
        rw [List.length_take] at l1
        exact Nat.lt_of_lt_of_le (show _ < 1000 by omega) (sl (by decide))
      · rw [upd_same, tk]
        have e : nn (some xs[p]) = some xs[p] := by
          cases e : xs[p] <;> first | rfl | exact absurd e c0
        rw [e]
        all_goals rfl
  case hd =>
    rintro D nD H2 ⟨s2, h2⟩
    rw [List.length_map, List.take_length] at h2
    exact q D H2 s2 h2
theorem dat_enc {t : Tr} (d : Dat K H v (enc t)) : ∃ p, v = .ref p := by
  obtain ⟨ts, e⟩ := enc_tup t
  rw [e] at d
  obtain ⟨p, xs, e, _⟩ := dat_tup d
  exact ⟨p, e⟩
/-- how the parts of a tree are found -/
def Way (K : PySem.W.Frag) (w : World) (H : Hp) (d : Addr) (z : Str) (xs : List V) (ks : List Tr) : Prop := (PySem.W.nsIn K d z = some none ∧ ks = []) ∨ ∃ c ps, KDct K w d z (.ref c) ∧ (∀ H, SqT K H c (ps.map fun p => V.int (p : Nat))) ∧ ps.length ≤ 10 ∧ (∀ p ∈ ps, p < (V.str z :: xs).length) ∧ Dats K H (sel (V.str z :: xs) ps) (encs ks)
theorem way_of {d : Addr} {known : List Str} {z : Str} {pr po : List T} {ks : List Tr} {xs : List V} (L : Pls K w mg d) (an : Any known (.mk false z pr ks po)) (hF : Dats K H xs ((plain pr ++ (parted ks ++ plain po)).map (·.1))) : Way K w H d z xs ks := by
  obtain ⟨C, W, N, M, i, l, o⟩ := an
  have nop : ∀ z : Str, z ≠ "trap" → z ≠ "and" → z ≠ "or" → z ≠ "not" → z ≠ "if" → z ≠ "while" → z ≠ "until" → z ≠ "times" → z ≠ "sub" → Way K w H d z xs [] := fun z a b c d e f g h i => .inl ⟨L.none z a b c d e f g h i, rfl⟩
  have one : ∀ (z : Str) (a : Tr), z = "not" ∨ z = "sub" → Dats K H xs [enc a] → Way K w H d z xs [a] := fun z a hz hx => by
    obtain ⟨v1, us, rfl, d1, ds⟩ := dats_cons hx
    cases dats_nil ds
    obtain ⟨p1, rfl⟩ := dat_enc d1
    obtain ⟨c, k1, k2⟩ := L.one z hz
    exact .inr ⟨c, [1], k1, k2, by decide, (by simp), .cons d1 .nil⟩
  have two : ∀ (z : Str) (t : T) (a : Tr), z = "trap" ∨ z = "times" → Dats K H xs [t, enc a] → Way K w H d z xs [a] := fun z t a hz hx => by
    obtain ⟨v0, us, rfl, d0, ds⟩ := dats_cons hx
    obtain ⟨v1, us, rfl, d1, ds⟩ := dats_cons ds
    cases dats_nil ds
    obtain ⟨p1, rfl⟩ := dat_enc d1
    obtain ⟨c, k1, k2⟩ := L.two z hz
    exact .inr ⟨c, [2], k1, k2, by decide, (by simp), .cons d1 .nil⟩
  have both : ∀ (z : Str) (a b : Tr), z = "and" ∨ z = "or" ∨ z = "while" ∨ z = "until" → Dats K H xs [enc a, enc b] → Way K w H d z xs [a, b] := fun z a b hz hx => by
    obtain ⟨v0, us, rfl, d0, ds⟩ := dats_cons hx
    obtain ⟨v1, us, rfl, d1, ds⟩ := dats_cons ds
    cases dats_nil ds
    obtain ⟨p0, rfl⟩ := dat_enc d0
    obtain ⟨p1, rfl⟩ := dat_enc d1
    obtain ⟨c, k1, k2⟩ := L.both z hz
    exact .inr ⟨c, [1, 2], k1, k2, by decide, (by simp), .cons d0 (.cons d1 .nil)⟩
  cases o with
  | run _ => exact nop _ (by decide) (by decide) (by decide) (by decide) (by decide) (by decide) (by decide) (by decide) (by decide)
  | status _ _ => exact nop _ (by decide) (by decide) (by decide) (by decide) (by decide) (by decide) (by decide) (by decide) (by decide)
  | var e _ => rcases e with rfl | rfl | rfl <;> exact nop _ (by decide) (by decide) (by decide) (by decide) (by decide) (by decide) (by decide) (by decide) (by decide)
  | put _ _ _ => exact nop _ (by decide) (by decide) (by decide) (by decide) (by decide) (by decide) (by decide) (by decide) (by decide)
  | option _ => exact nop _ (by decide) (by decide) (by decide) (by decide) (by decide) (by decide) (by decide) (by decide) (by decide)
  | jump e _ _ => rcases e with rfl | rfl <;> exact nop _ (by decide) (by decide) (by decide) (by decide) (by decide) (by decide) (by decide) (by decide) (by decide)
  | ret0 => exact nop _ (by decide) (by decide) (by decide) (by decide) (by decide) (by decide) (by decide) (by decide) (by decide)
  | ret _ _ => exact nop _ (by decide) (by decide) (by decide) (by decide) (by decide) (by decide) (by decide) (by decide) (by decide)
  | exit0 => exact nop _ (by decide) (by decide) (by decide) (by decide) (by decide) (by decide) (by decide) (by decide) (by decide)
  | exit _ _ => exact nop _ (by decide) (by decide) (by decide) (by decide) (by decide) (by decide) (by decide) (by decide) (by decide)
  | call m => exact nop _ (by decide) (by decide) (by decide) (by decide) (by decide) (by decide) (by decide) (by decide) (by decide)
  | andor e a b => exact both _ _ _ (e.imp id .inl) hF
  | not a => exact one _ _ (.inl rfl) hF
  | ife c a b =>
    obtain ⟨v0, us, rfl, d0, ds⟩ := dats_cons hF
    obtain ⟨v1, us, rfl, d1, ds⟩ := dats_cons ds
    obtain ⟨v2, us, rfl, d2, ds⟩ := dats_cons ds
    cases dats_nil ds
    obtain ⟨p0, rfl⟩ := dat_enc d0
    obtain ⟨p1, rfl⟩ := dat_enc d1
    obtain ⟨p2, rfl⟩ := dat_enc d2
    obtain ⟨c, k1, k2⟩ := L.three
    exact .inr ⟨c, [1, 2, 3], k1, k2, by decide, (by simp), .cons d0 (.cons d1 (.cons d2 .nil))⟩
  | if1 c a =>
    obtain ⟨v0, us, rfl, d0, ds⟩ := dats_cons hF
    obtain ⟨v1, us, rfl, d1, ds⟩ := dats_cons ds
    obtain ⟨v2, us, rfl, d2, ds⟩ := dats_cons ds
    cases dats_nil ds
    obtain ⟨p0, rfl⟩ := dat_enc d0
    obtain ⟨p1, rfl⟩ := dat_enc d1
    cases dat_non d2
    obtain ⟨c, k1, k2⟩ := L.three
    exact .inr ⟨c, [1, 2, 3], k1, k2, by decide, (by simp), .cons d0 (.cons d1 .nil)⟩
  | whl e a b => exact both _ _ _ (.inr (.inr e)) hF
  | times n0 n1 a => exact two _ _ _ (.inr rfl) hF
  | trap0 _ =>
    obtain ⟨v0, us, rfl, d0, ds⟩ := dats_cons hF
    obtain ⟨v1, us, rfl, d1, ds⟩ := dats_cons ds
    cases dats_nil ds
    cases dat_non d1
    obtain ⟨c, k1, k2⟩ := L.two "trap" (.inl rfl)
    exact .inr ⟨c, [2], k1, k2, by decide, (by simp), .nil⟩
  | trap _ a => exact two _ _ _ (.inl rfl) hF
  | sub a => exact one _ _ (.inr rfl) hF
theorem ok_parts_of {d_PLACES : Addr} {f : Addr} {fd : FuncData} (F : Fun K "parts_of" "parts_of" s_parts_of f fd) (L : Pls K w mg d_PLACES) (mt : mg "tuple" = none) : (FnOk P w K mg base CX0 1 f fd ["tree"] (spPartsOf K)) := by
  refine F.ok sc_parts_of (fun vs H Q E h => ?_) (fun cdv A0 outer s H vs Q E hr h => ?_)
  · obtain ⟨_, _, _, rfl, _⟩ := h
    rfl
  obtain ⟨v, t, known, rfl, d, an, q⟩ := h
  have g_PLACES := L.gl
  obtain ⟨es, n, hD⟩ := L.kd
  refine ⟨_, (pss_cons (ps_set (i := 1) sc_parts_of.nd rfl (.inl rfl) (pe_ix ix_tup (pv 0) pe_int fun _ _ => rfl)) (pss_cons (ps_if (PW.pt (pw_or (pt_cmpR op_eq (pv 1) pe_str rfl) (pw_or1 (pt_cmpR op_eq (pv 1) pe_str rfl)))) (pss_one (ps_ret (pe_ix ix_tup (pv 0) pe_int fun _ _ => rfl))) pss_nil) (pss_cons (ps_if (pt_cmpR (op_notIn_kd hD) (pv 1) (pe_glob (v := .ref d_PLACES) rfl g_PLACES rfl) (by rfl)) (pss_one (ps_ret (pe_tup pa_nil))) pss_nil) (pss_one (ps_ret (pe_callTy call_tuple_of rfl mt (by decide +kernel) (pa_cons (pe_lc (te := tOp (rIxT K) (tVar 0) (tVar 2)) (own := [("place", 2)]) (g := gName 2) (tt := tTest (tOp (fun x y H Q => y = .non ∧ Q (.bl (!decide (x = .non))) H) (tOp (rIxT K) (tVar 0) (tVar 2)) (tC .non))) rfl sc_parts_of.nd
      (pi_tup (pe_ix ix_kdict (pe_glob (v := .ref d_PLACES) rfl g_PLACES rfl) (pv 1) fun _ _ => rfl)) (blkOk_by (N := ["tree", "word", "place"]) (sc := defScope s_parts_of) (by decide +kernel)) (fun _ _ _ _ _ => pg_name (i := 2) sc_parts_of.nd rfl (.inl rfl))
      (fun _ _ _ _ _ => pts_one (pt_cmpR op_notN (pe_ix ix_tup (pv 0) (pv 2) fun _ _ => rfl) pe_non rfl)) (fun _ _ _ _ _ => pe_ix ix_tup (pv 0) (pv 2) fun _ _ => rfl)) pa_nil) (by decide) (by decide))))))), ?_⟩
  bv_omega
  obtain ⟨b, z, pr, ks, po⟩ := t
  obtain ⟨l1, l2, l3, l4, l5, l6, l7, l8⟩ := an.look
  obtain ⟨a, xs, rfl, ha, hT, hF⟩ := enc_in (fun e => by rcases l4 with ⟨_, _, z, y⟩ | ⟨z, _⟩; exact ⟨z, y⟩; rw [e] at z; cases z) d
  refine ⟨_, rfl, a, _, _, _, rfl, rfl, sqt ha, atI_nat (j := 0) rfl, _, rfl, rfl, ?_⟩
  rcases l4 with ⟨rfl, hz, rfl, rfl⟩ | ⟨rfl, z1, z2⟩
  · obtain ⟨p, ys, rfl, hp, dy⟩ := hT rfl
    rw [fst_parted] at dy
    have fin : rIxT K (V.ref a) (V.int 1) H Q := ⟨a, _, _, _, rfl, rfl, sqt ha, atI_nat (j := 1) rfl, q _ p ys same_id hp dy⟩
    rcases hz with rfl | rfl
    · exact ⟨_, rfl, if_yes rfl (if_yes rfl ⟨_, rfl, fin⟩)⟩
    · exact ⟨_, rfl, if_no rfl ⟨_, rfl, rfl, _, rfl, if_yes rfl ⟨_, rfl, fin⟩⟩⟩
  refine ⟨_, rfl, if_no (decide_eq_false fun e => z1 (V.str.inj e)) ⟨_, rfl, rfl, _, rfl, if_no (decide_eq_false fun e => z2 (V.str.inj e)) ?_⟩⟩
  rcases way_of L an (hF rfl) with ⟨w1, rfl⟩ | ⟨c, ps, k1, k2, k3, k4, k5⟩
  · refine ⟨_, rfl, z, _, rfl, rfl, w1, _, rfl, if_yes rfl ⟨sl (Nat.zero_le _), fun p np => ?_⟩⟩
    exact q _ p [] (same_new np) upd_same .nil
  · have kd := k1
    obtain ⟨es1, n1, u, e1, e2, e3, e4⟩ := k1
    refine ⟨_, rfl, z, _, rfl, rfl, e3, _, rfl, if_no rfl ?_⟩
    refine lc_in ?_
    bv_omega
    refine ⟨_, rfl, d_PLACES, z, _, rfl, rfl, kd, c, rfl, ⟨_, k2 H⟩, ?_⟩
    refine lc_places (ps := ps) ha k2 k4 k3 fun D H1 s1 h1 => ?_
    refine ⟨D, _, rfl, .inl ⟨.inl (.inl h1), fun p np => ?_⟩⟩
    exact q _ p _ (s1.trans (same_new np)) upd_same (k5.up (same_stay (s1.trans (same_new np))))
end
end Wk

/-! Nodes that come to be. -/
namespace Wk
open PySem PySem.Spec PyProof.Rows L2 Ck
local macro_rules | `(tactic| bv_omega) => `(tactic| try dsimp only [L2.tRet, L2.tRetN, tAndV, tOrV, tNotV, tCB, L2.tCons, L2.tNil, tC, tVar, L2.tOp, L2.tUn, tSeq, tAsg, gName, tIfS, tTest, tNext, tAnd, tOr, tNot, L2.tIf, tFld, sFld, sFldAug, tCall, tTup, tB, tAug, tDrop, L2.tSl, tPart, tNoPart, tBM, tBM0, tChain, gTup, gCons, gNil, tPar, tIs, List.set, L2.start, iTup, L2.iList, L2.iRng1, tUn, tLst, tTest, gSub, tCall, L2.tIf, tCB, rRep, List.set, List.cons_append, List.nil_append, List.append_nil, cxOf, sFldC, sFldAugC, tMeth, tMakeC, sDPut, tDGet, L2.tNotN])
section
variable {P : Program} {w : World} {K : PySem.W.Frag} {mg : Str → Option Value} {base : Heap} {C : Cs} {B : List (Str × Nd)} {G H H' : Hp} {N N' : NM} {τ τ' : TM} {v : V} {nd : Nd} {Q : VK}
abbrev s_Node___init__ : Stmt := inClass (topS 50) 0
theorem sc_Node___init__ : FnScope ["self", "tree", "path"] ["self", "tree", "path"] (defScope s_Node___init__) := ⟨rfl, rfl, rfl, by decide +kernel, rfl, by decide +kernel, by decide +kernel⟩
/-- the fields of a node -/
def nfl (t : Tr) (tv : V) (pv qv l : Addr) : List (Str × V) := [("tree", tv), ("word", .str (word t)), ("path", .ref pv), ("parts", .ref qv), ("nodes", .ref l)]
def spNode (K : PySem.W.Frag) (C : Cs) : Sp := fun vs H Q _ => ∃ a dx tv pv t known, vs = [.ref a, tv, .ref pv] ∧ H a = some (.ins C.N dx []) ∧ Dat K H tv (enc t) ∧ Any known t ∧
  ∀ H' qv xs l, (∀ b o, b ≠ a → H b = some o → H' b = some o) → H l = none → l ≠ a → H' a = some (.ins C.N dx (nfl t tv pv qv l)) → H' qv = some (.tup xs) → Dats K H' xs (encs (kids t)) → H' l = some (.lst (List.replicate (kids t).length .non)) → Q .non H'
theorem ok_node {f : Addr} {fd : FuncData} (F : Fun K "__init__" "Node.__init__" s_Node___init__ f fd) (Z : Wc K C) (ml : mg "len" = none) (G_parts_of : (Go P w K mg base CX0 1 "parts_of" ["tree"] (spPartsOf K))) : (FnOk P w K mg base CX0 2 f fd ["self", "tree", "path"] (spNode K C)) := by
  refine F.ok sc_Node___init__ (fun vs H Q E h => ?_) (fun cdv A0 outer s H vs Q E hr h => ?_)
  · obtain ⟨_, _, _, _, _, _, rfl, _⟩ := h
    rfl
  obtain ⟨a, dx, tv, p, t, known, rfl, ha, d, an, q⟩ := h
  refine ⟨_, (pss_cons (ps_fldC (pv 0) (pv 1) rfl) (pss_cons (ps_fldC (pv 0) (pe_ix ix_tup (pv 1) pe_int fun _ _ => rfl) rfl) (pss_cons (ps_fldC (pv 0) (pv 2) rfl) (pss_cons (ps_fldC (pv 0) (pe_go (E := fun _ _ _ => False) G_parts_of (hr.mono (by decide)) pass0 rfl (pa_cons (pv 1) pa_nil)) rfl) (pss_one (ps_fldC (pv 0) (pe_op op_rep (pe_lst (pa_cons pe_non pa_nil)) (pe_callB call_len_seq rfl ml PySem.boot_len (pa_cons (pe_fld (pv 0) rfl) pa_nil))) rfl)))))), ?_⟩
  bv_omega
  have an0 := an
  obtain ⟨b, z, pr, ks, po⟩ := t
  obtain ⟨l1, l2, l3, l4, l5, l6, l7, l8⟩ := an.look
  refine ⟨_, rfl, _, rfl, _, _, _, _, rfl, ha, Z.cN, Z.nN _ (by decide +kernel), by decide, ?_⟩
  rintro H1 e1
  have t1 : ∀ b o, b ≠ a → H b = some o → H1 b = some o := fun b o n z => by rw [e1, upd_ne n]; exact z
  have a1 : H1 a = some (.ins C.N dx [("tree", tv)]) := by rw [e1, upd_same]; with_unfolding_all rfl
  have st1 : Stay H H1 := by rw [e1]; exact stay_ins ha
  clear e1
  obtain ⟨ta, xs, rfl, hta, hT, hF⟩ := enc_in (fun e => by rcases l4 with ⟨_, _, z, y⟩ | ⟨z, _⟩; exact ⟨z, y⟩; rw [e] at z; cases z) (d.up st1)
  refine ⟨_, rfl, ta, _, _, _, rfl, rfl, sqt hta, atI_nat (j := 0) rfl, _, rfl, _, _, _, _, rfl, a1, Z.cN, Z.nN _ (by decide +kernel), (by show (1 : Nat) < 1000; decide), ?_⟩
  rintro H2 e2
  have t2 : ∀ b o, b ≠ a → H b = some o → H2 b = some o := fun b o n z => by rw [e2, upd_ne n]; exact t1 b o n z
  have a2 : H2 a = some (.ins C.N dx [("tree", .ref ta), ("word", .str z)]) := by rw [e2, upd_same]; with_unfolding_all rfl
  have st2 : Stay H H2 := st1.trans (by rw [e2]; exact stay_ins a1)
  clear e2
  refine ⟨_, rfl, _, rfl, _, _, _, _, rfl, a2, Z.cN, Z.nN _ (by decide +kernel), (by show (2 : Nat) < 1000; decide), ?_⟩
  rintro H3 e3
  have t3 : ∀ b o, b ≠ a → H b = some o → H3 b = some o := fun b o n z => by rw [e3, upd_ne n]; exact t2 b o n z
  have a3 : H3 a = some (.ins C.N dx [("tree", .ref ta), ("word", .str z), ("path", .ref p)]) := by rw [e3, upd_same]; with_unfolding_all rfl
  have st3 : Stay H H3 := st2.trans (by rw [e3]; exact stay_ins a2)
  clear e3
  refine ⟨_, rfl, .ref ta, .mk b z pr ks po, known, rfl, d.up st3, an0, fun H4 qv ys s4 hq dq => ?_⟩
  refine ⟨_, rfl, _, _, _, _, rfl, s4 _ _ a3, Z.cN, Z.nN _ (by decide +kernel), (by show (3 : Nat) < 1000; decide), ?_⟩
  rintro H5 e5
  have t5 : ∀ b o, b ≠ a → H b = some o → H5 b = some o := fun b o n z => by rw [e5, upd_ne n]; exact s4 _ _ (t3 b o n z)
  have a5 : H5 a = some (.ins C.N dx [("tree", .ref ta), ("word", .str z), ("path", .ref p), ("parts", .ref qv)]) := by rw [e5, upd_same]; with_unfolding_all rfl
  have st5 : Stay H4 H5 := by rw [e5]; exact stay_ins (s4 _ _ a3)
  clear e5
  have hq5 := st5 _ _ hq
  have dq5 := dq.up st5
  have lq := dq.len
  rw [encs_len] at lq
  refine ⟨sl (by decide), fun p6 n6 => ?_⟩
  have s6 := same_new (o := .lst [V.non]) n6
  refine ⟨_, rfl, _, _, _, _, _, rfl, s6 _ _ a5, Z.cN, Z.nN _ (by decide +kernel), (by with_unfolding_all rfl), qv, ys, rfl, .inr (sqt (s6 _ _ hq5)), ?_⟩
  have l8' : ks.length ≤ 5003 := by omega
  have lk : (kids (.mk b z pr ks po)).length = ks.length := rfl
  refine ⟨p6, _, _, rfl, rfl, upd_same, by omega, by rw [lq, lk]; omega, sl (by rw [lq, lk]; show 1 * ks.length ≤ 1000000; omega), fun p7 n7 => ?_⟩
  have s7 := same_new (o := .lst (List.replicate ((ys.length : Nat) : Int).toNat [V.non]).flatten) n7
  have a7 := s7 _ _ (s6 _ _ a5)
  refine ⟨_, rfl, _, _, _, _, rfl, a7, Z.cN, Z.nN _ (by decide +kernel), (by show (4 : Nat) < 1000; decide), ?_⟩
  rintro H8 e8
  have n7a : p7 ≠ a := Ne.symm (ne_of_none (s6 _ _ a5) n7)
  have st8 : Stay H5 H8 := ((same_stay s6).trans (same_stay s7)).trans (by rw [e8]; exact stay_ins a7)
  refine q H8 qv ys p7 (fun b o n z => by rw [e8, upd_ne n]; exact s7 _ _ (s6 _ _ (t5 b o n z))) ?_ n7a ?_ (st8 _ _ hq5) (dq5.up st8) ?_
  · cases e : H p7 with
    | none => rfl
    | some o =>
      have z := s6 _ _ (t5 p7 o n7a e)
      rw [n7] at z
      cases z
  · rw [e8, upd_same]
    with_unfolding_all rfl
  · rw [e8, upd_ne n7a, upd_same, lq, Int.toNat_natCast]
    congr 2
    generalize (kids (.mk b z pr ks po)).length = m
    induction m with
    | zero => rfl
    | succ m ih => rw [List.replicate_succ, List.flatten_cons, ih]; rfl
end
end Wk

/-! The node of a part. -/
namespace Wk
open PySem PySem.Spec PyProof.Rows L2 Ck
local macro_rules | `(tactic| bv_omega) => `(tactic| try dsimp only [L2.tRet, L2.tRetN, tAndV, tOrV, tNotV, tCB, L2.tCons, L2.tNil, tC, tVar, L2.tOp, L2.tUn, tSeq, tAsg, gName, tIfS, tTest, tNext, tAnd, tOr, tNot, L2.tIf, tFld, sFld, sFldAug, tCall, tTup, tB, tAug, tDrop, L2.tSl, tPart, tNoPart, tBM, tBM0, tChain, gTup, gCons, gNil, tPar, tIs, List.set, L2.start, iTup, L2.iList, L2.iRng1, tUn, tLst, tTest, gSub, tCall, L2.tIf, tCB, rRep, List.set, List.cons_append, List.nil_append, List.append_nil, cxOf, sFldC, sFldAugC, tMeth, tMakeC, sDPut, tDGet, L2.tNotN])
section
variable {P : Program} {w : World} {K : PySem.W.Frag} {mg : Str → Option Value} {base : Heap} {C : Cs} {B : List (Str × Nd)} {G H H' : Hp} {N N' : NM} {τ τ' : TM} {v : V} {nd : Nd} {Q : VK}
theorem ixk {n k : Nat} (h : k < n) : ixN n ((k : Nat) : Int) = some k := by
  unfold ixN
  rw [if_pos (by omega), if_pos (by omega)]
  rfl
theorem Any.kid {known : List Str} {t : Tr} (h : Any known t) {k : Nat} {c : Tr} (e : (kids t)[k]? = some c) : Any known c := by
  obtain ⟨b, w, pre, ks, post⟩ := t
  exact h.look.1 c (List.mem_of_getElem? e)
def nput (N : NM) (x : Addr) (nd : Nd) (l : Addr) : NM := fun q => if q = x then some (nd, l) else N q
theorem Nds.nfree (s : Nds K C G N τ H) {x : Addr} (n : H x = none) : N x = none ∧ τ x = none ∧ G x = none := by
  have t : τ x = none := by
    cases e : τ x with
    | none => rfl
    | some t =>
      obtain ⟨o, z⟩ := (s.bs.fr x t e).2
      rw [n] at z
      cases z
  refine ⟨?_, t, Ck.Same.non s.bs.sm n⟩
  cases e : N x with
  | none => rfl
  | some y =>
    obtain ⟨y, l⟩ := y
    have z := (s.nd x y l e).tg
    rw [t] at z
    cases z
/-- one more node -/
theorem Nds.more {x l dx pv qv : Addr} {tv : V} {xs : List V} (s : Nds K C G N τ H) (nx : H x = none) (nl : H l = none) (ne : l ≠ x) (kp : ∀ b o, H b = some o → H' b = some o) (an : ∃ known, Any known nd.t) (pl : nd.p.length + ht nd.t ≤ 1000) (hx : H' x = some (.ins C.N dx (nfl nd.t tv pv qv l))) (hd : Dat K H' tv (enc nd.t)) (hp : H' pv = some (.tup (nd.p.map V.int))) (hq : H' qv = some (.tup xs)) (dq : Dats K H' xs (encs (kids nd.t))) (hl : H' l = some (.lst (List.replicate (kids nd.t).length .non))) :
    NLe N (nput N x nd l) ∧ TLe τ (tset (tset τ x .nd) l (.nl x)) ∧ Nds K C G (nput N x nd l) (tset (tset τ x .nd) l (.nl x)) H' ∧ (∀ q t, τ q = some t → H' q = H q) := by
  obtain ⟨n1, n2, n3⟩ := s.nfree nx
  obtain ⟨m1, m2, m3⟩ := s.nfree nl
  have a1 : NLe N (nput N x nd l) := fun a y h => by
    unfold nput
    rw [if_neg]
    · exact h
    · rintro rfl
      rw [n1] at h
      cases h
  have a2 : TLe τ (tset τ x .nd) := tset_le n2
  have a3 : TLe (tset τ x .nd) (tset (tset τ x .nd) l (.nl x)) := tset_le (by unfold tset; rw [if_neg ne]; exact m2)
  have eq : ∀ q t, τ q = some t → H' q = H q := fun q t g => by
    obtain ⟨o2, e2⟩ := (s.bs.fr q t g).2
    rw [e2]
    exact kp _ _ e2
  have sm : Same H H' := kp
  have s1 := s.same (sm := sm)
  refine ⟨a1, a2.trans a3, ⟨(s1.bs.tag n3 ⟨_, hx⟩).tag m3 ⟨_, hl⟩, fun a y m e => ?_⟩, eq⟩
  unfold nput at e
  split at e
  · rename_i c
    subst c
    cases e
    refine ⟨a3 _ _ tset_same, tset_same, an, pl, dx, tv, pv, qv, xs, _, hx, hd, hp, hq, dq, hl, List.length_replicate, fun k z hz => .inl ?_⟩
    rw [List.getElem?_replicate] at hz
    split at hz
    · cases hz
      rfl
    · cases hz
  · exact (s1.nd a y m e).up a1 (a2.trans a3) (fun _ _ z => z) fun _ _ _ _ => rfl
theorem cat_path {p1 p2 : Addr} {xs : List V} {y : V} (h1 : H p1 = some (.tup xs)) (h2 : H p2 = some (.tup [y])) (few : xs.length ≤ 1000) (q : ∀ p H2, Same H H2 → H2 p = some (.tup (xs ++ [y])) → Q (.ref p) H2) : rCatA K (.ref p1) (.ref p2) H Q := by
  refine ⟨p1, p2, xs, [y], rfl, rfl, sqt h1, sqt h2, sl (by show xs.length + 1 ≤ 1000000; omega), fun z => ?_, fun _ z => (by cases z), fun _ _ p n => ?_⟩
  · subst z
    exact q p2 H same_id h2
  · exact q p _ (same_new n) upd_same
/-- a node knows one of its parts -/
theorem Nds.put {a l : Addr} {k : Nat} {ys : List V} {y : V} (s : Nds K C G N τ H) (na : N a = some (nd, l)) (hl : H l = some (.lst ys)) (hy : NV N y (nd.part k)) : Nds K C G N τ (L2.upd H l (.lst (ys.set k y))) := by
  have x0 := s.nd a nd l na
  have st : Stay H (L2.upd H l (.lst (ys.set k y))) := stay_lst hl
  refine ⟨s.bs.upd x0.tl, fun b z m e => ?_⟩
  have x := s.nd b z m e
  obtain ⟨dx, tv, pv, qv, xs, zs, h1, h2, h3, h4, h5, h6, h7, h8⟩ := x.ob
  have hb : L2.upd H l (.lst (ys.set k y)) b = H b := off x0.tl x.tg (by intro z; cases z)
  by_cases c : b = a
  · subst c
    rw [na] at e
    cases e
    rw [hl] at h6
    cases h6
    refine ⟨x.tg, x.tl, x.an, x.pl, dx, tv, pv, qv, xs, _, by rw [hb]; exact h1, h2.up st, st _ _ h3, st _ _ h4, h5.up st, upd_same, by rw [List.length_set]; exact h7, fun i u hu => ?_⟩
    by_cases ci : i = k
    · subst ci
      rw [List.getElem?_set] at hu
      simp only [if_true] at hu
      split at hu
      · cases hu
        exact .inr hy
      · cases hu
    · rw [List.getElem?_set_ne (Ne.symm ci)] at hu
      exact h8 i u hu
  · refine ⟨x.tg, x.tl, x.an, x.pl, dx, tv, pv, qv, xs, zs, by rw [hb]; exact h1, h2.up st, st _ _ h3, st _ _ h4, h5.up st, ?_, h7, h8⟩
    rw [off x0.tl x.tl (by intro z; injection z with z; exact c z)]
    exact h6
abbrev s_Node_part : Stmt := inClass (topS 50) 1
theorem sc_Node_part : FnScope ["self", "place", "node"] ["self", "place"] (defScope s_Node_part) := ⟨rfl, rfl, rfl, by decide +kernel, rfl, by decide +kernel, by decide +kernel⟩
def spPart (K : PySem.W.Frag) (C : Cs) : Sp := fun vs H Q _ => ∃ G N τ nv nd k, vs = [nv, .int ((k : Nat) : Int)] ∧ Nds K C G N τ H ∧ NV N nv nd ∧ k < (kids (Nd.t nd)).length ∧
  ∀ H' N' τ' v, NLe N N' → TLe τ τ' → Nds K C G N' τ' H' → (∀ q t, τ q = some t → Tag.cls t ≠ .nodes → H' q = H q) → NV N' v (nd.part k) → Q v H'
theorem ok_part {f : Addr} {fd : FuncData} (F : Fun K "part" "Node.part" s_Node_part f fd) (Z : Wc K C) (GC_Node : GoC P w K mg base CX0 2 C.N "Node" ["self", "tree", "path"] (spNode K C)) : (FnOk P w K mg base CX0 4 f fd ["self", "place"] (spPart K C)) := by
  refine F.ok sc_Node_part (fun vs H Q E h => ?_) (fun cdv A0 outer s H vs Q E hr h => ?_)
  · obtain ⟨_, _, _, _, _, _, rfl, _⟩ := h
    rfl
  obtain ⟨G, N, τ, nv, nd, k, rfl, ns, hn, hk, q⟩ := h
  refine ⟨_, (pss_cons (ps_set (i := 2) sc_Node_part.nd rfl (.inl rfl) (pe_ix ix_list (pe_fld (pv 0) rfl) (pv 1) fun _ _ => rfl)) (pss_cons (ps_if (pt_cmpR op_isN (pv 2) pe_non rfl) (pss_cons (ps_set (i := 2) sc_Node_part.nd rfl (.inl rfl) (pe_goCC GC_Node (hr.mono (by decide)) rfl pass0 (pa_cons (pe_ix ix_tup (pe_fld (pv 0) rfl) (pv 1) fun _ _ => rfl) (pa_cons (pe_op op_catA (pe_fld (pv 0) rfl) (pe_tup (pa_cons (pv 1) pa_nil))) pa_nil)))) (pss_one (ps_asg (pv 2) (pg_sub (pe_fld (pv 0) rfl) (pv 1) set_listC)))) pss_nil) (pss_one (ps_ret (pv 2))))), ?_⟩
  bv_omega
  obtain ⟨a, l, rfl, na, x⟩ := ns.at hn
  obtain ⟨known, an⟩ := x.an
  obtain ⟨dx, tv, pv, qv, xs, ys, h1, h2, h3, h4, h5, h6, h7, h8⟩ := x.ob
  obtain ⟨y, ey⟩ : ∃ y, ys[k]? = some y := ⟨_, List.getElem?_eq_getElem (by omega)⟩
  have noN : NoAttr K C.N "nodes" := Z.nN _ (by decide +kernel)
  refine ⟨_, rfl, _, _, _, _, _, rfl, h1, Z.cN, noN, (by with_unfolding_all rfl), _, rfl, l, _, _, _, rfl, rfl, .inl (.inl h6), atI_nat ey, _, rfl, rfl, _, rfl, ?_⟩
  rcases h8 k y ey with rfl | hy
  · refine if_yes rfl ?_
    obtain ⟨c, ec⟩ : ∃ c, (kids nd.t)[k]? = some c := ⟨_, List.getElem?_eq_getElem hk⟩
    have epart : nd.part k = ⟨c, nd.p ++ [(k : Int)]⟩ := by
      unfold Nd.part
      rw [ec]
      rfl
    obtain ⟨cv, ecv, dcv⟩ := h5.at (show (encs (kids nd.t))[k]? = some (enc c) by
      have : ∀ (ks : List Tr) (i : Nat) (c : Tr), ks[i]? = some c → (encs ks)[i]? = some (enc c) := by
        intro ks
        induction ks with
        | nil => intro i c h; cases h
        | cons a r ih =>
          intro i c h
          cases i with
          | zero => cases h; rfl
          | succ i => exact ih i c h
      exact this _ _ _ ec)
    refine ⟨_, rfl, _, _, _, _, _, rfl, h1, Z.cN, Z.nN _ (by decide +kernel), (by with_unfolding_all rfl), _, rfl, qv, _, _, _, rfl, rfl, sqt h4, atI_nat ecv, ?_⟩
    refine ⟨_, rfl, _, _, _, _, _, rfl, h1, Z.cN, Z.nN _ (by decide +kernel), (by with_unfolding_all rfl), _, rfl, sl (by show 1 ≤ 1000000; decide), fun p1 n1 => ?_⟩
    have s1 := same_new (o := .tup [V.int (k : Int)]) n1
    have plc : nd.p.length ≤ 1000 := by have := x.pl; omega
    refine cat_path (s1 _ _ h3) upd_same (by rw [List.length_map]; exact plc) fun p H2 s2 hp2 => ?_
    intro x1 dx1 nx1 ndx1 ne1 H3 e3
    have s12 := s1.trans s2
    have dcv2 := dcv.up (same_stay s12)
    have nsx := ns.same (sm := s12)
    have a3 : Same H2 H3 := by
      rw [e3]
      intro b o z
      rw [upd_ne (ne_of_none z nx1), upd_ne (ne_of_none z ndx1)]
      exact z
    have hx3 : H3 x1 = some (.ins C.N dx1 []) := by rw [e3, upd_same]
    have ex3 : ∀ b o, b ≠ x1 → H2 b = some o → H3 b = some o := fun b o _ z => a3 b o z
    have fr3 : ∀ l', H3 l' = none → H2 l' = none := fun l' z => by
      cases e : H2 l' with
      | none => rfl
      | some o => rw [a3 _ _ e] at z; cases z
    clear e3
    refine ⟨x1, dx1, cv, p, c, known, rfl, hx3, dcv2.up (same_stay a3), Any.kid an ec, fun H4 qv4 xs4 l4 k4 n4 ne4 h4x h4q d4 h4l => ⟨rfl, ?_⟩⟩
    have kp4 : ∀ b o, H2 b = some o → H4 b = some o := fun b o z => k4 b o (ne_of_none z nx1) (a3 b o z)
    have pl1 : (nd.part k).p.length + ht (nd.part k).t ≤ 1000 := by
      rw [epart]
      show (nd.p ++ [(k : Int)]).length + ht c ≤ 1000
      have h0 := x.pl
      have h1 : ht c + 1 ≤ ht nd.t := by
        obtain ⟨t, pp⟩ := nd
        obtain ⟨b, w, pre, ks, post⟩ := t
        have := ht_kid (h := hts ks) (b := b) (w := w) (pre := pre) (post := post) (ks := ks) (by show 1 + hts ks ≤ hts ks + 1; omega) (List.mem_of_getElem? ec)
        show ht c + 1 ≤ 1 + hts ks
        omega
      rw [List.length_append]
      show nd.p.length + 1 + ht c ≤ 1000
      omega
    have ek : (nd.part k).t = c := by rw [epart]
    have ep : (nd.part k).p = nd.p ++ [(k : Int)] := by rw [epart]
    obtain ⟨m1, m2, m3, m4⟩ := nsx.more (nd := nd.part k) (H' := H4) nx1 (fr3 _ n4) ne4 kp4 ⟨known, by rw [ek]; exact (Any.kid an ec)⟩ pl1 (by rw [ek]; exact h4x) (by rw [ek]; exact (dcv2.up (same_stay a3)).up fun b ys z => k4 b _ (by rintro rfl; rw [hx3] at z; cases z) z) (by rw [ep, List.map_append]; exact kp4 _ _ hp2) h4q (by rw [ek]; exact d4) (by rw [ek]; exact h4l)
    have hl4 : H4 l = some (.lst ys) := kp4 _ _ (s12 _ _ h6)
    have hnew : NV (nput N x1 (nd.part k) l4) (.ref x1) (nd.part k) := ⟨x1, l4, rfl, by unfold nput; rw [if_pos rfl]⟩
    refine ⟨_, rfl, _, rfl, _, _, _, _, _, rfl, kp4 _ _ (s12 _ _ h1), Z.cN, noN, (by with_unfolding_all rfl), _, rfl, l, _, _, k, rfl, rfl, hl4, ixk (by omega), fun H5 e5 => ⟨_, rfl, ?_⟩⟩
    rw [e5]
    refine q _ _ _ _ m1 m2 (m3.put (m1 _ _ na) hl4 hnew) (fun q t g c => ?_) hnew
    rw [off (m2 _ _ x.tl) (m2 _ _ g) (by rintro rfl; exact c rfl), m4 q t g]
    obtain ⟨o2, e2⟩ := (ns.bs.fr q t g).2
    rw [e2]
    exact s12 _ _ e2
  · refine if_no (decide_eq_false ?_) ⟨_, rfl, q _ _ _ _ NLe.rfl TLe.rfl ns (fun _ _ _ _ => rfl) hy⟩
    obtain ⟨b, m, rfl, _⟩ := hy
    intro z
    cases z
theorem m_part {G H : Hp} {N : NM} {τ : TM} {v : V} {nd : Nd} {p : Prop} (s : Nds K C G N τ H) (h : NV N v nd) (q : p) : ∃ a dx fs, v = .ref a ∧ H a = some (.ins C.N dx fs) ∧ fs.lookup ("part" : Str) = none ∧ p := by
  obtain ⟨a, l, rfl, na, x⟩ := s.at h
  obtain ⟨dx, tv, p, qv, xs, ys, h1, _⟩ := x.ob
  exact ⟨_, _, _, rfl, h1, (by with_unfolding_all rfl), q⟩
end
end Wk

/-! Plans as they stand. -/
namespace Wk
open PySem PySem.Spec PyProof.Rows L2 Ck
/-- the class of plans -/
structure Pc (K : PySem.W.Frag) (CP : Addr) : Prop where
  cl : Cls K CP
  no : ∀ f ∈ (["check", "bodies", "main", "variables"] : List Str), NoAttr K CP f
def pfl (cv : V) (bd : Addr) (mv : V) (va : Addr) : List (Str × V) := [("check", cv), ("bodies", .ref bd), ("main", mv), ("variables", .ref va)]
def BdAt (N : NM) : List (Key × V) → List (Str × Nd) → Prop
  | [], [] => True
  | p :: r, q :: r' => p.1 = .inr q.1 ∧ NV N p.2 q.2 ∧ BdAt N r r'
  | _, _ => False
section
variable {N N' : NM}
theorem BdAt.up (l : NLe N N') : ∀ {kvs : List (Key × V)} {bs : List (Str × Nd)}, BdAt N kvs bs → BdAt N' kvs bs
  | [], [], _ => trivial
  | p :: r, q :: r', h => ⟨h.1, h.2.1.up l, BdAt.up l h.2.2⟩
  | [], _ :: _, h => h.elim
  | _ :: _, [], h => h.elim
theorem BdAt.len : ∀ {kvs : List (Key × V)} {bs : List (Str × Nd)}, BdAt N kvs bs → kvs.length = bs.length
  | [], [], _ => rfl
  | p :: r, q :: r', h => by rw [List.length_cons, List.length_cons, BdAt.len h.2.2]
  | [], _ :: _, h => h.elim
  | _ :: _, [], h => h.elim
theorem BdAt.any {z : Str} : ∀ {kvs : List (Key × V)} {bs : List (Str × Nd)}, BdAt N kvs bs → z ∉ bs.map (·.1) → (kvs.any fun kv => decide (kv.1 = (Sum.inr z : Key))) = false
  | [], [], _, _ => rfl
  | p :: r, q :: r', h, n => by
    rw [List.map_cons, List.mem_cons, not_or] at n
    rw [List.any_cons, BdAt.any h.2.2 n.2, Bool.or_false, h.1]
    exact decide_eq_false fun e => n.1 (Sum.inr.inj e).symm
  | [], _ :: _, h, _ => h.elim
  | _ :: _, [], h, _ => h.elim
theorem BdAt.snoc {z : Str} {v : V} {nd : Nd} (hv : NV N v nd) : ∀ {kvs : List (Key × V)} {bs : List (Str × Nd)}, BdAt N kvs bs → BdAt N (kvs ++ [(.inr z, v)]) (bs ++ [(z, nd)])
  | [], [], _ => ⟨rfl, hv, trivial⟩
  | p :: r, q :: r', h => ⟨h.1, h.2.1, BdAt.snoc hv h.2.2⟩
  | [], _ :: _, h => h.elim
  | _ :: _, [], h => h.elim
theorem BdAt.put {z : Str} {v : V} {nd : Nd} {kvs : List (Key × V)} {bs : List (Str × Nd)} (h : BdAt N kvs bs) (n : z ∉ bs.map (·.1)) (hv : NV N v nd) : BdAt N (putK kvs (.inr z) v) (bs ++ [(z, nd)]) := by
  unfold putK
  rw [h.any n, if_neg Bool.false_ne_true]
  exact h.snoc hv
theorem BdAt.look {z : Str} {nd : Nd} : ∀ {kvs : List (Key × V)} {bs : List (Str × Nd)}, BdAt N kvs bs → bs.lookup z = some nd → ∃ v, valV kvs (.inr z) = some v ∧ NV N v nd
  | [], [], _, e => by cases e
  | (k, v) :: r, (y, n) :: r', h, e => by
    obtain ⟨h1, h2, h3⟩ := h
    dsimp only at h1 h2
    by_cases c : y = z
    · subst c
      have : n = nd := by simpa [List.lookup] using e
      subst this
      exact ⟨v, valV_pos h1, h2⟩
    · have e2 : (z == y) = false := by simpa using Ne.symm c
      rw [List.lookup_cons, e2] at e
      obtain ⟨u, a, b⟩ := BdAt.look h3 e
      exact ⟨u, by rw [valV_neg (by rw [h1]; exact fun q => c (Sum.inr.inj q))]; exact a, b⟩
  | [], _ :: _, h, _ => h.elim
  | _ :: _, [], h, _ => h.elim
end
/-- the bodies of functions, in their order -/
def Bds (B : List (Str × Nd)) (N : NM) (o : Option HO) : Prop := ∃ kvs, o = some (.dK kvs) ∧ (∀ z nd, B.lookup z = some nd → (∃ v, valV kvs (.inr z) = some v ∧ NV N v nd)) ∧ BdAt N kvs B
section
variable {P : Program} {w : World} {K : PySem.W.Frag} {mg : Str → Option Value} {base : Heap} {C : Cs} {B : List (Str × Nd)} {CP : Addr}
theorem p_bodies {H : Hp} {Q : VK} {pa dx bd va : Addr} {cv mv : V} (Z : Pc K CP) (h : H pa = some (.ins CP dx (pfl cv bd mv va))) (q : Q (.ref bd) H) : ∃ a C' dx fs v, V.ref pa = .ref a ∧ H a = some (.ins C' dx fs) ∧ Cls K C' ∧ NoAttr K C' "bodies" ∧ fs.lookup ("bodies" : Str) = some v ∧ Q v H :=
  ⟨_, _, _, _, _, rfl, h, Z.cl, Z.no _ (by decide +kernel), (by with_unfolding_all rfl), q⟩
theorem p_main {H : Hp} {Q : VK} {pa dx bd va : Addr} {cv mv : V} (Z : Pc K CP) (h : H pa = some (.ins CP dx (pfl cv bd mv va))) (q : Q mv H) : ∃ a C' dx fs v, V.ref pa = .ref a ∧ H a = some (.ins C' dx fs) ∧ Cls K C' ∧ NoAttr K C' "main" ∧ fs.lookup ("main" : Str) = some v ∧ Q v H :=
  ⟨_, _, _, _, _, rfl, h, Z.cl, Z.no _ (by decide +kernel), (by with_unfolding_all rfl), q⟩
end
/-- a plan as it stands -/
structure PlAt (K : PySem.W.Frag) (C : Cs) (B : List (Str × Nd)) (CP : Addr) (G : Hp) (N : NM) (τ : TM) (pa : Addr) (m : Nd) (ns : List Str) (H : Hp) : Prop where
  ob : ∃ dx cv bd mv va, G pa = some (.ins CP dx (pfl cv bd mv va)) ∧ NV N mv m ∧ Bds B N (G bd) ∧ G va = some (.lst (ns.map V.str))
  nd : ns.Nodup
  few : ns.length ≤ 1000
  ns : Nds K C G N τ H
def NVs (N : NM) : List V → List Nd → Prop
  | [], [] => True
  | v :: vs, n :: ns => NV N v n ∧ NVs N vs ns
  | _, _ => False
theorem NVs.up {N N' : NM} (l : NLe N N') : ∀ {vs : List V} {ns : List Nd}, NVs N vs ns → NVs N' vs ns
  | [], [], _ => trivial
  | v :: vs, n :: ns, h => ⟨h.1.up l, NVs.up l h.2⟩
  | [], _ :: _, h => h.elim
  | _ :: _, [], h => h.elim
theorem nvs_at {N : NM} : ∀ {us : List V} {l : List Nd} {i : Nat} {x : V}, NVs N us l → us[i]? = some x → ∃ nd, l[i]? = some nd ∧ NV N x nd
  | [], [], _, _, _, h => by cases h
  | v :: vs, n :: ns, 0, x, g, h => by cases h; exact ⟨n, rfl, g.1⟩
  | v :: vs, n :: ns, i + 1, x, g, h => nvs_at (i := i) g.2 h
  | [], _ :: _, _, _, h, _ => h.elim
  | _ :: _, [], _, _, h, _ => h.elim
end Wk

/-! What stands of the module: its defs, classes, tables. -/
namespace Wk
open PySem PySem.Spec PyProof.Rows L2 Ck PySem.ErrKw
abbrev bmE (S : Addr) : List Value := [.ref S, .type "ValueError", .type "Exception", .type "BaseException", .type "object"]
/-- every text at the third place of a record is the program's own file -/
def filAll (file : Str) : PySem.W.Frag → Bool
  | [] => true
  | (_, o) :: r => (match o.data with | Data.fields fs => (match (fs[2]? : Option Value) with | some (Value.str z _) => file == z | _ => true) | _ => true) && filAll file r
theorem fil_of {file : Str} : ∀ {K : PySem.W.Frag}, filAll file K = true → ∀ cda ccl cdd fs ccs z tf, K.lookup cda = some ⟨ccl, cdd, .fields fs, ccs⟩ → fs[2]? = some (.str z tf) → (file == z) = true
  | [], _, _, _, _, _, _, _, _, l, _ => by cases l
  | (a, o) :: r, h, cda, ccl, cdd, fs, ccs, z, tf, l, e => by
    unfold filAll at h
    rw [Bool.and_eq_true] at h
    obtain ⟨h1, h2⟩ := h
    rw [List.lookup_cons] at l
    split at l
    · cases l
      simp only at h1
      rw [e] at h1
      exact h1
    · exact fil_of h2 cda ccl cdd fs ccs z tf l e
theorem with_fil {K : PySem.W.Frag} {h : Heap} {R : Prop} (file : Str) (_ : K.In h) (a : filAll file K = true) (tp : PySem.W.nsIn K cStatics "thirdparty.any" = some none)
    (next : filAll file K = true → PySem.W.nsIn K cStatics "thirdparty.any" = some none → R) : R := next a tp
theorem with_err {P : Program} {K : PySem.W.Frag} {h : Heap} {mg : Str → Option Value} {C F S cda cc : Addr} {nm q : Str} {N : Addr} {bs : List Value} {sn : List Str} {sub : List Value} {ab : Bool} {col : Option Bool} {dd : Option Addr} {m0 m1 m2 m3 m5 : Option Value} {R : Prop}
    {qn msg : Str} {k : Nat} {oc doc pm ct ccl cll : Value} {od an cdd cld : Option Addr} {osl ccs csl : Array (Option Value)} {fs : Array Value} {tf : Tok} {p1 p2 q1 q2 q3 q4 q5 q6 q7 q8 q9 q10 : Pos}
    (x f : Str) (X : K.In h) (G : h.Ns mainGlobals mg) (sup : mg "super" = none) (tp : PySem.W.nsIn K cStatics "thirdparty.any" = some none) (top : (P.main.scope.names.lookup ("super" : Str)).isSome = false) (fil : filAll P.main.file K = true)
    (kl : (iScope f).names.lookup f = some .local) (vs : f ≠ "self") (nd : (f == ("__debug__" : Str)) = false) (ks : (iScope f).names.lookup ("super" : Str) = some .globalImplicit) (kc : (iScope f).names.lookup ("__class__" : Str) = some .free)
    (aC : PySem.W.nsIn K mainGlobals x = some (some (.ref C)))
    (xL : K.lookup C = some (excClassObj nm q C N bs (bmE S) true sn sub ab col dd m0 m1 m2 m3 m5 "ValueError.__new__"))
    (iC : PySem.W.findIn K (.ref C) "__init__" = some (some (.ref F))) (tI : PySem.W.typeIn K (.ref F) = some (.type "function"))
    (l1 : K.lookup F = some ⟨oc, od, .func (PySem.W.ksFn "__init__" qn (iArgs f p1 p2) (iBody f msg k q1 q2 q3 q4 q5 q6 q7 q8 q9 q10) (iScope f) .none .none doc pm an (.ref cda) ct cc), osl⟩)
    (c1 : PySem.W.codeIn K (.ref cda) qn = true) (l2 : K.lookup cda = some ⟨ccl, cdd, .fields fs, ccs⟩) (l3 : K.lookup cc = some ⟨cll, cld, .cell (some (.ref C)), csl⟩) (f2 : fs[2]? = some (.str P.main.file tf))
    (rd : Reads0 msg k q1 q2 q3 q4 q5)
    (su : PySem.W.ks_superIn K C C "__init__" = some (some (.builtin "ValueError.__init__"))) (qi : PySem.W.excInitIn K C [.type "ValueError", .type "Exception", .type "BaseException", .type "object"] "ValueError.__new__" = true)
    (sa : PySem.W.findIn K (.ref C) "__setattr__" = some (some (.builtin "object.__setattr__"))) (no : PySem.W.findIn K (.ref C) f = some none) (ve : PySem.W.subIn K (.ref C) (.type "ValueError") = some true) (me : PySem.W.mroIn K C (.ref C) = some true)
    (kC : PySem.W.keepIn K (.ref C) = true) (ga : PySem.W.findIn K (.ref C) "__getattribute__" = some (some (.builtin "BaseException.__getattribute__"))) (gg : PySem.W.findIn K (.ref C) "__getattr__" = some none)
    (exC : PySem.W.subIn K (.ref C) (.type "BaseException") = some true) (hdC : PySem.W.hasDictIn K C = true) (ca : PySem.W.findIn K (.ref C) "__class__" = some (some (.builtin "object.__class__")))
    (cg : PySem.W.specialIn K (.builtin "object.__class__") "__get__" = some (some (.builtin "getset_descriptor.__get__"))) (ck : PySem.W.takesIn K (.builtin "object.__class__") = some true) (mo : PySem.W.mroIn K C (.type "object") = some true) (isC : PySem.W.isClsIn K C = true)
    (next : ErrC P K mg x f C F → R) : R :=
  next
    { own := { cls := ⟨nm, q, N, bs, bmE S, sn, sub, ab, col, dd, m0, m1, m2, m3, m5, xL, rfl⟩, sa := sa, no := no, su := su, ve := ve, me := me, tp := tp, qi := qi, kl := kl, vs := vs, nd := nd, ks := ks, kc := kc,
               fn := ⟨qn, msg, k, oc, doc, pm, ct, ccl, cll, od, an, cdd, cld, osl, ccs, csl, cda, cc, fs, P.main.file, tf, p1, p2, q1, q2, q3, q4, q5, q6, q7, q8, q9, q10, l1, c1, l2, f2, l3, rd⟩ },
      gC := PySem.W.mg_of X G aC, kC := kC, iC := iC, tI := tI, ga := ga, gg := gg, exC := exC, hdC := hdC, ca := ca, cg := cg, ct := ck, mo := mo, isC := isC, sup := sup, top := top, fil := fil_of fil }
/-- a def of the module, at its place -/
structure DefA (K : PySem.W.Frag) (mg : Str → Option Value) (x : Str) (st : Stmt) (ps : List Str) (f : Addr) : Prop where
  ex : ∃ fd, Fun K x x st f fd ∧ mg x = some (.ref f) ∧ PySem.W.keepIn K (.ref f) = true ∧ Binds K fd ps [] ∧ ∀ (s : Shared) (us : List Value), us.length = ps.length → BindsTo s fd ⟨us, []⟩ (ps.zip us)
theorem DefA.def {K : PySem.W.Frag} {mg : Str → Option Value} {x : Str} {st : Stmt} {ps : List Str} {f : Addr} (D : DefA K mg x st ps f) : Def K mg x st ps := by
  obtain ⟨fd, F, g, k, b, _⟩ := D.ex
  exact ⟨f, fd, F, g, k, b⟩
theorem DefA.at_ {K : PySem.W.Frag} {mg : Str → Option Value} {x : Str} {st : Stmt} {ps : List Str} {f : Addr} (D : DefA K mg x st ps f) : mg x = some (.ref f) := by
  obtain ⟨_, _, g, _⟩ := D.ex
  exact g
theorem with_defA {K : PySem.W.Frag} {h : Heap} {mg : Str → Option Value} {R : Prop} {f : Addr} {oc kV doc pm cdv ct : Value} {od an : Option Addr} {osl : Array (Option Value)} (x : Str) (st : Stmt) (ps : List Str) (X : K.In h) (G : h.Ns mainGlobals mg)
    (hb : ∀ (kV doc pm : Value) (an : Option Addr) (cdv ct : Value) (us : List Value), us.length = ps.length → bindArgs (PySem.W.fnOf x x (defArgs st) (defBody st) (defScope st) .none kV doc pm an cdv ct) ⟨us, []⟩ = pure (ps.zip us))
    (a : PySem.W.nsIn K mainGlobals x = some (some (.ref f))) (l : K.lookup f = some ⟨oc, od, .func (PySem.W.fnOf x x (defArgs st) (defBody st) (defScope st) .none kV doc pm an cdv ct), osl⟩) (c : PySem.W.codeIn K cdv x = true) (k : PySem.W.keepIn K (.ref f) = true)
    (next : DefA K mg x st ps f → R) : R :=
  next ⟨_, fun_mk l c k, PySem.W.mg_of X G a, k, (fun_mk l c k).binds hb, fun s us hu => .of_eq (hb _ _ _ _ _ _ us hu)⟩
/-- a def that may be called by place or by word -/
structure DefK (K : PySem.W.Frag) (mg : Str → Option Value) (x : Str) (st : Stmt) (ps : List Str) : Prop where
  ex : ∃ f fd, Fun K x x st f fd ∧ mg x = some (.ref f) ∧ PySem.W.keepIn K (.ref f) = true ∧ Binds K fd ps [] ∧ KBinds K fd ps ps (fun us ws => us ++ ws) (fun vs zs => vs ++ zs)
theorem DefK.goK {P : Program} {w : World} {base : Heap} {CX : CXT} {sp : Sp} {n : Nat} {K : PySem.W.Frag} {mg : Str → Option Value} {x : Str} {st : Stmt} {ps : List Str} (D : DefK K mg x st ps) (h : ∀ f fd, Fun K x x st f fd → FnOk P w K mg base CX n f fd ps sp) : GoK P w K mg base CX n x ps sp := by
  obtain ⟨f, fd, F, g, k, b, kb⟩ := D.ex
  exact ⟨f, fd, h f fd F, g, k, b, kb⟩
theorem vals_app {vs zs : List V} {us ws : List Value} (a : Vals vs us) (b : Vals zs ws) : Vals (vs ++ zs) (us ++ ws) := by
  induction a with
  | nil => exact b
  | cons h _ ih => exact .cons h ih
theorem with_defK {K : PySem.W.Frag} {h : Heap} {mg : Str → Option Value} {R : Prop} {f : Addr} {oc kV doc pm cdv ct : Value} {od an : Option Addr} {osl : Array (Option Value)} (x : Str) (st : Stmt) (ps : List Str) (X : K.In h) (G : h.Ns mainGlobals mg)
    (hb : ∀ (kV doc pm : Value) (an : Option Addr) (cdv ct : Value) (us : List Value), us.length = ps.length → bindArgs (PySem.W.fnOf x x (defArgs st) (defBody st) (defScope st) .none kV doc pm an cdv ct) ⟨us, []⟩ = pure (ps.zip us))
    (hk : ∀ (kV doc pm : Value) (an : Option Addr) (cdv ct : Value) (us ws : List Value), (us ++ ws).length = ps.length → bindArgs (PySem.W.fnOf x x (defArgs st) (defBody st) (defScope st) .none kV doc pm an cdv ct) ⟨us, ps.zip ws⟩ = pure (ps.zip (us ++ ws)))
    (a : PySem.W.nsIn K mainGlobals x = some (some (.ref f))) (l : K.lookup f = some ⟨oc, od, .func (PySem.W.fnOf x x (defArgs st) (defBody st) (defScope st) .none kV doc pm an cdv ct), osl⟩) (c : PySem.W.codeIn K cdv x = true) (k : PySem.W.keepIn K (.ref f) = true)
    (next : DefK K mg x st ps → R) : R :=
  next ⟨_, _, fun_mk l c k, PySem.W.mg_of X G a, k, (fun_mk l c k).binds hb, ⟨fun _ us ws _ hu => .of_eq (hk _ _ _ _ _ _ us ws hu), vals_app⟩⟩
/-! ### the two tables -/
theorem keys_cons {P : Params} {e : DictEntry} {r : List DictEntry} (h : ∃ x t, e.key = .str x t ∧ e.hash = PyData.keyHash P x) (t : PySem.W.KeysLit P r) : PySem.W.KeysLit P (e :: r) := ⟨h, t⟩
theorem keys_nil {P : Params} : PySem.W.KeysLit P [] := trivial
def keyStr (e : DictEntry) : Option Str × Value := (match e.key with | .str x _ => some x | _ => none, e.val)
theorem find_of (z : Str) : ∀ (l : List DictEntry) (kvs : List (Str × Value)), l.map keyStr = kvs.map (fun p => (some p.1, p.2)) → (∀ u, l.find? (fun e => e.key.isStr z) = some u → kvs.lookup z = some u.val) ∧ (l.find? (fun e => e.key.isStr z) = none → kvs.lookup z = none) ∧ (l.any fun e => e.refKey) = false
  | [], [], _ => ⟨fun u h => by simp at h, fun _ => rfl, rfl⟩
  | [], _ :: _, h => by simp at h
  | _ :: _, [], h => by simp at h
  | e :: r, (x, v) :: ks, h => by
    rw [List.map_cons, List.map_cons] at h
    injection h with h1 h2
    obtain ⟨i1, i2, i3⟩ := find_of z r ks h2
    obtain ⟨hs, key, val⟩ := e
    unfold keyStr at h1
    cases key with
    | str a t =>
      simp only [Prod.mk.injEq, Option.some.injEq] at h1
      obtain ⟨rfl, rfl⟩ := h1
      rw [List.find?_cons, List.lookup_cons, List.any_cons]
      have e1 : (Value.str a t).isStr z = (a == z) := rfl
      have e2 : (DictEntry.refKey ⟨hs, .str a t, val⟩) = false := rfl
      simp only [e1, e2, i3, Bool.or_self]
      cases c : (a == z) with
      | true =>
        have c2 : a = z := beq_iff_eq.mp c
        subst c2
        simp
      | false =>
        have c2 : (z == a) = false := by
          cases d : (z == a) with
          | false => rfl
          | true =>
            have d2 : z = a := beq_iff_eq.mp d
            subst d2
            simp at c
        rw [c2]
        exact ⟨i1, i2, trivial⟩
    | _ => simp at h1
theorem ns_of {K : PySem.W.Frag} {d : Addr} {cls : Value} {od : Option Addr} {es : Array DictEntry} {n : Nat} {sl : Array (Option Value)} {kvs : List (Str × Value)} (hl : K.lookup d = some ⟨cls, od, .dict es n, sl⟩) (hk : es.toList.map keyStr = kvs.map fun p => (some p.1, p.2)) (z : Str) : PySem.W.nsIn K d z = some (kvs.lookup z) := by
  obtain ⟨h1, h2, h3⟩ := find_of z es.toList kvs hk
  unfold PySem.W.nsIn
  rw [hl]
  simp only
  cases c : es.toList.find? (fun e => e.key.isStr z) with
  | some u =>
    simp only
    rw [h1 u c]
  | none =>
    simp only
    rw [h3, h2 c]
    rfl
theorem lookup_has (z : Str) : ∀ kvs : List (Str × Value), (kvs.lookup z).isSome = (kvs.map Prod.fst).contains z
  | [] => rfl
  | (x, v) :: r => by
    rw [List.lookup_cons, List.map_cons, List.contains_cons]
    cases c : (z == x) with
    | true => simp
    | false =>
      simp only [Bool.false_or]
      exact lookup_has z r

theorem lookup_mapG {ι : Type} (g : ι → Value) (z : Str) : ∀ ws : List (Str × ι), (ws.map fun p => (p.1, g p.2)).lookup z = (ws.lookup z).map g
  | [] => rfl
  | (x, k) :: r => by
    rw [List.map_cons, List.lookup_cons, List.lookup_cons]
    cases c : (z == x) with
    | true => rfl
    | false => exact lookup_mapG g z r
section
variable {K : PySem.W.Frag} {w : World} {h : Heap} {mg : Str → Option Value} {R : Prop} {C f d : Addr} {oc kV doc pm cdv ct : Value} {od an : Option Addr} {osl : Array (Option Value)}
def NoAts (K : PySem.W.Frag) (C : Addr) : List Str → Prop
  | [] => True
  | f :: r => PySem.W.findIn K (.ref C) f = some none ∧ NoAts K C r
theorem NoAts.all : ∀ {fs : List Str}, NoAts K C fs → ∀ f ∈ fs, NoAttr K C f
  | [], _, f, m => by cases m
  | g :: r, h, f, m => by
    rcases List.mem_cons.mp m with rfl | m
    · exact h.1
    · exact NoAts.all h.2 f m
/-- a tuple of constants of the module -/
structure KTup (K : PySem.W.Frag) (a : Addr) (xs : List V) : Prop where
  ex : ∃ o its n, K.lookup a = some o ∧ o.cls = Value.type "tuple" ∧ o.data = Data.seq its n ∧ its.size ≤ sizeLine ∧ Vals xs its.toList
theorem KTup.sq {a : Addr} {xs : List V} (h : KTup K a xs) (H : Hp) : SqT K H a xs := .inr h.ex
theorem ktup_mk {a : Addr} {xs : List V} {odd : Option Addr} {its : Array Value} {n : Nat} {sl : Array (Option Value)} (l : K.lookup a = some ⟨.type "tuple", odd, .seq its n, sl⟩) (v : Vals xs its.toList) (s : its.size ≤ sizeLine) : KTup K a xs := ⟨_, _, _, l, rfl, rfl, s, v⟩
theorem with_ktup (x : Str) (xs : List V) (X : K.In h) (G : h.Ns mainGlobals mg) (a : PySem.W.nsIn K mainGlobals x = some (some (.ref d))) (k : KTup K d xs) (next : (mg x = some (.ref d) ∧ ∀ H, SqT K H d xs) → R) : R := next ⟨PySem.W.mg_of X G a, k.sq⟩
theorem with_pls {es : Array DictEntry} {n : Nat} {t0 t1 t2 t3 t4 t5 t6 t7 t8 : Addr} (X : K.In h) (G : h.Ns mainGlobals mg) (low : (d == sysModules) = false)
    (a : PySem.W.nsIn K mainGlobals "PLACES" = some (some (.ref d))) (l : K.lookup d = some { cls := .type "dict", data := .dict es n }) (k : PySem.W.KeysLit w.params es.toList)
    (m : es.toList.map keyStr = ([("trap", .ref t0), ("and", .ref t1), ("or", .ref t2), ("not", .ref t3), ("if", .ref t4), ("while", .ref t5), ("until", .ref t6), ("times", .ref t7), ("sub", .ref t8)] : List (Str × Value)).map fun p => (some p.1, p.2))
    (k0 : KTup K t0 [.int 2]) (k1 : KTup K t1 [.int 1, .int 2]) (k2 : KTup K t2 [.int 1, .int 2]) (k3 : KTup K t3 [.int 1]) (k4 : KTup K t4 [.int 1, .int 2, .int 3]) (k5 : KTup K t5 [.int 1, .int 2]) (k6 : KTup K t6 [.int 1, .int 2]) (k7 : KTup K t7 [.int 2]) (k8 : KTup K t8 [.int 1])
    (next : Pls K w mg d → R) : R := by
  have kd : ∀ (z : Str) (t : Addr), ([("trap", .ref t0), ("and", .ref t1), ("or", .ref t2), ("not", .ref t3), ("if", .ref t4), ("while", .ref t5), ("until", .ref t6), ("times", .ref t7), ("sub", .ref t8)] : List (Str × Value)).lookup z = some (.ref t) → KDct K w d z (.ref t) := fun z t e => ⟨es, n, .ref t, l, k, by rw [ns_of l m z, e], rfl⟩
  refine next ⟨PySem.W.mg_of X G a, ⟨es, n, l, k, low⟩, fun z a b c d e f g h i => ?_, fun z h => ?_, fun z h => ?_, fun z h => ?_, ⟨t4, kd _ _ rfl, k4.sq⟩⟩
  · rw [ns_of l m z]
    have q : ∀ {y : Str}, z ≠ y → (z == y) = false := fun n => beq_false_of_ne n
    simp only [List.lookup, q a, q b, q c, q d, q e, q f, q g, q h, q i]
  · rcases h with rfl | rfl
    · exact ⟨t3, kd _ _ rfl, k3.sq⟩
    · exact ⟨t8, kd _ _ rfl, k8.sq⟩
  · rcases h with rfl | rfl
    · exact ⟨t0, kd _ _ rfl, k0.sq⟩
    · exact ⟨t7, kd _ _ rfl, k7.sq⟩
  · rcases h with rfl | rfl | rfl | rfl
    · exact ⟨t1, kd _ _ rfl, k1.sq⟩
    · exact ⟨t2, kd _ _ rfl, k2.sq⟩
    · exact ⟨t5, kd _ _ rfl, k5.sq⟩
    · exact ⟨t6, kd _ _ rfl, k6.sq⟩
theorem with_clsA (x qual : Str) (st : Stmt) (ps fs : List Str) (X : K.In h) (G : h.Ns mainGlobals mg) (hb : ∀ (kV doc pm : Value) (an : Option Addr) (cdv ct : Value) (us : List Value), us.length = ps.length → bindArgs (PySem.W.fnOf "__init__" qual (defArgs st) (defBody st) (defScope st) .none kV doc pm an cdv ct) ⟨us, []⟩ = pure (ps.zip us))
    (aC : PySem.W.nsIn K mainGlobals x = some (some (.ref C))) (a1 : PySem.W.findIn K (.ref C) "__init__" = some (some (.ref f))) (i1 : PySem.W.isFn K (.ref f) = true) (l1 : K.lookup f = some ⟨oc, od, .func (PySem.W.fnOf "__init__" qual (defArgs st) (defBody st) (defScope st) .none kV doc pm an cdv ct), osl⟩) (c1 : PySem.W.codeIn K cdv qual = true) (k1 : PySem.W.keepIn K (.ref f) = true)
    (mk : PySem.W.makesIn K C = true) (kc : PySem.W.keepIn K (.ref C) = true) (pg : PySem.W.plainGet K C Str.empty = true) (hd : PySem.W.hasDictIn K C = true) (po : PySem.W.plainOver K C = true) (sa : PySem.W.findIn K (.ref C) "__setattr__" = some (some (.builtin "object.__setattr__"))) (nf : NoAts K C fs)
    (next : (ClsD K mg C x qual st ps ∧ Cls K C ∧ ∀ f ∈ fs, NoAttr K C f) → R) : R := next ⟨⟨f, _, fun_mk (st := st) l1 c1 k1, ⟨mk, a1, i1, kc⟩, PySem.W.mg_of X G aC, (fun_mk (st := st) l1 c1 k1).binds hb⟩, ⟨pg, hd, po, sa⟩, nf.all⟩
theorem with_methA {x0 q0 : Str} {st0 : Stmt} {ps0 fs0 : List Str} (D0 : ClsD K mg C x0 q0 st0 ps0 ∧ Cls K C ∧ ∀ f ∈ fs0, NoAttr K C f) (m qual : Str) (st : Stmt) (ps : List Str) (hb : ∀ (kV doc pm : Value) (an : Option Addr) (cdv ct : Value) (us : List Value), us.length = ps.length → bindArgs (PySem.W.fnOf m qual (defArgs st) (defBody st) (defScope st) .none kV doc pm an cdv ct) ⟨us, []⟩ = pure (ps.zip us))
    (a : PySem.W.findIn K (.ref C) m = some (some (.ref f))) (i : PySem.W.isFn K (.ref f) = true) (l : K.lookup f = some ⟨oc, od, .func (PySem.W.fnOf m qual (defArgs st) (defBody st) (defScope st) .none kV doc pm an cdv ct), osl⟩) (c : PySem.W.codeIn K cdv qual = true) (k : PySem.W.keepIn K (.ref f) = true)
    (next : MethD K C m qual st ps → R) : R := next ⟨f, _, fun_mk (st := st) l c k, ⟨a, i, k⟩, (fun_mk (st := st) l c k).binds hb⟩
end
end Wk

/-! What stands of the module: the check, its names, its tables; run. -/
namespace Wk
open PySem PySem.Spec PyProof.Rows L2 Ck PySem.ErrKw
/-! ### the class of checks -/
structure ClA (K : PySem.W.Frag) (mg : Str → Option Value) (C fN : Addr) : Prop where
  cl : Cls K C
  n1 : NoAttr K C "trees"
  n2 : NoAttr K C "commands"
  n3 : NoAttr K C "variables"
  n4 : NoAttr K C "unfolded"
  n5 : NoAttr K C "functions"
  n6 : NoAttr K C "places"
  n7 : NoAttr K C "loops"
  n8 : NoAttr K C "returns"
  init : ∃ fd, Fun K "__init__" "Check.__init__" sInit fN fd ∧ Binds K fd ["self"] []
  mkk : Mk K C fN
  gC : mg "Check" = some (.ref C)
theorem with_cls {K : PySem.W.Frag} {h : Heap} {mg : Str → Option Value} {R : Prop} {C f : Addr} {oc kV doc pm cdv ct : Value} {od an : Option Addr} {osl : Array (Option Value)} (X : K.In h) (G : h.Ns mainGlobals mg)
    (aC : PySem.W.nsIn K mainGlobals "Check" = some (some (.ref C)))
    (a1 : PySem.W.findIn K (.ref C) "__init__" = some (some (.ref f))) (i1 : PySem.W.isFn K (.ref f) = true) (l1 : K.lookup f = some ⟨oc, od, .func (PySem.W.fnOf "__init__" "Check.__init__" (defArgs sInit) (defBody sInit) (defScope sInit) .none kV doc pm an cdv ct), osl⟩) (c1 : PySem.W.codeIn K cdv "Check.__init__" = true) (k1 : PySem.W.keepIn K (.ref f) = true)
    (pg : PySem.W.plainGet K C Str.empty = true) (hd : PySem.W.hasDictIn K C = true) (po : PySem.W.plainOver K C = true) (sa : PySem.W.findIn K (.ref C) "__setattr__" = some (some (.builtin "object.__setattr__"))) (mk : PySem.W.makesIn K C = true) (kc : PySem.W.keepIn K (.ref C) = true)
    (n1 : PySem.W.findIn K (.ref C) "trees" = some none) (n2 : PySem.W.findIn K (.ref C) "commands" = some none) (n3 : PySem.W.findIn K (.ref C) "variables" = some none) (n4 : PySem.W.findIn K (.ref C) "unfolded" = some none) (n5 : PySem.W.findIn K (.ref C) "functions" = some none) (n6 : PySem.W.findIn K (.ref C) "places" = some none) (n7 : PySem.W.findIn K (.ref C) "loops" = some none) (n8 : PySem.W.findIn K (.ref C) "returns" = some none)
    (next : ClA K mg C f → R) : R :=
  next ⟨⟨pg, hd, po, sa⟩, n1, n2, n3, n4, n5, n6, n7, n8, ⟨_, fun_mk (st := sInit) l1 c1 k1, (fun_mk (st := sInit) l1 c1 k1).binds fun _ _ _ _ _ _ us hl => match us, hl with | [_], _ => rfl⟩, ⟨mk, a1, i1, kc⟩, PySem.W.mg_of X G aC⟩
/-! ### the names of the module -/
def adr18 (a0 a1 a2 a3 a4 a5 a6 a7 a8 a9 a10 a11 a12 a13 a14 a15 a16 a17 : Addr) : Ck.Kind → Addr
  | .run => a0
  | .status => a1
  | .var => a2
  | .put => a3
  | .option => a4
  | .trap => a5
  | .seq => a6
  | .pipe => a7
  | .andor => a8
  | .not => a9
  | .sub => a10
  | .ife => a11
  | .whl => a12
  | .times => a13
  | .jump => a14
  | .call => a15
  | .ret => a16
  | .exit => a17
structure TbA (K : PySem.W.Frag) (w : World) (mg : Str → Option Value) (dR dS : Addr) (adr : Ck.Kind → Addr) : Prop where
  gR : mg "RESERVED" = some (.ref dR)
  gS : mg "SIZES" = some (.ref dS)
  kR : ∃ es n, KDict K w dR es n
  kS : ∃ es n, KDict K w dS es n
  inR : ∀ z, ∃ r, PySem.W.nsIn K dR z = some r ∧ r.isSome = reserved.contains z
  inS : ∀ z, PySem.W.nsIn K dS z = some ((kindOf z).map fun k => .ref (adr k))
theorem with_tables {K : PySem.W.Frag} {w : World} {h : Heap} {mg : Str → Option Value} {R : Prop} {dR dS : Addr} {esR esS : Array DictEntry} {nR nS : Nat} {f_run f_status f_var f_put f_option f_trap f_seq f_pipe f_andor f_not f_sub f_ife f_whl f_times f_jump f_call f_ret f_exit : Addr} (X : K.In h) (G : h.Ns mainGlobals mg)
    (D_run : DefA K mg "size_of_run" sRun ["check", "tree", "place"] f_run)
    (D_status : DefA K mg "size_of_status" sSta ["check", "tree", "place"] f_status)
    (D_var : DefA K mg "size_with_variable" sVar ["check", "tree", "place"] f_var)
    (D_put : DefA K mg "size_of_put" sPut ["check", "tree", "place"] f_put)
    (D_option : DefA K mg "size_of_option" sOpt ["check", "tree", "place"] f_option)
    (D_trap : DefA K mg "size_of_trap" sTra ["check", "tree", "place"] f_trap)
    (D_seq : DefA K mg "size_of_seq" sSeq ["check", "tree", "place"] f_seq)
    (D_pipe : DefA K mg "size_of_pipe" sPip ["check", "tree", "place"] f_pipe)
    (D_andor : DefA K mg "size_of_and_or" sAnd ["check", "tree", "place"] f_andor)
    (D_not : DefA K mg "size_of_not" sNot ["check", "tree", "place"] f_not)
    (D_sub : DefA K mg "size_of_sub" sSub ["check", "tree", "place"] f_sub)
    (D_ife : DefA K mg "size_of_if" sIff ["check", "tree", "place"] f_ife)
    (D_whl : DefA K mg "size_of_while" sWhi ["check", "tree", "place"] f_whl)
    (D_times : DefA K mg "size_of_times" sTim ["check", "tree", "place"] f_times)
    (D_jump : DefA K mg "size_of_jump" sJmp ["check", "tree", "place"] f_jump)
    (D_call : DefA K mg "size_of_call" sCal ["check", "tree", "place"] f_call)
    (D_ret : DefA K mg "size_of_return" sRet ["check", "tree", "place"] f_ret)
    (D_exit : DefA K mg "size_of_exit" sExi ["check", "tree", "place"] f_exit)
    (aR : PySem.W.nsIn K mainGlobals "RESERVED" = some (some (.ref dR))) (aS : PySem.W.nsIn K mainGlobals "SIZES" = some (some (.ref dS)))
    (lR : K.lookup dR = some { cls := .type "dict", data := .dict esR nR }) (lS : K.lookup dS = some { cls := .type "dict", data := .dict esS nS })
    (kR : PySem.W.KeysLit w.params esR.toList) (kS : PySem.W.KeysLit w.params esS.toList) (oR : (dR == sysModules) = false) (oS : (dS == sysModules) = false)
    (mR : ∃ vs : List (Str × Value), esR.toList.map keyStr = vs.map (fun p => (some p.1, p.2)) ∧ vs.map Prod.fst = reserved)
    (mS : esS.toList.map keyStr = (words.map fun p => (p.1, Value.ref (adr18 f_run f_status f_var f_put f_option f_trap f_seq f_pipe f_andor f_not f_sub f_ife f_whl f_times f_jump f_call f_ret f_exit p.2))).map fun p => (some p.1, p.2))
    (next : TbA K w mg dR dS (adr18 f_run f_status f_var f_put f_option f_trap f_seq f_pipe f_andor f_not f_sub f_ife f_whl f_times f_jump f_call f_ret f_exit) → R) : R := by
  refine next ⟨PySem.W.mg_of X G aR, PySem.W.mg_of X G aS, ⟨_, _, lR, kR, oR⟩, ⟨_, _, lS, kS, oS⟩, fun z => ?_, fun z => ?_⟩
  · obtain ⟨vs, e, f⟩ := mR
    exact ⟨_, ns_of lR e z, by rw [lookup_has, f]⟩
  · rw [ns_of lS mS z, lookup_mapG (fun k => Value.ref (adr18 f_run f_status f_var f_put f_option f_trap f_seq f_pipe f_andor f_not f_sub f_ife f_whl f_times f_jump f_call f_ret f_exit k))]
    rfl
theorem nsin_none {K : PySem.W.Frag} {h : Heap} {mg : Str → Option Value} {R : Prop} (x : Str) (X : K.In h) (G : h.Ns mainGlobals mg) (z : PySem.W.nsIn K mainGlobals x = some none) (next : mg x = none → R) : R := next (PySem.W.mg_none_of X G z)
theorem nsin_int {K : PySem.W.Frag} {h : Heap} {mg : Str → Option Value} {R : Prop} {t : Tok} (x : Str) (i : Int) (X : K.In h) (G : h.Ns mainGlobals mg) (z : PySem.W.nsIn K mainGlobals x = some (some (.int i t))) (next : (∃ t, mg x = some (.int i t)) → R) : R := next ⟨_, PySem.W.mg_of X G z⟩
theorem te_of {P : Program} {K : PySem.W.Frag} {mg : Str → Option Value} {x f : Str} {IP fI : Addr} (E : ErrC P K mg x f IP fI) (tyC : PySem.W.typeIn K (.ref IP) = some (.type "type")) (sC : PySem.W.subIn K (.ref IP) (.ref IP) = some true) : ErrR P K mg x f IP fI := by
  refine ⟨E, tyC, ?_⟩
  simp [PySem.W.exmOne, PySem.W.kitCls, E.exC, E.isC, tyC, sC]
section
variable {P : Program} {w : World} {K : PySem.W.Frag} {mg : Str → Option Value} {C : Cs} {CP CK IP IR fI fR fN dL dP dB dR dS dK dT : Addr} {adrR : RK → Addr} {adrS : SK → Addr} {adrB : BK → Addr} {adr : Ck.Kind → Addr}
end
end Wk

/-! Sets of texts: made of a list, sorted. -/
namespace TXS
open PySem PySem.Spec PyProof.Rows L2
abbrev SetD := Array (Int × Value)
def txt (e : Int × Value) : Str := match e.2 with
  | .str k _ => k
  | _ => Str.empty
section
variable {P : Program} {w : World} {A : Around} {E : Value → Shared → Prop} {s : Shared} {a : Addr}
def IsT (P : Program) (w : World) (e : Int × Value) : Prop := ∃ k tk, e.2 = Value.str k tk ∧ e.1 = (PySem.strKind P w).hash k
/-- a set of texts in full: its entries, its table -/
structure Full (P : Program) (w : World) (h : Heap) (a : Addr) (ms : Str → Bool) (o : Obj) (es : SetD) (ep : Nat) (t : SetTable) : Prop where
  here : h.get? a = some o
  exact : o.ExactSet
  data : o.data = .set es ep t
  good : ∀ e ∈ es.toList, IsT P w e
  apart : (es.toList.map txt).Nodup
  mem : ∀ k, ms k = true ↔ k ∈ es.toList.map txt
  few : es.size < scanBound
  fits : t.fits es.size = true
  ris : Ris t.place.toList
  led : w.params.followText "set-order" = true ∨ t.led = true
def SetT (P : Program) (w : World) (h : Heap) (a : Addr) (ms : Str → Bool) (n : Nat) : Prop := ∃ o es ep t, Full P w h a ms o es ep t ∧ es.size = n
theorem elems {l : List (Int × Value)} (g : ∀ e ∈ l, IsT P w e) : ElemsOf (PySem.strKind P w) l := by
  intro e he
  obtain ⟨k, tk, h1, h2⟩ := g e he
  refine ⟨⟨k, ?_, h2⟩, ?_⟩
  · rw [h1]
    exact strKind_is P w k tk
  · rw [h1]
    rfl
theorem is_iff {e : Int × Value} (g : IsT P w e) (k : Str) : (PySem.strKind P w).is k e.2 = true ↔ txt e = k := by
  obtain ⟨k0, tk, h1, _⟩ := g
  unfold txt
  rw [h1]
  constructor
  · intro z
    have y : Value.isStrOf k (.str k0 tk) = true := z
    obtain ⟨t, e⟩ := Value.isStrOf_shape y
    injection e with e1 e2
  · intro z
    have y : k0 = k := z
    rw [y]
    exact strKind_is P w k tk
theorem mem_iff {l : List (Int × Value)} (g : ∀ e ∈ l, IsT P w e) (k : Str) : k ∈ l.map txt ↔ ∃ e ∈ l, (PySem.strKind P w).is k e.2 = true := by
  constructor
  · intro m
    obtain ⟨e, he, q⟩ := List.mem_map.mp m
    exact ⟨e, he, (is_iff (g e he) k).mpr q⟩
  · intro ⟨e, he, q⟩
    exact List.mem_map.mpr ⟨e, he, (is_iff (g e he) k).mp q⟩
theorem put_at {h : Heap} {o : Obj} {es es' : SetD} {ep : Nat} {t t' : SetTable} (ho : h.get? a = some o) (hd : o.data = .set es ep t) : (h.update a (Obj.putSet es' t')).get? a = some { o with data := .set es' (ep + 1) t' } := by
  have q := Heap.get?_update_self (Obj.putSet es' t') ho (by rw [putSet_of es' t' hd]; rfl)
  rwa [putSet_of es' t' hd] at q
/-- what is done behind a new entry -/
theorem tail {g : Bool → Sem Unit} (hg : ∀ (b : Bool) (s₁ : Shared) (Q' : Unit → Shared → Prop), Q' () s₁ → wpAny (model P w) A (g b) Q' E s₁) {ms : Str → Bool} {o : Obj} {es es1 : SetD} {ep : Nat} {t t2 : SetTable} (ho : s.heap.get? a = some o) (hex : o.ExactSet) (hd : o.data = .set es ep t)
    (g1 : ∀ e ∈ es1.toList, IsT P w e) (nd1 : (es1.toList.map txt).Nodup) (m1 : ∀ k, ms k = true ↔ k ∈ es1.toList.map txt) (b1 : es1.size < scanBound) (f2 : t2.fits es1.size = true) (r2 : Ris t2.place.toList) (l2 : w.params.followText "set-order" = true ∨ t2.led = true) {old : Bool} {R : Option Bool → Shared → Prop}
    (fin : ∀ h', Heap.SameBut a s.heap h' → SetT P w h' a ms es1.size → R (some true) { s with heap := h' }) :
    wpAny (model P w) A (do
      storeSet a es1 t2
      if (!old && t2.tooFull) = true then do
          g (relayAll t2 es1 (SetTable.grown es1.size)).2.2
          storeSet a (relayAll t2 es1 (SetTable.grown es1.size)).1 (relayAll t2 es1 (SetTable.grown es1.size)).2.1
          pure (some true)
        else pure (some true)) R E s := by
  have at1 := put_at (es' := es1) (t' := t2) ho hd
  have same1 := Heap.SameBut.update s.heap a (Obj.putSet es1 t2)
  refine wpAny_bind (wpAny_storeSet_of ho hd ?_ (fits_of_scanBound b1))
  split
  · have perm := relayAll_perm t2 es1 (SetTable.grown es1.size)
    have f3 := relayAll_fits t2 es1 (SetTable.grown es1.size)
    have r3 := relayAll_ris t2 es1 (SetTable.grown es1.size)
    have l3 := relayAll_led t2 es1 (SetTable.grown es1.size)
    generalize relayAll t2 es1 (SetTable.grown es1.size) = Z at perm f3 r3 l3 ⊢
    obtain ⟨es2, t3, gave⟩ := Z
    dsimp only at perm f3 r3 l3 ⊢
    have size2 : es2.size = es1.size := by rw [← Array.length_toList, perm.length_eq, Array.length_toList]
    have b2 : es2.size < scanBound := size2.symm ▸ b1
    refine wpAny_bind (hg _ _ _ (wpAny_bind (wpAny_storeSet_of at1 rfl ?_ (fits_of_scanBound b2))))
    have at2 := put_at (es' := es2) (t' := t3) at1 rfl
    refine wpAny_pure (fin _ (same1.trans (Heap.SameBut.update _ a _)) ⟨_, es2, _, t3, { here := at2, exact := hex, data := rfl, good := fun e m => g1 e (perm.mem_iff.mp m), apart := (perm.map txt).nodup_iff.mpr nd1, mem := fun k => (m1 k).trans (perm.map txt).mem_iff.symm, few := b2, fits := f3, ris := r3, led := l2.imp id fun y => l3 ▸ y }, size2⟩)
  · exact wpAny_pure (fin _ same1 ⟨_, es1, _, t2, { here := at1, exact := hex, data := rfl, good := g1, apart := nd1, mem := m1, few := b1, fits := f2, ris := r2, led := l2 }, rfl⟩)
theorem add_one {ms : Str → Bool} {n : Nat} {k : Str} {tk : Tok} {Q : Bool → Shared → Prop} (T : SetT P w s.heap a ms n) (room : n + 1 < scanBound)
    (fin : ∀ h', Heap.SameBut a s.heap h' → SetT P w h' a (fun j => ms j || decide (j = k)) (if ms k = true then n else n + 1) → Q (!ms k) { s with heap := h' }) :
    wpAny (model P w) A (setAddHashed a (.str k tk) ((PySem.strKind P w).hash k)) Q E s := by
  obtain ⟨o, es, ep, t, ⟨ho, hex, hd, g, nd, hm, hb, hf, hr, hl⟩, hn⟩ := T
  have here : (PySem.strKind P w).is k (.str k tk) = true := strKind_is P w k tk
  have scan : (Value.str k tk).scannable = true := rfl
  have el : ElemsOf (PySem.strKind P w) es.toList := elems g
  unfold setAddHashed setAddHashedIn
  refine wpAny_holding (wpAny_bind (wpAny_setState_of ho hd hf ?_))
  dsimp only
  rw [byScan_of scan hb el]
  simp only [↓reduceIte]
  unfold setAddByScan
  refine wpAny_bind (wpAny_bind (wpAny_rule (wpAny_bind (wpAny_setScan_of here ho hd hf el ?_))))
  cases found : List.findIdx? (fun e => (PySem.strKind P w).is k e.2) es.toList with
  | some j =>
    obtain ⟨hj, pj, _⟩ := List.findIdx?_eq_some_iff_getElem.mp found
    have in1 : ms k = true := (hm k).mpr ((mem_iff (P := P) (w := w) g k).mpr ⟨_, List.getElem_mem hj, pj⟩)
    have q := fin s.heap (Heap.SameBut.refl a s.heap) ⟨o, es, ep, t, ⟨ho, hex, hd, g, nd, fun i => by
      rw [← hm i, Bool.or_eq_true, decide_eq_true_eq]
      exact ⟨fun y => y.elim id fun e => by rw [e]; exact in1, .inl⟩, hb, hf, hr, hl⟩, by rw [if_pos in1]; exact hn⟩
    rw [in1] at q
    exact wpAny_pure (wpAny_pure q)
  | none =>
    have out1 : k ∉ es.toList.map txt := fun y => by
      obtain ⟨e, he, q⟩ := (mem_iff (P := P) (w := w) g k).mp y
      have c := List.findIdx?_eq_none_iff.mp found e he
      rw [q] at c
      cases c
    have in0 : ms k = false := by
      cases q : ms k with
      | false => rfl
      | true => exact absurd ((hm k).mp q) out1
    have perm := layNew_perm t es ((PySem.strKind P w).hash k) (.str k tk)
    have f1 := layNew_fits t es ((PySem.strKind P w).hash k) (.str k tk)
    have r1 := layNew_ris t es ((PySem.strKind P w).hash k) (.str k tk) hr
    have l1 := layNew_led t es ((PySem.strKind P w).hash k) (.str k tk)
    dsimp only
    generalize layNew t es ((PySem.strKind P w).hash k) (.str k tk) = Z at perm f1 r1 l1 ⊢
    obtain ⟨es1, t1, old, gave⟩ := Z
    dsimp only at perm f1 r1 l1 ⊢
    rw [Array.toList_push] at perm
    have pc : es1.toList.Perm (((PySem.strKind P w).hash k, Value.str k tk) :: es.toList) := perm.trans (List.perm_append_singleton _ _)
    have pk : (es1.toList.map txt).Perm (k :: es.toList.map txt) := pc.map txt
    have size1 : es1.size = n + 1 := by rw [← Array.length_toList, pc.length_eq, List.length_cons, Array.length_toList, hn]
    have g1 : ∀ e ∈ es1.toList, IsT P w e := fun e he => by
      rcases List.mem_cons.mp (pc.mem_iff.mp he) with y | y
      · exact y ▸ ⟨k, tk, rfl, rfl⟩
      · exact g e y
    have nd1 := pk.nodup_iff.mpr (List.nodup_cons.mpr ⟨out1, nd⟩)
    have m1 : ∀ i, (ms i || decide (i = k)) = true ↔ i ∈ es1.toList.map txt := fun i => by
      rw [pk.mem_iff, List.mem_cons, ← hm i, Bool.or_eq_true, decide_eq_true_eq]
      exact Or.comm
    have led1 : w.params.followText "set-order" = true ∨ t1.led = true := hl.imp id fun y => l1.symm ▸ y
    have done : ∀ h', Heap.SameBut a s.heap h' → SetT P w h' a (fun j => ms j || decide (j = k)) es1.size → Q true { s with heap := h' } := fun h' sb r => by
      have q := fin h' sb
      rw [in0, if_neg Bool.false_ne_true, ← size1] at q
      exact q r
    have quiet : ∀ (b : Bool) {s₁ : Shared} {Q' : Unit → Shared → Prop}, Q' () s₁ → wpAny (model P w) A (match b with | true => rule "set.scan.the-table-gave-way" | false => pure ()) Q' E s₁ := by
      intro b s₁ Q' q
      cases b
      · exact wpAny_pure q
      · exact wpAny_rule q
    refine wpAny_bind (quiet _ ?_)
    split
    · refine wpAny_bind ?_
      rw [hashByValue_scannable 8 scan]
      refine wpAny_pure (tail (fun b s₁ Q' q => by cases b <;> first | exact wpAny_pure q | exact wpAny_rule q) ho hex hd g1 nd1 m1 (by omega) ?_ ?_ ?_ fun h' sb r => by dsimp only; exact wpAny_pure (done h' sb r))
      · first | (split <;> first | exact f1 | exact SetTable.fits_plain_off f1) | exact f1
      · first | (split <;> exact r1) | exact r1
      · first | (split <;> exact led1) | exact led1
    · refine wpAny_bind (wpAny_pure ?_)
      simp only [↓reduceIte]
      exact tail (fun b s₁ Q' q => by cases b <;> first | exact wpAny_pure q | exact wpAny_rule q) ho hex hd g1 nd1 m1 (by omega) f1 r1 led1 fun h' sb r => by dsimp only; exact wpAny_pure (done h' sb r)
end
end TXS

namespace TXS
open PySem PySem.Spec PyProof.Rows L2
def among (xs : List Str) (k : Str) : Bool := xs.any (· == k)
section
variable {prog : Program} {w : World} {A : Around} {R : Result → Shared → Prop} {I : Addr} {fp wr : List Addr} {Gr : Array GenState → Array GenState → Prop} {n : Nat} {Pv : Nat → Value → Prop} {St : Nat → Shared → Prop}
theorem SetT.at {h h' : Heap} {a : Addr} {ms : Str → Bool} {k : Nat} (T : SetT prog w h a ms k) (keep : ∀ o, h.get? a = some o → h'.get? a = some o) : SetT prog w h' a ms k := by
  obtain ⟨o, es, ep, t, F, e⟩ := T
  exact ⟨o, es, ep, t, { F with here := keep o F.here }, e⟩
theorem SetT.same {h : Heap} {a : Addr} {ms ms' : Str → Bool} {k : Nat} (T : SetT prog w h a ms k) (e : ∀ x, ms' x = ms x) : SetT prog w h a ms' k := (funext e : ms' = ms) ▸ T
/-- all of the list goes into the set -/
theorem loop (Wk : WalksS prog w A.in1 I fp wr Gr n Pv St) (S : Addr) (free : S ∉ fp) (xs : List Str) (len : xs.length = n) (low : n ≤ 4000) (vals : ∀ i v, Pv i v → ∃ t, v = .str (xs.getD i Str.empty) t) :
    ∀ (k i c : Nat) (s : Shared), n - i = k → i ≤ n → c ≤ i → St i s → SetT prog w s.heap S (among (xs.take i)) c →
      (∀ s' c', Moved (S :: wr) Gr s s' → SetT prog w s'.heap S (among xs) c' → R (.ok (.ret .none)) s') →
      codeAny (model prog w) A (.builtin "set.update.loop" ⟨[.ref S, .ref I], []⟩) R s
  | 0, i, c, s, hk, hi, hc, st, T, fin => by
    obtain rfl : i = n := by omega
    have apart : S ∉ wr := fun m => free (Wk.sub _ m)
    refine codeAny_builtin PyProof.Rows.F.entry_set_update_loop ?_
    rw [Around.under_plainId PyProof.Rows.F.plain_set_update_loop _]
    show wpAny _ A.in1 (pyNext (.ref I) >>= _) _ _ s
    refine wpAny_bind (Wk.done s _ _ st fun s' mv => ?_)
    show wpAny _ A.in1 (ret Value.none) _ _ s'
    refine wpAny_pure (fin s' c ⟨fun b o hb e => mv.heap b o (fun z => hb (List.mem_cons_of_mem _ z)) e, mv.gens, mv.drawn, mv.os, mv.toks⟩ ?_)
    have z := T.at fun o e => mv.heap S o apart e
    rwa [← len, List.take_length] at z
  | k + 1, i, c, s, hk, hi, hc, st, T, fin => by
    have lt : i < n := by omega
    have apart : S ∉ wr := fun m => free (Wk.sub _ m)
    refine codeAny_builtin PyProof.Rows.F.entry_set_update_loop ?_
    rw [Around.under_plainId PyProof.Rows.F.plain_set_update_loop _]
    show wpAny _ A.in1 (pyNext (.ref I) >>= _) _ _ s
    refine wpAny_bind (Wk.item i s _ _ lt st fun v s' pv st2 mv => ?_)
    obtain ⟨t, rfl⟩ := vals i v pv
    have T2 := T.at fun o e => mv.heap S o apart e
    show wpAny _ A.in1 (holding [Value.str (xs.getD i Str.empty) t] (setAdd S (.str (xs.getD i Str.empty) t)) >>= _) _ _ s'
    unfold setAdd
    refine wpAny_bind (wpAny_holding (wpAny_holding (wpAny_bind ((PySem.strKind prog w).pyHash (k := xs.getD i Str.empty) (strKind_is _ _ _ _) ?_))))
    refine add_one (s := { s' with toks := s'.toks + 1 }) T2 (by unfold scanBound; omega) fun h' sb T3 => ?_
    have get : xs[i]? = some (xs.getD i Str.empty) := by
      rw [List.getD_eq_getElem?_getD]
      rw [List.getElem?_eq_getElem (by omega)]
      rfl
    have T4 : SetT prog w h' S (among (xs.take (i + 1))) (if among (xs.take i) (xs.getD i Str.empty) = true then c else c + 1) := T3.same fun x => by
      rw [List.take_add_one, get]
      unfold among
      rw [List.any_append]
      congr 1
      show (xs.getD i Str.empty == x || false) = decide (x = xs.getD i Str.empty)
      rw [Bool.or_false]
      by_cases e : x = xs.getD i Str.empty
      · rw [e]
        simp
      · rw [decide_eq_false e]
        exact beq_eq_false_iff_ne.mpr (Ne.symm e)
    have c4 : (if among (xs.take i) (xs.getD i Str.empty) = true then c else c + 1) ≤ i + 1 := by split <;> omega
    refine wpAny_pure ⟨plainId_quiet PyProof.Rows.F.plain_set_update_loop _, loop Wk S free xs len low vals k (i + 1) _ _ (by omega) lt c4 (Wk.frame _ s' _ _ st2 (Nat.le_succ _) fun b hb o e => ?_) T4 fun s2 c2 mv2 T5 => fin s2 c2 (Moved.trans Wk.gtrans ?_ mv2) T5⟩
    · exact (sb.2 b fun z : b = S => free (z ▸ hb)).trans e
    · exact ⟨fun b o hb e => (sb.2 b fun z : b = S => hb (z ▸ List.mem_cons_self)).trans (mv.heap b o (fun z => hb (List.mem_cons_of_mem _ z)) e), mv.gens, mv.drawn, mv.os, Nat.le_succ_of_le mv.toks⟩
end
section
variable {prog : Program} {w : World} {A : Around} {E : Value → Shared → Prop} {s : Shared}
/-- an empty set, as set(..) makes it -/
def bare (w : World) : Obj := { cls := .type "set", dict := none, data := .set #[] 0 (.fresh 0 0 (!w.params.followText "set-order")) }
end
end TXS

set_option maxHeartbeats 8000000
namespace TXS
open PySem PySem.Spec PyProof.Rows L2
section
variable {prog : Program} {w : World} {A : Around} {E : Value → Shared → Prop} {s : Shared}
end
end TXS

set_option maxHeartbeats 8000000
namespace TXS
open PySem PySem.Spec PyProof.Rows L2
section
variable {P : Program} {w : World} {A : Around} {E : Value → Shared → Prop} {s : Shared} {a : Addr}
end
end TXS

/-! Two sorted lists of the same texts are one. -/
namespace Ck
open PySem PySem.Spec PyProof.Rows L2
end Ck

/-! Plans. -/
namespace Wk
open PySem PySem.Spec PyProof.Rows L2 Ck
local macro_rules | `(tactic| bv_omega) => `(tactic| try dsimp only [L2.tRet, L2.tRetN, tAndV, tOrV, tNotV, tCB, L2.tCons, L2.tNil, tC, tVar, L2.tOp, L2.tUn, tSeq, tAsg, gName, tIfS, tTest, tNext, tAnd, tOr, tNot, L2.tIf, tFld, sFld, sFldAug, tCall, tTup, tB, tAug, tDrop, L2.tSl, tPart, tNoPart, tBM, tBM0, tChain, gTup, gCons, gNil, tPar, tIs, List.set, L2.start, iTup, L2.iList, L2.iRng1, tUn, tLst, tTest, gSub, tCall, L2.tIf, tCB, rRep, List.set, List.cons_append, List.nil_append, List.append_nil, cxOf, sFldC, sFldAugC, tMeth, tMakeC, sDPut, tDGet, L2.tNotN])
def bdsOf : Rows → Nat → List (Str × Nd)
  | [], _ => []
  | r :: rs, k => (r.1, ⟨r.2, [(k : Int)]⟩) :: bdsOf rs (k + 1)
theorem bds_get : ∀ {rows : Rows} {k i : Nat}, (bdsOf rows k)[i]? = (rows[i]?).map fun r => (r.1, ⟨r.2, [((k + i : Nat) : Int)]⟩)
  | [], k, i => by cases i <;> rfl
  | r :: rs, k, 0 => rfl
  | r :: rs, k, i + 1 => by
    show (bdsOf rs (k + 1))[i]? = (rs[i]?).map _
    rw [bds_get, show k + 1 + i = k + (i + 1) by omega]
theorem bds_len : ∀ {rows : Rows} {k : Nat}, (bdsOf rows k).length = rows.length
  | [], _ => rfl
  | r :: rs, k => by
    show (bdsOf rs (k + 1)).length + 1 = rs.length + 1
    rw [bds_len]
theorem bds_names : ∀ {rows : Rows} {k : Nat}, (bdsOf rows k).map (·.1) = rows.map (·.1)
  | [], _ => rfl
  | r :: rs, k => by
    show r.1 :: (bdsOf rs (k + 1)).map (·.1) = r.1 :: rs.map (·.1)
    rw [bds_names]
theorem tab_keys : ∀ ns : List Str, (tab ns).map (·.1) = ns.map Sum.inr
  | [] => rfl
  | n :: ns => by
    show Sum.inr n :: (tab ns).map (·.1) = _
    rw [tab_keys ns]
    rfl
structure PrOk (rows : Rows) (m : Tr) : Prop where
  nd : (rows.map (·.1)).Nodup
  few : rows.length ≤ 20
  rs : ∀ r ∈ rows, (∃ known, Any known r.2) ∧ ht r.2 ≤ 58
  mn : ∃ known, Any known m
  hm : ht m ≤ 58
section
variable {P : Program} {w : World} {K : PySem.W.Frag} {mg : Str → Option Value} {base : Heap} {C : Cs} {CP CK IP fI : Addr}
/-- the data and what was not tagged -/
def restG (τ : TM) (H : Hp) : Hp := fun q => if (τ q).isSome then none else H q
theorem Nds.rest {G H : Hp} {N : NM} {τ : TM} (s : Nds K C G N τ H) : Nds K C (restG τ H) N τ H := by
  refine ⟨⟨fun a o z => ?_, fun q t g => ⟨?_, (s.bs.fr q t g).2⟩⟩, s.nd⟩
  · unfold restG at z
    split at z
    · cases z
    · exact z
  · unfold restG
    rw [g]
    rfl
theorem restG_of {τ : TM} {H : Hp} {q : Addr} (n : τ q = none) : restG τ H q = H q := by
  unfold restG
  rw [n]
  rfl
theorem Nds.side {G H : Hp} {N : NM} {τ : TM} {p : Addr} {o : HO} (s : Nds K C G N τ H) (tp : τ p = none) (gp : G p = none) (st : Stay H (L2.upd H p o)) : Nds K C G N τ (L2.upd H p o) := by
  have ne : ∀ q t, τ q = some t → q ≠ p := fun q t g e => by rw [e, tp] at g; cases g
  exact ⟨⟨Ck.Same.up s.bs.sm gp, fun q t g => ⟨(s.bs.fr q t g).1, by rw [L2.upd_ne (ne q t g)]; exact (s.bs.fr q t g).2⟩⟩, fun a y l z => (s.nd a y l z).up NLe.rfl TLe.rfl st fun q t g _ => L2.upd_ne (ne q t g)⟩
/-- a whole program's data in the heap; the tuple of its functions may be one whose object is known -/
def PDat (K : PySem.W.Frag) (H : Hp) (v : V) (t : T) : Prop := Dat K H v t ∨ ∃ (a b : Addr) (o : Obj) (mv : V) (xs : List V) (fs : List T) (m : T), v = .ref a ∧ t = .tup [.tup fs, m] ∧ H a = some (.tup [.ref b, mv]) ∧ H b = some (.frz o (.tup xs)) ∧ Dats K H xs fs ∧ Dat K H mv m
instance {K : PySem.W.Frag} {H : Hp} {v : V} {t : T} : Coe (Dat K H v t) (PDat K H v t) := ⟨Or.inl⟩
theorem PDat.im {K : PySem.W.Frag} {H : Hp} {v : V} {t : T} (h : PDat K H v t) : PIm K H v t := by
  rcases h with h | ⟨a, b, o, mv, xs, fs, m, e1, e2, ha, hb, d1, d2⟩
  · exact .inl h.im
  · exact .inr ⟨a, b, o, mv, xs, fs, m, e1, e2, ha, hb, d1.im, d2.im⟩
theorem PDat.same {K : PySem.W.Frag} {H H1 : Hp} {v : V} {t : T} (s : Same H H1) (h : PDat K H v t) : PDat K H1 v t := by
  rcases h with h | ⟨a, b, o, mv, xs, fs, m, e1, e2, ha, hb, d1, d2⟩
  · exact .inl (h.up (same_stay s))
  · exact .inr ⟨a, b, o, mv, xs, fs, m, e1, e2, s _ _ ha, s _ _ hb, d1.up (same_stay s), d2.up (same_stay s)⟩
theorem PDat.two {K : PySem.W.Frag} {H : Hp} {v : V} {fs : List T} {m : T} (h : PDat K H v (.tup [.tup fs, m])) : ∃ pa fa xs mv, v = .ref pa ∧ H pa = some (.tup [.ref fa, mv]) ∧ Rd H fa (.tup xs) ∧ Dats K H xs fs ∧ Dat K H mv m := by
  rcases h with d | ⟨a, b, o, mv, xs, fs2, m2, e1, e2, ha, hb, d1, d2⟩
  · obtain ⟨pa, xs, rfl, hpa, ds⟩ := dat_tup d
    obtain ⟨fv, us, rfl, df, ds⟩ := dats_cons ds
    obtain ⟨mv, us, rfl, dm, ds⟩ := dats_cons ds
    cases dats_nil ds
    obtain ⟨fa, fs, rfl, hfa, dfs⟩ := dat_tup df
    exact ⟨pa, fa, fs, mv, rfl, hpa, .inl hfa, dfs, dm⟩
  · cases e2
    exact ⟨a, b, xs, mv, e1, ha, .inr ⟨o, hb⟩, d1, d2⟩
abbrev s_Plan___init__ : Stmt := inClass (topS 51) 0
theorem sc_Plan___init__ : FnScope ["self", "program", "check", "functions", "main", "entry"] ["self", "program", "check"] (defScope s_Plan___init__) := ⟨rfl, rfl, rfl, by decide +kernel, rfl, by decide +kernel, by decide +kernel⟩
def spPlan (K : PySem.W.Frag) (C : Cs) (CP CK : Addr) : Sp := fun vs H Q _ => ∃ a dx pv F S rows m, vs = [.ref a, pv, .ref (Foot.c F)] ∧ H a = some (.ins CP dx []) ∧ PDat K H pv (encP rows m) ∧ At CK H F S ∧ PrOk rows m ∧ S.vars.Nodup ∧ S.vars.length ≤ 40 ∧
  ∀ H' G N τ ys, (∀ b o, b ≠ a → H b = some o → G b = some o) → PlAt K C (bdsOf rows 0) CP G N τ a ⟨m, [-1]⟩ ys H' → ys.Perm S.vars → sortedS ys = true → Q .non H'
theorem ok_plan {f : Addr} {fd : FuncData} (F : Fun K "__init__" "Plan.__init__" s_Plan___init__ f fd) (Z : Wc K C) (ZP : Pc K CP) (ZC : Mc P K mg CK IP fI) (ml : mg "len" = none) (so : mg "sorted" = none) (GC_Node : GoC P w K mg base CX0 2 C.N "Node" ["self", "tree", "path"] (spNode K C)) : (FnOk P w K mg base CX0 4 f fd ["self", "program", "check"] (spPlan K C CP CK)) := by
  refine F.ok sc_Plan___init__ (fun vs H Q E h => ?_) (fun cdv A0 outer s H vs Q E hr h => ?_)
  · obtain ⟨_, _, _, _, _, _, _, rfl, _⟩ := h
    rfl
  obtain ⟨a, dx, prv, F, S, rows, m, rfl, ha, d, atc, ok, ndv, lv, q⟩ := h
  have hu := hu_of hr
  refine ⟨_, (pss_cons (ps_asg (pv 1) (pg_tup (by rfl) (L2.pgs_cons (pg_name (i := 3) sc_Plan___init__.nd rfl (.inl rfl)) (L2.pgs_cons (pg_name (i := 4) sc_Plan___init__.nd rfl (.inl rfl)) L2.pgs_nil)))) (pss_cons (ps_fldC (pv 0) (pv 2) rfl) (pss_cons (ps_fldC (pv 0) pe_dnewK rfl) (pss_cons (ps_for PassesOwn.never rfl (pi_tup (pv 3)) (pg_name (i := 5) sc_Plan___init__.nd rfl (.inl rfl)) (pss_one (ps_dput hu (pe_fld (pv 0) rfl) (pe_ix ix_tup (pv 5) pe_int fun _ _ => rfl) (pe_goCC GC_Node (hr.mono (by decide)) rfl pass0 (pa_cons (pe_ix ix_tup (pv 5) pe_int fun _ _ => rfl) (pa_cons (pe_tup (pa_cons (pe_callB call_lenD rfl ml PySem.boot_len (pa_cons (pe_fld (pv 0) rfl) pa_nil)) pa_nil)) pa_nil))) rfl))) (pss_cons (ps_fldC (pv 0) (pe_goCC GC_Node (hr.mono (by decide)) rfl pass0 (pa_cons (pv 4) (pa_cons (pe_tup (pa_cons (pe_un un_neg pe_int) pa_nil)) pa_nil))) rfl) (pss_one (ps_fldC (pv 0) (pe_callB (call_sortedD rfl) rfl so (by decide +kernel) (pa_cons (pe_fld (pv 2) rfl) pa_nil)) rfl))))))), ?_⟩
  bv_omega
  obtain ⟨pa, fa, fs, mv, rfl, hpa, hfa, dfs, dm⟩ := d.two
  refine ⟨_, rfl, pa, _, rfl, sqt hpa, rfl, _, _, rfl, _, _, rfl, rfl, ?_⟩
  refine ⟨_, rfl, _, rfl, _, _, _, _, rfl, ha, ZP.cl, ZP.no _ (by decide +kernel), (by show (0 : Nat) < 1000; decide), ?_⟩
  rintro H1 e1
  have t1 : ∀ b o, b ≠ a → H b = some o → H1 b = some o := fun b o n z => by rw [e1, upd_ne n]; exact z
  have a1 : H1 a = some (.ins CP dx [("check", .ref F.c)]) := by rw [e1, upd_same]; with_unfolding_all rfl
  have fr1 : ∀ {p : Addr}, H1 p = none → H p = none := fun {p} n => by
    cases e : H p with
    | none => rfl
    | some o => rw [t1 p o (Ne.symm (ne_of_none a1 n)) e] at n; cases n
  clear e1
  intro bd nbd
  have s2 := same_new (o := .dK []) nbd
  refine ⟨_, rfl, _, _, _, _, rfl, s2 _ _ a1, ZP.cl, ZP.no _ (by decide +kernel), (by show (1 : Nat) < 1000; decide), ?_⟩
  have bda : bd ≠ a := Ne.symm (ne_of_none a1 nbd)
  rintro H2 e2
  have t2 : ∀ b o, b ≠ a → H b = some o → H2 b = some o := fun b o n z => by rw [e2, upd_ne n]; exact s2 _ _ (t1 b o n z)
  have a2 : H2 a = some (.ins CP dx [("check", .ref F.c), ("bodies", .ref bd)]) := by rw [e2, upd_same]; with_unfolding_all rfl
  have b2 : H2 bd = some (.dK []) := by rw [e2, upd_ne bda, upd_same]
  clear e2
  have faa : fa ≠ a := by
    rcases hfa with h | ⟨_, h⟩
    · exact ne_of h ha (by intro z; cases z)
    · exact ne_of h ha (by intro z; cases z)
  have rdT : ∀ {G : Hp}, (∀ b o, b ≠ a → H b = some o → G b = some o) → SqT K G fa fs := fun t => .inl (hfa.imp (t _ _ faa) fun ⟨o, e⟩ => ⟨o, t _ _ faa e⟩)
  have g0 : (fun q => if q = a then none else H q : Hp) bd = none := by
    show (if bd = a then none else H bd) = none
    rw [if_neg bda]
    exact fr1 nbd
  have ns0 : Nds K C (fun q => if q = a then none else H q) (fun _ => none) (fun _ => none) H2 := ⟨⟨fun b o z => by
    split at z
    · cases z
    · rename_i n
      exact t2 b o n z, fun q t g => by cases g⟩, fun a x l e => by cases e⟩
  generalize hG0 : (fun q => if q = a then none else H q : Hp) = G0 at ns0 g0
  refine ⟨_, rfl, fa, rfl, ⟨_, rdT t2⟩, for_tup (K := K) (a := fa) (xs := fs) (fun i σ H3 => ∃ N τ kvs o, σ = [some (.ref a), some (.ref pa), some (.ref F.c), some (.ref fa), some mv, o] ∧ (∀ b ob, b ≠ a → H b = some ob → H3 b = some ob) ∧ H3 a = some (.ins CP dx [("check", .ref F.c), ("bodies", .ref bd)]) ∧ H3 bd = some (.dK kvs) ∧ BdAt N kvs ((bdsOf rows 0).take i) ∧ Nds K C G0 N τ H3 ∧ τ a = none ∧ τ bd = none) ?h0 ?hl ?hs ?hd⟩
  case h0 => exact ⟨_, _, [], none, rfl, t2, a2, b2, trivial, ns0, rfl, rfl⟩
  case hl =>
    rintro i σ H' _ ⟨N, τ, kvs, o, rfl, t3, _⟩
    exact rdT t3
  case hs =>
    rintro i x σ H3 hx ⟨N, τ, kvs, o, rfl, t3, a3, b3, bds, ns3, ta, tb⟩
    obtain ⟨te, ee, dx3⟩ := dats_at dfs hx
    rw [List.getElem?_map] at ee
    cases er : rows[i]? with
    | none => rw [er] at ee; cases ee
    | some r =>
    rw [er] at ee
    cases ee
    obtain ⟨⟨known, an⟩, hh⟩ := ok.rs r (List.mem_of_getElem? er)
    obtain ⟨ea, us, rfl, hea, de⟩ := dat_tup dx3
    obtain ⟨v0, us, rfl, d0, de⟩ := dats_cons de
    obtain ⟨v1, us, rfl, d1, de⟩ := dats_cons de
    cases dats_nil de
    cases dat_str d0
    have eaa : ea ≠ a := ne_of hea ha (by intro z; cases z)
    have st3 : Stay H H3 := fun b ys z => t3 b _ (ne_of z ha (by intro z; cases z)) z
    have hea3 := t3 _ _ eaa hea
    have li : i < rows.length := (List.getElem?_eq_some_iff.mp er).1
    have lk : kvs.length = i := by rw [bds.len, List.length_take, bds_len]; omega
    bv_omega
    refine ⟨_, rfl, ea, _, _, _, rfl, rfl, sqt hea3, atI_nat (j := 1) rfl, ?_⟩
    refine ⟨_, rfl, _, _, _, _, _, rfl, a3, ZP.cl, ZP.no _ (by decide +kernel), (by with_unfolding_all rfl), bd, _, rfl, b3, sl (by show 1 ≤ 1000000; decide), fun p1 n1 => ?_⟩
    have s1 := same_new (o := .tup [V.int (kvs.length : Int)]) n1
    have hp1 : upd H3 p1 (.tup [V.int (kvs.length : Int)]) p1 = some (.tup [V.int (kvs.length : Int)]) := upd_same
    have nsm := ns3.same (sm := s1)
    generalize upd H3 p1 (.tup [V.int (kvs.length : Int)]) = Hm at s1 hp1 nsm ⊢
    intro x1 dx1 nx1 ndx1 ne1 H4 e4
    have k4 : Same Hm H4 := by
      rw [e4]
      intro b o z
      rw [upd_ne (ne_of_none z nx1), upd_ne (ne_of_none z ndx1)]
      exact z
    have hx4 : H4 x1 = some (.ins C.N dx1 []) := by rw [e4, upd_same]
    have fr4 : ∀ {l'}, H4 l' = none → Hm l' = none := fun {l'} z => by
      cases e : Hm l' with
      | none => rfl
      | some o => rw [k4 _ _ e] at z; cases z
    clear e4
    have dv1 := (d1.up st3).up ((same_stay s1).trans (same_stay k4))
    refine ⟨x1, dx1, v1, p1, r.2, known, rfl, hx4, dv1, an, fun H5 qv5 xs5 l5 k5 n5 ne5 h5x h5q d5 h5l => ⟨rfl, ?_⟩⟩
    have kp5 : ∀ b o, Hm b = some o → H5 b = some o := fun b o z => k5 b o (ne_of_none z nx1) (k4 b o z)
    obtain ⟨m1, m2, m3, m4⟩ := nsm.more (nd := ⟨r.2, [((i : Nat) : Int)]⟩) (H' := H5) nx1 (fr4 n5) ne5 kp5 ⟨known, an⟩ (by show 1 + ht r.2 ≤ 1000; omega) h5x (dv1.up fun b ys z => k5 b _ (by rintro rfl; rw [hx4] at z; cases z) z) (by rw [← lk]; exact kp5 _ _ hp1) h5q d5 h5l
    have a5 := kp5 _ _ (s1 _ _ a3)
    have b5 := kp5 _ _ (s1 _ _ b3)
    have ax : a ≠ x1 := ne_of_none (s1 _ _ a3) nx1
    have bx : bd ≠ x1 := ne_of_none (s1 _ _ b3) nx1
    have al : a ≠ l5 := ne_of_none (k4 _ _ (s1 _ _ a3)) n5
    have bl : bd ≠ l5 := ne_of_none (k4 _ _ (s1 _ _ b3)) n5
    have ta5 : tset (tset τ x1 .nd) l5 (.nl x1) a = none := by unfold tset; rw [if_neg al, if_neg ax]; exact ta
    have tb5 : tset (tset τ x1 .nd) l5 (.nl x1) bd = none := by unfold tset; rw [if_neg bl, if_neg bx]; exact tb
    have hnew : NV (nput N x1 ⟨r.2, [((i : Nat) : Int)]⟩ l5) (.ref x1) ⟨r.2, [((i : Nat) : Int)]⟩ := ⟨x1, l5, rfl, by unfold nput; rw [if_pos rfl]⟩
    have fresh : r.1 ∉ ((bdsOf rows 0).take i).map (·.1) := by
      rw [List.map_take, bds_names]
      have d := List.Nodup.sublist (List.take_sublist (i + 1) (rows.map (·.1))) ok.nd
      rw [List.take_add_one, List.getElem?_map, er, List.nodup_append] at d
      intro hm
      exact d.2.2 r.1 hm r.1 (by simp) rfl
    have bds5 := (bds.up m1).put fresh hnew
    refine ⟨_, rfl, _, _, _, _, _, rfl, a5, ZP.cl, ZP.no _ (by decide +kernel), (by with_unfolding_all rfl), ?_⟩
    refine ⟨_, rfl, ea, _, _, _, rfl, rfl, sqt (kp5 _ _ (s1 _ _ hea3)), atI_nat (j := 0) rfl, ?_⟩
    refine ⟨bd, _, rfl, DPut.k (k := Sum.inr r.1) b5 (by rw [lk, sizeLine_eq]; have := ok.few; omega), ?_⟩
    refine ⟨_, _, putK kvs (.inr r.1) (.ref x1), _, rfl, fun b ob n z => ?_, ?_, upd_same, ?_, m3.side tb5 g0 (stay_dK b5), ta5, tb5⟩
    · by_cases c : b = bd
      · subst c
        rw [fr1 nbd] at z
        cases z
      · rw [upd_ne c]
        exact kp5 _ _ (s1 _ _ (t3 b ob n z))
    · rw [upd_ne (Ne.symm bda)]
      exact a5
    · rw [List.take_add_one, bds_get, er]
      show BdAt _ _ (_ ++ [(r.1, (⟨r.2, [((0 + i : Nat) : Int)]⟩ : Nd))])
      rw [Nat.zero_add]
      exact bds5
  case hd =>
    rintro σ H3 ⟨N, τ, kvs, o, rfl, t3, a3, b3, bds, ns3, ta, tb⟩
    have lf : fs.length = rows.length := by rw [dfs.len, List.length_map]
    rw [lf, ← bds_len (k := 0), List.take_length] at bds
    have ga : G0 a = none := by rw [← hG0]; exact if_pos rfl
    have gH : ∀ b o, b ≠ a → H b = some o → G0 b = some o := fun b o n z => by
      rw [← hG0]
      show (if b = a then none else H b) = _
      rw [if_neg n]
      exact z
    obtain ⟨known, an⟩ := ok.mn
    have hh := ok.hm
    have st3 : Stay H H3 := fun b ys z => t3 b _ (ne_of z ha (by intro z; cases z)) z
    have fca : F.c ≠ a := ne_of atc.c ha (by intro z; have := (HO.ins.inj z).2.2; exact absurd this (by unfold flds; simp))
    have fva : F.dv ≠ a := ne_of atc.dv ha (by intro z; cases z)
    refine ⟨_, rfl, 1, rfl, sl (by show 1 ≤ 1000000; decide), fun p1 n1 => ?_⟩
    have s1 := same_new (o := .tup [V.int (-1)]) n1
    have hp1 : upd H3 p1 (.tup [V.int (-1)]) p1 = some (.tup [V.int (-1)]) := upd_same
    have nsm := ns3.same (sm := s1)
    generalize upd H3 p1 (.tup [V.int (-1)]) = Hm at s1 hp1 nsm ⊢
    intro x1 dx1 nx1 ndx1 ne1 H4 e4
    have k4 : Same Hm H4 := by
      rw [e4]
      intro b o z
      rw [upd_ne (ne_of_none z nx1), upd_ne (ne_of_none z ndx1)]
      exact z
    have hx4 : H4 x1 = some (.ins C.N dx1 []) := by rw [e4, upd_same]
    have fr4 : ∀ {l'}, H4 l' = none → Hm l' = none := fun {l'} z => by
      cases e : Hm l' with
      | none => rfl
      | some o => rw [k4 _ _ e] at z; cases z
    clear e4
    have dv1 := (dm.up st3).up ((same_stay s1).trans (same_stay k4))
    refine ⟨x1, dx1, mv, p1, m, known, rfl, hx4, dv1, an, fun H5 qv5 xs5 l5 k5 n5 ne5 h5x h5q d5 h5l => ⟨rfl, ?_⟩⟩
    have kp5 : ∀ b o, Hm b = some o → H5 b = some o := fun b o z => k5 b o (ne_of_none z nx1) (k4 b o z)
    obtain ⟨m1, m2, m3, m4⟩ := nsm.more (nd := ⟨m, [-1]⟩) (H' := H5) nx1 (fr4 n5) ne5 kp5 ⟨known, an⟩ (by show 1 + ht m ≤ 1000; omega) h5x (dv1.up fun b ys z => k5 b _ (by rintro rfl; rw [hx4] at z; cases z) z) (kp5 _ _ hp1) h5q d5 h5l
    have a5 := kp5 _ _ (s1 _ _ a3)
    have b5 := kp5 _ _ (s1 _ _ b3)
    have ax : a ≠ x1 := ne_of_none (s1 _ _ a3) nx1
    have bx : bd ≠ x1 := ne_of_none (s1 _ _ b3) nx1
    have al : a ≠ l5 := ne_of_none (k4 _ _ (s1 _ _ a3)) n5
    have bl : bd ≠ l5 := ne_of_none (k4 _ _ (s1 _ _ b3)) n5
    have ta5 : tset (tset τ x1 .nd) l5 (.nl x1) a = none := by unfold tset; rw [if_neg al, if_neg ax]; exact ta
    have tb5 : tset (tset τ x1 .nd) l5 (.nl x1) bd = none := by unfold tset; rw [if_neg bl, if_neg bx]; exact tb
    have hnew : NV (nput N x1 ⟨m, [-1]⟩ l5) (.ref x1) ⟨m, [-1]⟩ := ⟨x1, l5, rfl, by unfold nput; rw [if_pos rfl]⟩
    have bds5 := bds.up m1
    generalize tset (tset τ x1 .nd) l5 (.nl x1) = τ5 at m2 m3 ta5 tb5
    generalize nput N x1 ⟨m, [-1]⟩ l5 = N5 at m1 m3 hnew bds5
    refine ⟨_, rfl, _, _, _, _, rfl, a5, ZP.cl, ZP.no _ (by decide +kernel), (by show (2 : Nat) < 1000; decide), ?_⟩
    rintro H6 e6
    have ns6 : Nds K C G0 N5 τ5 H6 := by rw [e6]; exact m3.side ta5 ga (stay_ins a5)
    have t6 : ∀ b o, b ≠ a → H3 b = some o → H6 b = some o := fun b o n z => by rw [e6, upd_ne n]; exact kp5 _ _ (s1 _ _ z)
    have a6 : H6 a = some (.ins CP dx [("check", .ref F.c), ("bodies", .ref bd), ("main", .ref x1)]) := by rw [e6, upd_same]; with_unfolding_all rfl
    have b6 := t6 _ _ bda b3
    clear e6
    refine ⟨_, rfl, F.c, CK, F.dx, _, _, rfl, t6 _ _ fca (t3 _ _ fca atc.c), ZC.cl, ZC.n3, get_vars, F.dv, _, S.vars, rfl, .of (t6 _ _ fva (t3 _ _ fva atc.dv)), tab_keys _, by omega, fun ys p pm st np => ?_⟩
    have s7 := same_new (o := .lst (ys.map V.str)) np
    have tp := (ns6.nfree np).2.1
    have ns7 := ns6.same (sm := s7)
    have pa7 : p ≠ a := Ne.symm (ne_of_none a6 np)
    refine ⟨_, rfl, _, _, _, _, rfl, s7 _ _ a6, ZP.cl, ZP.no _ (by decide +kernel), (by show (3 : Nat) < 1000; decide), ?_⟩
    rintro H8 e8
    have ns8 : Nds K C G0 N5 τ5 H8 := by rw [e8]; exact ns7.side ta5 ga (stay_ins (s7 _ _ a6))
    have a8 : H8 a = some (.ins CP dx (pfl (.ref F.c) bd (.ref x1) p)) := by rw [e8, upd_same]; with_unfolding_all rfl
    have b8 : H8 bd = some (.dK kvs) := by rw [e8, upd_ne bda]; exact s7 _ _ b6
    have p8 : H8 p = some (.lst (ys.map V.str)) := by rw [e8, upd_ne pa7, upd_same]
    clear e8
    refine q H8 (restG τ5 H8) N5 τ5 ys (fun b o n z => ?_) ⟨⟨dx, .ref F.c, bd, .ref x1, p, by rw [restG_of ta5]; exact a8, hnew, ⟨kvs, by rw [restG_of tb5]; exact b8, fun z nd e => bds5.look e, bds5⟩, by rw [restG_of tp]; exact p8⟩, pm.nodup_iff.mpr ndv, ?_, ns8.rest⟩ pm st
    · have g := gH b o n z
      have tb : τ5 b = none := by
        cases e : τ5 b with
        | none => rfl
        | some t =>
          have := (ns8.bs.fr b t e).1
          rw [g] at this
          cases this
      rw [restG_of tb]
      exact ns8.bs.sm _ _ g
    · rw [pm.length_eq]
      omega
end
end Wk

/-! The plan of a program. -/
namespace Wk
open PySem PySem.Spec PyProof.Rows L2 Ck
local macro_rules | `(tactic| bv_omega) => `(tactic| try dsimp only [L2.tRet, L2.tRetN, tAndV, tOrV, tNotV, tCB, L2.tCons, L2.tNil, tC, tVar, L2.tOp, L2.tUn, tSeq, tAsg, gName, tIfS, tTest, tNext, tAnd, tOr, tNot, L2.tIf, tFld, sFld, sFldAug, tCall, tTup, tB, tAug, tDrop, L2.tSl, tPart, tNoPart, tBM, tBM0, tChain, gTup, gCons, gNil, tPar, tIs, List.set, L2.start, iTup, L2.iList, L2.iRng1, tUn, tLst, tTest, gSub, tCall, L2.tIf, tCB, rRep, List.set, List.cons_append, List.nil_append, List.append_nil, cxOf, sFldC, sFldAugC, tMeth, tMakeC, sDPut, tDGet, L2.tNotN])
theorem passF {X : Cx} : Passes (L2.CX X.prog X.w) X (fun _ _ _ => False) := fun _ _ _ _ _ _ _ h => by
  obtain ⟨_, _, _, _, _, _, _, _, _, _, _, _, z⟩ := h
  exact z.elim
theorem look_not {z : Str} : ∀ {fs : List (Str × Int)}, fs.lookup z = none → z ∉ fs.map (·.1)
  | [], _ => by simp
  | p :: fs, h => by
    rw [List.lookup_cons] at h
    cases c : (z == p.1) with
    | true => rw [c] at h; cases h
    | false =>
      rw [c] at h
      rw [List.map_cons, List.mem_cons, not_or]
      exact ⟨by simpa using c, look_not h⟩
section
variable {D W : List Str} {N0 M0 : Int}
theorem rows_nd : ∀ {rows : Rows} {fs : List (Str × Int)}, RowsOk D W N0 M0 fs rows → (∀ r ∈ rows, r.1 ∉ fs.map (·.1)) ∧ (rows.map (·.1)).Nodup ∧ ∀ r ∈ rows, (∃ known, Any known r.2) ∧ ht r.2 ≤ 58
  | [], _, _ => ⟨fun r m => (by cases m), List.nodup_nil, fun r m => (by cases m)⟩
  | r :: rs, fs, ok => by
    obtain ⟨o1, o2, o3, o4, o5, o6⟩ := ok
    obtain ⟨a, b, c⟩ := rows_nd o6
    have n := look_not o2
    refine ⟨fun q m => ?_, ?_, fun q m => ?_⟩
    · rcases List.mem_cons.mp m with rfl | m
      · exact n
      · have := a q m
        rw [List.map_append, List.mem_append, not_or] at this
        exact this.1
    · rw [List.map_cons, List.nodup_cons]
      refine ⟨fun m => ?_, b⟩
      obtain ⟨q, mq, eq⟩ := List.mem_map.mp m
      have := a q mq
      rw [List.map_append, List.mem_append, not_or] at this
      exact this.2 (by rw [eq]; simp)
    · rcases List.mem_cons.mp m with rfl | m
      · exact ⟨⟨_, _, _, _, _, _, _, o3⟩, o5⟩
      · exact c q m
theorem prOk {rows : Rows} {m : Tr} (h : ProgOk D W N0 M0 rows m) : PrOk rows m := by
  obtain ⟨a, b, c⟩ := rows_nd h.rs
  exact ⟨b, h.few, c, ⟨_, _, _, _, _, _, _, h.mn⟩, h.dp⟩
end
section
variable {P : Program} {w : World} {K : PySem.W.Frag} {mg : Str → Option Value} {base : Heap} {C : Cs} {CP CK IP fI : Addr}
abbrev s_plan_of : Stmt := topS 52
theorem sc_plan_of : FnScope ["program"] ["program"] (defScope s_plan_of) := ⟨rfl, rfl, rfl, by decide +kernel, rfl, by decide +kernel, by decide +kernel⟩
def spPlanOf (K : PySem.W.Frag) (C : Cs) (CP : Addr) : Sp := fun vs H Q _ => ∃ v rows m, vs = [v] ∧ PDat K H v (encP rows m) ∧ (∃ D W N M, ProgOk D W N M rows m) ∧
  ∀ H' G N τ pa ys, Same H G → PlAt K C (bdsOf rows 0) CP G N τ pa ⟨m, [-1]⟩ ys H' → ys.Perm (adds [] (vrr rows ++ vrs m)) → sortedS ys = true → Q (.ref pa) H'
abbrev GCk (P : Program) (w : World) (K : PySem.W.Frag) (mg : Str → Option Value) (base : Heap) (C IP : Addr) : Prop := Go P w K mg base (L2.CX P w) 86 "checked" ["program"] (spChecked K C IP)
theorem ok_plan_of {f : Addr} {fd : FuncData} (F : Fun K "plan_of" "plan_of" s_plan_of f fd) (GC_Plan : GoC P w K mg base CX0 4 CP "Plan" ["self", "program", "check"] (spPlan K C CP CK)) (GC : GCk P w K mg base CK IP) : FnOk P w K mg base CX0 87 f fd ["program"] (spPlanOf K C CP) := by
  refine F.ok sc_plan_of (fun vs H Q E h => ?_) (fun cdv A0 outer s H vs Q E hr h => ?_)
  · obtain ⟨_, _, _, rfl, _⟩ := h
    rfl
  obtain ⟨v, rows, m, rfl, d, ⟨D, W, N0, M0, pr⟩, q⟩ := h
  refine ⟨_, pss_one (ps_ret (pe_goCC GC_Plan (hr.mono (by decide)) rfl pass0 (pa_cons (pv 0) (pa_cons (pe_go (E := fun _ _ _ => False) GC hr passF rfl (pa_cons (pv 0) pa_nil)) pa_nil)))), ?_⟩
  bv_omega
  obtain ⟨S, e1, _, _, e4, e5⟩ := check_ok pr
  have nm := RowsOk.names pr.rs
  have nm2 := pr.mn.names
  have nv : S.vars.Nodup := by rw [e5]; exact adds_nd List.nodup_nil
  have mv : ∀ z, z ∈ S.vars ↔ z ∈ vrr rows ++ vrs m := fun z => by
    rw [e5, mem_adds]
    exact ⟨fun h => h.elim (fun h => (by cases h)) id, .inr⟩
  have lv : S.vars.length ≤ 40 := Nat.le_trans (nd_len (W := W) nv fun z h => (List.mem_append.mp ((mv z).mp h)).elim (nm.2 z) (nm2.2 z)) pr.fv
  refine ⟨_, rfl, _, rfl, v, encP rows m, rfl, d.im, ?_⟩
  rw [e1]
  intro H1 F1 s1 at1
  intro a dx na ndx ne H2 h2
  have k2 : Same H1 H2 := fun b o z => by rw [h2, upd_ne (ne_of_none z na), upd_ne (ne_of_none z ndx)]; exact z
  have a2 : H2 a = some (.ins CP dx []) := by rw [h2, upd_same]
  clear h2
  have at2 : At CK H2 F1 S := ⟨k2 _ _ at1.c, k2 _ _ at1.dc, k2 _ _ at1.dv, k2 _ _ at1.df, k2 _ _ at1.dp, at1.cv, at1.cf, at1.vf⟩
  refine ⟨a, dx, v, F1, S, rows, m, rfl, a2, d.same (s1.trans k2), at2, prOk pr, nv, lv, fun H' G N τ ys sg pl pm st => ⟨rfl, ?_⟩⟩
  refine q H' G N τ a ys (fun b o z => sg b o (ne_of_none (s1 _ _ z) na) (k2 _ _ (s1 _ _ z))) pl ?_ st
  rw [← e5]
  exact pm
end
end Wk

/-! All nodes of a plan. -/
namespace L2
open PySem
local macro_rules | `(tactic| bv_omega) => `(tactic| try dsimp only [L2.tRet, L2.tRetN, tAndV, tOrV, tNotV, tCB, L2.tCons, L2.tNil, tC, tVar, L2.tOp, L2.tUn, tSeq, tAsg, gName, tIfS, tTest, tNext, tAnd, tOr, tNot, L2.tIf, tFld, sFld, sFldAug, tCall, tTup, tB, tAug, tDrop, L2.tSl, tPart, tNoPart, tBM, tBM0, tChain, gTup, gCons, gNil, tPar, tIs, List.set, L2.start, iTup, L2.iList, L2.iRng1, tUn, tLst, tTest, gSub, tCall, L2.tIf, tCB, rRep, List.set, List.cons_append, List.nil_append, List.append_nil, cxOf, sFldC, sFldAugC, tMeth, tMakeC, sDPut, tDGet, L2.tNotN])
theorem lcl_itc {lo c : Int} {n : Nat} {g : TG} {tt : TT} {te : TE} {vs : List Nat} {σ : St} {H1 : Hp} {Q : VK} (Pv : Addr → Nat → Hp → Prop) (h0 : ∀ D, H1 D = none → Pv D 0 (upd H1 D (.lst [])))
    (hs : ∀ D, H1 D = none → ∀ i H, i < n → Pv D i H → g (.int (lo + (i : Nat) * c)) (wipe σ vs) H fun σ2 H2 => wipe σ2 vs = wipe σ vs ∧ tt σ2 H2 fun b H3 => if b = true then te σ2 H3 fun y H4 => ∃ acc, H4 D = some (.lst acc) ∧ acc.length < sizeLine ∧ Pv D (i + 1) (upd H4 D (.lst (acc ++ [y]))) else Pv D (i + 1) H3)
    (hd : ∀ D, H1 D = none → ∀ H, Pv D n H → Q (.ref D) H) : tLcL g tt te vs σ Q (Itc lo c n) H1 := fun D nD => by
  refine ⟨fun i m H => m = n - i ∧ i ≤ n ∧ Pv D i H, ⟨n, by simp, Nat.zero_le _, h0 D nD⟩, ?_⟩
  rintro i m H ⟨rfl, hi, p⟩
  by_cases hlt : i < n
  · refine .inr ⟨hlt, Pv D (i + 1), fun H' p' => ⟨n - (i + 1), by omega, rfl, hlt, p'⟩, fun x H' y => ?_⟩
    obtain ⟨rfl, rfl⟩ := y
    exact hs D nD i _ hlt p
  · have e : i = n := by omega
    subst e
    exact .inl ⟨Nat.le_refl _, hd D nD H p⟩
end L2
namespace Wk
open PySem PySem.Spec PyProof.Rows L2 Ck
local macro_rules | `(tactic| bv_omega) => `(tactic| try dsimp only [L2.tRet, L2.tRetN, tAndV, tOrV, tNotV, tCB, L2.tCons, L2.tNil, tC, tVar, L2.tOp, L2.tUn, tSeq, tAsg, gName, tIfS, tTest, tNext, tAnd, tOr, tNot, L2.tIf, tFld, sFld, sFldAug, tCall, tTup, tB, tAug, tDrop, L2.tSl, tPart, tNoPart, tBM, tBM0, tChain, gTup, gCons, gNil, tPar, tIs, List.set, L2.start, iTup, L2.iList, L2.iRng1, tUn, tLst, tTest, gSub, tCall, L2.tIf, tCB, rRep, List.set, List.cons_append, List.nil_append, List.append_nil, cxOf, sFldC, sFldAugC, tMeth, tMakeC, sDPut, tDGet, L2.tNotN])
/-! ### the nodes of a tree, in reading order; those inside trees with one of the words ws left out -/
mutual
def nodesT (ws : List Str) : Tr → List Int → List Nd
  | .mk b w pre ks post, p => ⟨.mk b w pre ks post, p⟩ :: (if w ∈ ws then [] else nodesTs ws ks p 0)
def nodesTs (ws : List Str) : List Tr → List Int → Nat → List Nd
  | [], _, _ => []
  | k :: ks, p, i => nodesT ws k (p ++ [(i : Int)]) ++ nodesTs ws ks p (i + 1)
end
def nodesOf (ws : List Str) (nd : Nd) : List Nd := nodesT ws nd.t nd.p
def Nd.parts (nd : Nd) : List Nd := (List.range (kids nd.t).length).map nd.part
def Nd.inner (ws : List Str) (nd : Nd) : List Nd := if word nd.t ∈ ws then [] else nd.parts
theorem nodesTs_eq (ws : List Str) : ∀ (ks : List Tr) (p : List Int) (i : Nat), nodesTs ws ks p i = (ks.zipIdx i).flatMap fun k => nodesOf ws ⟨k.1, p ++ [(k.2 : Int)]⟩
  | [], _, _ => rfl
  | k :: ks, p, i => by
    show nodesT ws k (p ++ [(i : Int)]) ++ nodesTs ws ks p (i + 1) = _
    rw [nodesTs_eq ws ks p (i + 1)]
    rfl
theorem parts_eq (nd : Nd) : nd.parts = ((kids nd.t).zipIdx 0).map fun k => (⟨k.1, nd.p ++ [(k.2 : Int)]⟩ : Nd) := by
  unfold Nd.parts
  apply List.ext_getElem?
  intro i
  rw [List.getElem?_map, List.getElem?_map, List.getElem?_zipIdx]
  by_cases c : i < (kids nd.t).length
  · rw [List.getElem?_range c, List.getElem?_eq_getElem c]
    show some (nd.part i) = some _
    unfold Nd.part
    rw [List.getElem?_eq_getElem c, Nat.zero_add]
    rfl
  · rw [List.getElem?_eq_none (by rw [List.length_range]; omega), List.getElem?_eq_none (by omega)]
    rfl
theorem nodes_eq (ws : List Str) (nd : Nd) : nodesOf ws nd = nd :: (nd.inner ws).flatMap (nodesOf ws) := by
  obtain ⟨t, p⟩ := nd
  obtain ⟨b, w, pre, ks, post⟩ := t
  unfold Nd.inner
  rw [parts_eq]
  show ⟨.mk b w pre ks post, p⟩ :: (if w ∈ ws then [] else nodesTs ws ks p 0) = _ :: (if w ∈ ws then [] else _).flatMap _
  by_cases c : w ∈ ws
  · rw [if_pos c, if_pos c]
    rfl
  · rw [if_neg c, if_neg c, nodesTs_eq, List.flatMap_map]
    rfl
/-- what is left to be looked at, the next at the end -/
def left (ws : List Str) (st : List Nd) : List Nd := st.reverse.flatMap (nodesOf ws)
theorem left_snoc (ws : List Str) (st : List Nd) (nd : Nd) : left ws (st ++ [nd]) = nd :: left ws (st ++ (nd.inner ws).reverse) := by
  unfold left
  rw [List.reverse_append, List.reverse_append, List.reverse_reverse, List.reverse_singleton, List.singleton_append, List.flatMap_cons, List.flatMap_append, nodes_eq ws nd]
  rfl
theorem left_len (ws : List Str) : ∀ st : List Nd, st.length ≤ (left ws st).length := by
  have h : ∀ l : List Nd, l.length ≤ (l.flatMap (nodesOf ws)).length := by
    intro l
    induction l with
    | nil => exact Nat.le_refl _
    | cons x l ih =>
      rw [List.flatMap_cons, List.length_append, nodes_eq, List.length_cons, List.length_cons]
      omega
  intro st
  have z := h st.reverse
  rw [List.length_reverse] at z
  exact z
section
variable {P : Program} {w : World} {K : PySem.W.Frag} {mg : Str → Option Value} {base : Heap} {C : Cs} {B : List (Str × Nd)} {CP : Addr} {G G' H H' H1 : Hp} {N N' : NM} {τ τ' : TM} {v : V} {nd : Nd} {a : Addr} {vs : List V} {ns : List Nd}
/-- less is asked to stay -/
theorem Nds.less (s : Nds K C G' N τ H) (h : Same G G') : Nds K C G N τ H := by
  refine ⟨⟨fun a o z => s.bs.sm _ _ (h _ _ z), fun q t g => ⟨?_, (s.bs.fr q t g).2⟩⟩, s.nd⟩
  cases e : G q with
  | none => rfl
  | some o =>
    have z := h _ _ e
    rw [(s.bs.fr q t g).1] at z
    cases z
theorem Nds.in_rest (s : Nds K C G N τ H) : Same G (restG τ H) := fun a o z => by
  have n : τ a = none := by
    cases e : τ a with
    | none => rfl
    | some t =>
      rw [(s.bs.fr a t e).1] at z
      cases z
  rw [restG_of n]
  exact s.bs.sm _ _ z
theorem rest_free (s : Nds K C (restG τ H) N' τ' H') {p : Addr} {o : HO} (n : τ p = none) (h : H p = some o) : H' p = some o ∧ τ' p = none := by
  have e : restG τ H p = some o := by rw [restG_of n]; exact h
  refine ⟨s.bs.sm _ _ e, ?_⟩
  cases c : τ' p with
  | none => rfl
  | some t =>
    rw [(s.bs.fr p t c).1] at e
    cases e
theorem NVs.len : ∀ {vs : List V} {ns : List Nd}, NVs N vs ns → vs.length = ns.length
  | [], [], _ => rfl
  | v :: vs, n :: ns, h => by rw [List.length_cons, List.length_cons, NVs.len h.2]
  | [], _ :: _, h => h.elim
  | _ :: _, [], h => h.elim
theorem NVs.app : ∀ {vs : List V} {ns : List Nd} {us : List V} {ms : List Nd}, NVs N vs ns → NVs N us ms → NVs N (vs ++ us) (ns ++ ms)
  | [], [], _, _, _, g => g
  | v :: vs, n :: ns, _, _, h, g => ⟨h.1, NVs.app h.2 g⟩
  | [], _ :: _, _, _, h, _ => h.elim
  | _ :: _, [], _, _, h, _ => h.elim
/-- the last one of a stack -/
theorem NVs.last {vs : List V} {st : List Nd} (h : NVs N vs st) (ne : st ≠ []) : ∃ vs' st' v nd, vs = vs' ++ [v] ∧ st = st' ++ [nd] ∧ NVs N vs' st' ∧ NV N v nd := by
  induction vs generalizing st with
  | nil => cases st with | nil => exact absurd rfl ne | cons _ _ => exact h.elim
  | cons x vs ih =>
    cases st with
    | nil => exact h.elim
    | cons y st =>
      by_cases c : st = []
      · subst c
        have e : vs = [] := List.eq_nil_of_length_eq_zero h.2.len
        subst e
        exact ⟨[], [], x, y, rfl, rfl, trivial, h.1⟩
      · obtain ⟨vs', st', v, nd, e1, e2, a, b⟩ := ih h.2 c
        subst e1 e2
        exact ⟨x :: vs', y :: st', v, nd, rfl, rfl, ⟨h.1, a⟩, b⟩
/-- a part is asked for; what is no node's stays -/
theorem part_use {Q : VK} {E : XK} {k : Nat} (s : Nds K C G N τ H) (hv : NV N v nd) (hk : k < (kids nd.t).length) (q : ∀ H' N' τ' v', NLe N N' → Nds K C G N' τ' H' → (∀ p o, τ p = none → H p = some o → H' p = some o ∧ τ' p = none) → NV N' v' (nd.part k) → Q v' H') : spPart K C [v, .int ((k : Nat) : Int)] H Q E :=
  ⟨restG τ H, N, τ, v, nd, k, rfl, s.rest, hv, hk, fun H' N' τ' v' nl _ s' _ hv' => q H' N' τ' v' nl (s'.less s.in_rest) (fun p o n h => rest_free s' n h) hv'⟩
theorem part_rev (nd : Nd) (i : Nat) (h : i < (kids nd.t).length) : (nd.parts.reverse)[i]? = some (nd.part ((kids nd.t).length - 1 - i)) := by
  have l : nd.parts.length = (kids nd.t).length := by unfold Nd.parts; rw [List.length_map, List.length_range]
  rw [List.getElem?_reverse (by omega), l]
  unfold Nd.parts
  rw [List.getElem?_map, List.getElem?_range (by omega)]
  rfl
/-- what is no node's stays -/
def Keep (τ τ' : TM) (H H' : Hp) : Prop := ∀ p o, τ p = none → H p = some o → H' p = some o ∧ τ' p = none
abbrev s_nodes_within : Stmt := topS 54
theorem sc_nodes_within : FnScope ["node", "closed", "nodes", "coming", "place"] ["node", "closed"] (defScope s_nodes_within) := ⟨rfl, rfl, rfl, by decide +kernel, rfl, by decide +kernel, by decide +kernel⟩
def spIn (K : PySem.W.Frag) (C : Cs) : Sp := fun vs H Q _ => ∃ G N τ nv nd ca, ∃ ws : List Str, vs = [nv, .ref ca] ∧ Nds K C G N τ H ∧ NV N nv nd ∧ (∀ H', SqT K H' ca (ws.map V.str)) ∧ (nodesOf ws nd).length ≤ 100000 ∧
  ∀ H' N' τ' p us, NLe N N' → Nds K C G N' τ' H' → Keep τ τ' H H' → H p = none → τ' p = none → H' p = some (.lst us) → NVs N' us (nodesOf ws nd) → Q (.ref p) H'
def InvN (K : PySem.W.Frag) (C : Cs) (ws : List Str) (G : Hp) (N : NM) (τ : TM) (H : Hp) (nd : Nd) (ca nl cl : Addr) (m : Nat) (σ : L2.St) (H' : Hp) : Prop := ∃ acc st vs us N' τ' v0 v4, σ = [some v0, some (.ref ca), some (.ref nl), some (.ref cl), v4] ∧ m = (left ws st).length ∧ acc ++ left ws st = nodesOf ws nd ∧ NVs N' vs acc ∧ NVs N' us st ∧ H' nl = some (.lst vs) ∧ H' cl = some (.lst us) ∧ NLe N N' ∧ Nds K C G N' τ' H' ∧ τ' nl = none ∧ τ' cl = none ∧ Keep τ τ' H H'
abbrev NNw : List Str := ["node", "closed", "nodes", "coming", "place"]
theorem ok_nodes_within {f : Addr} {fd : FuncData} {pa : Arguments} {dvs : List V} {kws : List (Str × V)} (F : FunD K "nodes_within" "nodes_within" pa (defBody s_nodes_within) (defScope s_nodes_within) dvs kws f fd) (Z : Wc K C) (mr : mg "range" = none) (me : mg "reversed" = none) (ml : mg "len" = none) (GM : GoM P w K mg base CX0 4 C.N "part" ["self", "place"] (spPart K C)) : FnOk P w K mg base CX0 (4 + 1) f fd ["node", "closed"] (spIn K C) := by
  refine F.ok sc_nodes_within (fun vs H Q E h => ?_) (fun cdv A0 outer s H vs Q E hr h => ?_)
  · obtain ⟨_, _, _, _, _, _, _, rfl, _⟩ := h
    rfl
  obtain ⟨G, N, τ, nv, nd, ca, ws, rfl, s0, hn, hc, few, q⟩ := h
  refine ⟨_, (pss_cons (ps_set (i := 2) sc_nodes_within.nd rfl (.inl rfl) (pe_lst pa_nil)) (pss_cons (ps_set (i := 3) sc_nodes_within.nd rfl (.inl rfl) (pe_lst (pa_cons (pv 0) pa_nil))) (pss_cons (ps_while (passes_of rfl) (pt_truth (pv 3) (by intro _; rfl))
      (pss_cons (ps_set (i := 0) sc_nodes_within.nd rfl (.inr rfl) (pe_bm0 PySem.F.plainAttrs_list PySem.F.slot_list_pop PySem.F.type_list_pop mt_popC (pv 3))) (pss_cons (ps_expr (pe_bm PySem.F.plainAttrs_list PySem.F.slot_list_append PySem.F.type_list_append mt_append (pv 2) (pa_cons (pv 0) pa_nil))) (pss_one (ps_if (pt_cmpR op_notIn_seq (pe_fld (pv 0) rfl) (pv 1) rfl) (pss_one (ps_expr (pe_bm PySem.F.plainAttrs_list PySem.F.slot_list_extend PySem.F.type_list_extend mt_extend (pv 3) (pa_cons (pe_lc (te := tMeth C.N "part" (spPart K C) [] (fun _ _ _ => False) (tVar 0) (tCons (tVar 4) tNil)) (own := [("place", 4)]) (g := gName 4) (tt := tYes) rfl sc_nodes_within.nd (pi_revR rfl me (prg_1 rfl mr (pe_callB call_len_seq rfl ml PySem.boot_len (pa_cons (pe_fld (pv 0) rfl) pa_nil)))) (blkOk_by (N := NNw) (sc := defScope s_nodes_within) (by decide +kernel)) (fun _ _ _ _ _ => pg_name (i := 4) sc_nodes_within.nd rfl (.inl rfl)) (fun _ _ _ _ _ => pts_nil) (fun _ _ _ _ _ => pe_goM GM hr pass0 (pv 0) (pa_cons (pv 4) pa_nil))) pa_nil)))) pss_nil))))) (pss_one (ps_ret (pv 2)))))), ?_⟩
  bv_omega
  dsimp only [List.map, List.map_cons, List.map_nil, List.length_cons, List.length_nil, Nat.reduceAdd, Nat.reduceSub, List.reduceReplicate, List.cons_append, List.nil_append, List.set]
  refine ⟨sl (Nat.zero_le _), fun nl nnl => ⟨_, rfl, sl (Nat.le_of_ble_eq_true rfl), fun cl ncl => ?_⟩⟩
  have ne : cl ≠ nl := Ne.symm (ne_of_none (upd_same (H := H) (o := .lst [])) ncl)
  have hcl : H cl = none := by
    rw [upd_ne ne] at ncl
    exact ncl
  obtain ⟨_, tn, gn⟩ := s0.nfree nnl
  obtain ⟨_, tc, gc⟩ := s0.nfree hcl
  have k1 := same_new (o := .lst []) nnl
  have k2 := k1.trans (same_new (o := .lst [nv]) ncl)
  have s2 := s0.same (sm := k2)
  have e1 : upd (upd H nl (.lst [])) cl (.lst [nv]) nl = some (.lst []) := by rw [upd_ne (Ne.symm ne)]; exact upd_same
  have e2 : upd (upd H nl (.lst [])) cl (.lst [nv]) cl = some (.lst [nv]) := upd_same
  generalize upd (upd H nl (.lst [])) cl (.lst [nv]) = H1 at k2 s2 e1 e2 ⊢
  refine ⟨InvN K C ws G N τ H nd ca nl cl, ⟨_, [], [nd], [], [nv], N, τ, nv, none, rfl, rfl, ?_, trivial, ⟨hn, trivial⟩, e1, e2, NLe.rfl, s2, tn, tc, fun p o t z => ⟨k2 _ _ z, t⟩⟩, ?_⟩
  · unfold left
    rw [List.nil_append, List.reverse_singleton, List.flatMap_cons, List.flatMap_nil, List.append_nil]
  rintro m σ H2 ⟨acc, st, vs, us, N2, τ2, v0, v4, rfl, rfl, ea, na, nst, hnl, hcl2, le, s2, t1, t2, kp⟩
  have lall := congrArg List.length ea
  rw [List.length_append] at lall
  refine ⟨_, rfl, !us.isEmpty, .inl ⟨us, .inl (.inl hcl2), rfl⟩, ?_⟩
  by_cases c : st = []
  · subst c
    have eu : us = [] := List.eq_nil_of_length_eq_zero nst.len
    subst eu
    refine if_no rfl ⟨_, rfl, q H2 N2 τ2 nl vs le s2 kp nnl t1 hnl ?_⟩
    rw [← ea]
    show NVs N2 vs (acc ++ [])
    rw [List.append_nil]
    exact na
  · obtain ⟨us', st', v, x, rfl, rfl, n1, n2⟩ := nst.last c
    rw [left_snoc] at ea lall
    have ls := left_len ws (st' ++ (x.inner ws).reverse)
    rw [List.length_append, List.length_reverse] at ls
    rw [List.length_cons] at lall
    refine if_yes (by simp) ⟨InvN K C ws G N τ H nd ca nl cl (left ws (st' ++ (x.inner ws).reverse)).length, fun σ' H' h => ⟨_, by rw [left_snoc, List.length_cons]; omega, h⟩, ?_⟩
    bv_omega
    refine ⟨_, rfl, .inl ⟨rfl, _, .inl (.inl hcl2)⟩, cl, _, v, rfl, rfl, hcl2, by simp, ?_⟩
    rintro H3 rfl
    rw [List.dropLast_concat]
    have s3 : Nds K C G N2 τ2 (upd H2 cl (.lst us')) := s2.side t2 gc (stay_lst hcl2)
    have f3 : ∀ p, p ≠ cl → upd H2 cl (.lst us') p = H2 p := fun p n => upd_ne n
    have hcl3 : upd H2 cl (.lst us') cl = some (.lst us') := upd_same
    generalize upd H2 cl (.lst us') = H3 at s3 f3 hcl3 ⊢
    have hnl3 : H3 nl = some (.lst vs) := (f3 _ (Ne.symm ne)).trans hnl
    refine ⟨_, rfl, .inl ⟨rfl, _, .inl (.inl hnl3)⟩, _, rfl, nl, _, v, rfl, rfl, hnl3, ?len, ?_⟩
    case len =>
      have := na.len
      rw [sizeLine_eq]
      omega
    have s4 : Nds K C G N2 τ2 (upd H3 nl (.lst (vs ++ [v]))) := s3.side t1 gn (stay_lst hnl3)
    have f4 : ∀ p, p ≠ cl → p ≠ nl → upd H3 nl (.lst (vs ++ [v])) p = H2 p := fun p n n' => (upd_ne n').trans (f3 p n)
    have hcl4 : upd H3 nl (.lst (vs ++ [v])) cl = some (.lst us') := (upd_ne ne).trans hcl3
    have hnl4 : upd H3 nl (.lst (vs ++ [v])) nl = some (.lst (vs ++ [v])) := upd_same
    generalize upd H3 nl (.lst (vs ++ [v])) = H4 at s4 f4 hcl4 hnl4 ⊢
    have na4 := na.app (us := [v]) (ms := [x]) ⟨n2, trivial⟩
    have kp4 : Keep τ τ2 H H4 := fun p o t z => by
      obtain ⟨a, b⟩ := kp p o t z
      exact ⟨(f4 p (fun e => by rw [e, hcl] at z; cases z) (fun e => by rw [e, nnl] at z; cases z)).trans a, b⟩
    have ea4 : (acc ++ [x]) ++ left ws (st' ++ (x.inner ws).reverse) = nodesOf ws nd := by rw [List.append_assoc]; exact ea
    refine ⟨_, rfl, ?_⟩
    apply n_word Z s4 n2
    have hin : ∀ (zs : List Str), inV (.str (word x.t)) (zs.map V.str) = decide (word x.t ∈ zs) := fun zs => by
      induction zs with
      | nil => rfl
      | cons z zs ih =>
        unfold inV at ih ⊢
        rw [List.map_cons, List.any_cons, ih, eqV_str]
        by_cases c : z = word x.t
        · rw [decide_eq_true c.symm, decide_eq_true (show word x.t ∈ z :: zs from c ▸ List.mem_cons_self)]
          rfl
        · rw [decide_eq_false (fun e => c e.symm), Bool.false_or]
          simp [Ne.symm c]
    have fl : ∀ zs : List Str, (zs.map V.str).all flatV = true := fun zs => by
      induction zs with
      | nil => rfl
      | cons z zs ih => exact ih
    refine ⟨_, rfl, ca, _, rfl, .inr (hc _), rfl, fl _, _, rfl, ?_⟩
    rw [hin]
    by_cases cw : word x.t ∈ ws
    · have e0 : x.inner ws = [] := by unfold Nd.inner; rw [if_pos cw]
      rw [e0] at ea4
      rw [decide_eq_true cw, e0]
      rw [List.reverse_nil, List.append_nil] at ea4 ⊢
      refine if_no rfl ?_
      exact ⟨_, st', _, us', N2, τ2, v, v4, rfl, rfl, ea4, na4, n1, hnl4, hcl4, le, s4, t1, t2, kp4⟩
    · have e0 : x.inner ws = x.parts := by unfold Nd.inner; rw [if_neg cw]
      rw [decide_eq_false cw]
      refine if_yes rfl ?_
      refine ⟨_, rfl, .inl ⟨rfl, _, .inl (.inl hcl4)⟩, lc_in ?_⟩
      bv_omega
      refine ⟨_, rfl, ?_⟩
      apply n_parts Z s4 n2
      intro qv xs hq dq
      have lx : xs.length = (kids x.t).length := by
        rw [dq.len]
        have h : ∀ ks : List Tr, (encs ks).length = ks.length := fun ks => by
          induction ks with
          | nil => rfl
          | cons k ks ih => exact congrArg (· + 1) ih
        exact h _
      have lp : x.parts.length = (kids x.t).length := by unfold Nd.parts; rw [List.length_map, List.length_range]
      rw [e0] at ls ea4 lall
      rw [e0]
      refine ⟨qv, xs, rfl, .inr (sqt hq), _, rfl, by omega, by omega, by omega, by omega, ?_⟩
      rw [lx]
      have en : (((kids x.t).length : Nat) : Int) - 0 = ((kids x.t).length : Nat) := by omega
      rw [en, Int.toNat_natCast]
      refine lcl_itc (fun D i H' => ∃ N' τ' ps, NLe N2 N' ∧ Nds K C G N' τ' H' ∧ Keep τ2 τ' H4 H' ∧ H' D = some (.lst ps) ∧ τ' D = none ∧ G D = none ∧ ps.length = i ∧ NVs N' ps (x.parts.reverse.take i)) (fun D nD => ?_) ?hs ?hd
      · obtain ⟨_, tD, gD⟩ := s4.nfree nD
        exact ⟨N2, τ2, [], NLe.rfl, s4.same (sm := same_new nD), fun p o t z => ⟨same_new nD _ _ z, t⟩, upd_same, tD, gD, rfl, trivial⟩
      case hs =>
        rintro D nD i H5 li ⟨N5, τ5, ps, le5, s5, k5, h5, tD, gD, lps, np⟩
        bv_omega
        refine ⟨rfl, ?_⟩
        unfold tYes
        dsimp only
        rw [if_pos rfl]
        refine ⟨_, rfl, m_part s5 (n2.up le5) ⟨_, rfl, ?_⟩⟩
        have ei : (0 : Int) + (((kids x.t).length : Nat) : Int) - 1 + (i : Nat) * (-1) = ((((kids x.t).length - 1 - i : Nat) : Nat) : Int) := by omega
        rw [ei]
        refine part_use s5 (n2.up le5) (by omega) fun H6 N6 τ6 v6 le6 s6 k6 hv6 => ?_
        obtain ⟨h6, tD6⟩ := k6 D _ tD h5
        have st : Stay H6 (upd H6 D (.lst (ps ++ [v6]))) := stay_lst h6
        refine ⟨ps, h6, ?_, N6, τ6, ps ++ [v6], le5.trans le6, s6.side tD6 gD st, fun p o t z => ?_, upd_same, tD6, gD, by rw [List.length_append, lps]; rfl, ?_⟩
        · rw [sizeLine_eq]
          omega
        · obtain ⟨a, b⟩ := k5 p o t z
          obtain ⟨a2, b2⟩ := k6 p o b a
          exact ⟨by rw [upd_ne (ne_of_none z nD)]; exact a2, b2⟩
        · rw [List.take_add_one, part_rev x i li, Option.toList_some]
          exact (np.up le6).app ⟨hv6, trivial⟩
      case hd =>
        rintro D nD H5 ⟨N5, τ5, ps, le5, s5, k5, h5, tD, gD, lps, np⟩
        have np2 : NVs N5 ps x.parts.reverse := by
          have z := np
          rw [List.take_of_length_le (by rw [List.length_reverse, lp]; omega)] at z
          exact z
        obtain ⟨hcl5, tc5⟩ := k5 _ _ t2 hcl4
        obtain ⟨hnl5, tn5⟩ := k5 _ _ t1 hnl4
        refine ⟨cl, D, us', ps, rfl, rfl, hcl5, h5, ?_, ?_⟩
        · have := n1.len
          rw [sizeLine_eq]
          omega
        have st : Stay H5 (upd H5 cl (.lst (us' ++ ps))) := stay_lst hcl5
        refine ⟨_, st' ++ x.parts.reverse, _, us' ++ ps, N5, τ5, v, v4, rfl, rfl, ea4, na4.up le5, (n1.up le5).app np2, (upd_ne (Ne.symm ne)).trans hnl5, upd_same, le.trans le5, s5.side tc5 gc st, tn5, tc5, fun p o t z => ?_⟩
        obtain ⟨a, b⟩ := kp4 p o t z
        obtain ⟨a2, b2⟩ := k5 p o b a
        exact ⟨by rw [upd_ne (fun e => by rw [e, hcl] at z; cases z)]; exact a2, b2⟩
end
end Wk

/-! all_nodes. -/
namespace Wk
open PySem PySem.Spec PyProof.Rows L2 Ck
local macro_rules | `(tactic| bv_omega) => `(tactic| try dsimp only [L2.tRet, L2.tRetN, tAndV, tOrV, tNotV, tCB, L2.tCons, L2.tNil, tC, tVar, L2.tOp, L2.tUn, tSeq, tAsg, gName, tIfS, tTest, tNext, tAnd, tOr, tNot, L2.tIf, tFld, sFld, sFldAug, tCall, tTup, tB, tAug, tDrop, L2.tSl, tPart, tNoPart, tBM, tBM0, tChain, gTup, gCons, gNil, tPar, tIs, List.set, L2.start, iTup, L2.iList, L2.iRng1, tUn, tLst, tTest, gSub, tCall, L2.tIf, tCB, rRep, List.set, List.cons_append, List.nil_append, List.append_nil, cxOf, sFldC, sFldAugC, tMeth, tMakeC, sDPut, tDGet, L2.tNotN])
/-- a def with defaults, called without them -/
structure GoV (P : Program) (w : World) (K : PySem.W.Frag) (mg : Str → Option Value) (base : Heap) (CX : CXT) (n : Nat) (x : Str) (ps : List Str) (sp : Sp) (dvs : List V) : Prop where
  ex : ∃ f fd ds, FnOk P w K mg base CX n f fd ps sp ∧ mg x = some (.ref f) ∧ PySem.W.keepIn K (.ref f) = true ∧ Binds K fd ps ds ∧ Vals dvs ds
theorem pe_goV {X : Cx} {CX : CXT} {n : Nat} {ps : List Str} {sp : Sp} {dvs : List V} {E : XK} {x : Str} {p pos : Pos} {e : Expr} {es : List Expr} {t : TA} (G : GoV X.prog X.w X.K X.mg X.base CX n x ps sp dvs) (hr : Room n X.A) (hx : Passes CX X E) (hg : Gl X x) (ha : PA X (e :: es) t)
    (hdb : (x == ("__debug__" : Str)) = false := by decide) (he : starEach (e :: es) X.env = (false, eval e X.env) :: starEach es X.env := by rfl) (hpl : (backTo pos (starEach es X.env)).any (·.1) = false := by rfl) :
    PE X (.Call (.Name x p) (e :: es) [] pos) (tCall sp dvs E t) := by
  obtain ⟨f, fd, ds, F, m, k, b, d⟩ := G.ex
  exact pe_call F hr hg m k b d hx ha (hdb := hdb) (he := he) (hpl := hpl)
section
variable {P : Program} {w : World} {K : PySem.W.Frag} {mg : Str → Option Value} {base : Heap} {C : Cs} {B : List (Str × Nd)} {CP : Addr} {G G' H H' H1 : Hp} {N N' : NM} {τ τ' : TM} {v : V} {nd m : Nd} {a p : Addr} {vs : List V} {ns : List Nd} {o o' : HO} {ys : List Str}
theorem Nds.swap (s : Nds K C G N τ H) (h : G p = some o) (n : ∀ ys, o ≠ .tup ys) : Nds K C (L2.upd G p o') N τ (L2.upd H p o') := by
  have hp := s.bs.sm _ _ h
  have ne : ∀ q t, τ q = some t → q ≠ p := fun q t g e => by
    have z := (s.bs.fr q t g).1
    rw [e, h] at z
    cases z
  have st : Stay H (L2.upd H p o') := fun b xs z => by
    by_cases c : b = p
    · rw [c, hp] at z
      cases z
      exact absurd rfl (n xs)
    · rw [L2.upd_ne c]
      exact z
  refine ⟨⟨fun b ob z => ?_, fun q t g => ⟨?_, ?_⟩⟩, fun a y l z => (s.nd a y l z).up NLe.rfl TLe.rfl st fun q t g _ => L2.upd_ne (ne q t g)⟩
  · by_cases c : b = p
    · subst c
      rw [L2.upd_same] at z ⊢
      exact z
    · rw [L2.upd_ne c] at z ⊢
      exact s.bs.sm _ _ z
  · rw [L2.upd_ne (ne q t g)]
    exact (s.bs.fr q t g).1
  · rw [L2.upd_ne (ne q t g)]
    exact (s.bs.fr q t g).2
theorem upd_back (h : H p = some o) : upd (upd H p o') p o = H := by
  funext q
  by_cases c : q = p
  · subst c
    rw [upd_same, h]
  · rw [upd_ne c, upd_ne c]
theorem BdAt.at {N : NM} : ∀ {kvs : List (Key × V)} {bs : List (Str × Nd)} {i : Nat} {k : Key} {v : V}, BdAt N kvs bs → kvs[i]? = some (k, v) → ∃ b, bs[i]? = some b ∧ NV N v b.2
  | [], [], _, _, _, _, h => by cases h
  | p :: r, q :: r', 0, k, v, h, e => by
    cases e
    exact ⟨q, rfl, h.2.1⟩
  | p :: r, q :: r', i + 1, k, v, h, e => BdAt.at (i := i) h.2.2 e
  | [], _ :: _, _, _, _, h, _ => h.elim
  | _ :: _, [], _, _, _, h, _ => h.elim
/-- the nodes of all trees -/
def allNs (B : List (Str × Nd)) (m : Nd) : List Nd := B.flatMap (fun b => nodesOf [] b.2) ++ nodesOf [] m
abbrev s_all_nodes : Stmt := topS 53
theorem sc_all_nodes : FnScope ["plan", "nodes", "body"] ["plan"] (defScope s_all_nodes) := ⟨rfl, rfl, rfl, by decide +kernel, rfl, by decide +kernel, by decide +kernel⟩
def spAll (K : PySem.W.Frag) (C : Cs) (B : List (Str × Nd)) (CP : Addr) : Sp := fun vs H Q _ => ∃ G N τ pa m ys, vs = [.ref pa] ∧ PlAt K C B CP G N τ pa m ys H ∧ (allNs B m).length ≤ 100000 ∧
  ∀ H' N' τ' p us, NLe N N' → Nds K C G N' τ' H' → Keep τ τ' H H' → H p = none → τ' p = none → H' p = some (.lst us) → NVs N' us (allNs B m) → Q (.ref p) H'
theorem ok_all_nodes {f : Addr} {fd : FuncData} {ea : Addr} (F : Fun K "all_nodes" "all_nodes" s_all_nodes f fd) (ZP : Pc K CP) (he : ∀ H', SqT K H' ea []) (GN : GoV P w K mg base CX0 (4 + 1) "nodes_within" ["node", "closed"] (spIn K C) [.ref ea]) : FnOk P w K mg base CX0 (4 + 2) f fd ["plan"] (spAll K C B CP) := by
  refine F.ok sc_all_nodes (fun vs H Q E h => ?_) (fun cdv A0 outer s H vs Q E hr h => ?_)
  · obtain ⟨_, _, _, _, _, _, rfl, _⟩ := h
    rfl
  obtain ⟨G, N, τ, pa, m, ys, rfl, pl, few, q⟩ := h
  refine ⟨_, (pss_cons (ps_set (i := 1) sc_all_nodes.nd rfl (.inl rfl) (pe_lst pa_nil)) (pss_cons (ps_lock (ps_for PassesOwn.never rfl (pi_values (pe_fld (pv 0) rfl)) (pg_name (i := 2) sc_all_nodes.nd rfl (.inl rfl))
      (pss_one (ps_expr (pe_bm PySem.F.plainAttrs_list PySem.F.slot_list_extend PySem.F.type_list_extend mt_extend (pv 1) (pa_cons (pe_goV (E := fun _ _ _ => False) GN hr pass0 rfl (pa_cons (pv 2) pa_nil)) pa_nil)))))) (pss_cons (ps_expr (pe_bm PySem.F.plainAttrs_list PySem.F.slot_list_extend PySem.F.type_list_extend mt_extend (pv 1) (pa_cons (pe_goV (E := fun _ _ _ => False) GN hr pass0 rfl (pa_cons (pe_fld (pv 0) rfl) pa_nil)) pa_nil))) (pss_one (ps_ret (pv 1)))))), ?_⟩
  bv_omega
  dsimp only [List.map, List.map_cons, List.map_nil, List.length_cons, List.length_nil, Nat.reduceAdd, Nat.reduceSub, List.reduceReplicate, List.cons_append, List.nil_append, List.set]
  refine ⟨sl (Nat.zero_le _), fun nl nnl => ?_⟩
  obtain ⟨dx, cv, bd, mv, va, g1, hm, ⟨kvs, gb, _, bds⟩, gv⟩ := pl.ob
  obtain ⟨_, tn, gn⟩ := pl.ns.nfree nnl
  have k1 := same_new (o := .lst []) nnl
  have s1 := pl.ns.same (sm := k1)
  have h1l : upd H nl (.lst []) nl = some (.lst []) := upd_same
  generalize upd H nl (.lst []) = H1 at k1 s1 h1l ⊢
  have hb := pl.ns.bs.sm _ _ gb
  have hb1 : H1 bd = some (.dK kvs) := s1.bs.sm _ _ gb
  have hp1 := s1.bs.sm _ _ g1
  have nb : nl ≠ bd := by
    rintro rfl
    rw [h1l] at hb1
    cases hb1
  have pb : pa ≠ bd := by
    rintro rfl
    rw [hp1] at hb1
    cases hb1
  refine ⟨bd, _, hb1, trivial, fun od => ?_⟩
  have s2 := s1.swap (o' := .frz od (.dK kvs)) gb (fun ys => by intro e; cases e)
  have g2 : upd G bd (.frz od (.dK kvs)) bd = some (.frz od (.dK kvs)) := upd_same
  have g2l : upd G bd (.frz od (.dK kvs)) nl = none := by rw [upd_ne nb]; exact gn
  have h2l : upd H1 bd (.frz od (.dK kvs)) nl = some (.lst []) := by rw [upd_ne nb]; exact h1l
  have h2p : upd H1 bd (.frz od (.dK kvs)) pa = some (.ins CP dx (pfl cv bd mv va)) := by rw [upd_ne pb]; exact hp1
  have kp2 : ∀ p o, p ≠ bd → τ p = none → H p = some o → upd H1 bd (.frz od (.dK kvs)) p = some o ∧ τ p = none := fun p o n t z => ⟨by rw [upd_ne n]; exact k1 _ _ z, t⟩
  have eG : upd (upd G bd (.frz od (.dK kvs))) bd (.dK kvs) = G := upd_back gb
  generalize upd G bd (.frz od (.dK kvs)) = G2 at s2 g2 g2l eG
  generalize upd H1 bd (.frz od (.dK kvs)) = H2 at s2 h2l h2p kp2 ⊢
  have cut : ∀ i, ((B.take i).flatMap fun b => nodesOf [] b.2).length ≤ (B.flatMap fun b => nodesOf [] b.2).length := fun i => by
    have z : (B.flatMap fun b => nodesOf [] b.2) = ((B.take i).flatMap fun b => nodesOf [] b.2) ++ ((B.drop i).flatMap fun b => nodesOf [] b.2) := by
      rw [← List.flatMap_append, List.take_append_drop]
    rw [z, List.length_append]
    omega
  have few' := few
  unfold allNs at few'
  rw [List.length_append] at few'
  refine loop_in ?_
  bv_omega
  refine ⟨_, rfl, ?_⟩
  apply p_bodies ZP h2p
  refine ⟨bd, od, kvs, rfl, s2.bs.sm _ _ g2, ?_⟩
  refine for_it walk_values (fun i σ H' => ∃ N' τ' us v2, σ = [some (.ref pa), some (.ref nl), v2] ∧ NLe N N' ∧ Nds K C G2 N' τ' H' ∧ (∀ p o, p ≠ bd → τ p = none → H p = some o → H' p = some o ∧ τ' p = none) ∧ H' nl = some (.lst us) ∧ τ' nl = none ∧ NVs N' us ((B.take i).flatMap fun b => nodesOf [] b.2)) ⟨N, τ, [], none, rfl, NLe.rfl, s2, kp2, h2l, tn, trivial⟩ ?hG ?hs ?hd
  case hG =>
    rintro i σ H' li ⟨N', τ', us, v2, rfl, le, s, _⟩
    exact s.bs.sm _ _ g2
  case hs =>
    rintro i x σ H3 H4 li ⟨N3, τ3, us, v2, rfl, le3, s3, kp3, hl3, tl3, nv3⟩ ⟨rfl, k, ek⟩
    obtain ⟨b, eb, hv⟩ := bds.at ek
    have e1 : (B.take (i + 1)).flatMap (fun b => nodesOf [] b.2) = (B.take i).flatMap (fun b => nodesOf [] b.2) ++ nodesOf [] b.2 := by
      rw [List.take_add_one, eb, Option.toList_some, List.flatMap_append, List.flatMap_singleton]
    have c1 := cut (i + 1)
    rw [e1, List.length_append] at c1
    bv_omega
    refine ⟨_, rfl, .inl ⟨rfl, _, .inl (.inl hl3)⟩, _, rfl, ?_⟩
    refine ⟨G2, N3, τ3, x, b.2, ea, [], rfl, s3, hv.up le3, he, by omega, fun H5 N5 τ5 p us5 le5 s5 k5 np tp hp nv5 => ?_⟩
    obtain ⟨hl5, tl5⟩ := k5 _ _ tl3 hl3
    refine ⟨nl, p, us, us5, rfl, rfl, hl5, hp, ?len, N5, τ5, us ++ us5, _, rfl, le3.trans le5, s5.side tl5 g2l (stay_lst hl5), fun q o n t z => ?_, upd_same, tl5, ?_⟩
    case len =>
      rw [nv3.len, nv5.len, sizeLine_eq]
      omega
    · obtain ⟨a1, b1⟩ := kp3 q o n t z
      obtain ⟨a2, b2⟩ := k5 q o b1 a1
      exact ⟨by rw [upd_ne (ne_of_none z nnl)]; exact a2, b2⟩
    · rw [e1]
      exact (nv3.up le5).app nv5
  case hd =>
    rintro σ H3 ⟨N3, τ3, us, v2, rfl, le3, s3, kp3, hl3, tl3, nv3⟩
    rw [bds.len, List.take_length] at nv3
    have hb3 := s3.bs.sm _ _ g2
    refine ⟨hb3, ?_⟩
    have s4 := s3.swap (o' := .dK kvs) g2 (fun ys => by intro e; cases e)
    rw [eG] at s4
    have hl4 : upd H3 bd (.dK kvs) nl = some (.lst us) := by rw [upd_ne nb]; exact hl3
    have kp4 : Keep τ τ3 H (upd H3 bd (.dK kvs)) := fun p o t z => by
      by_cases c : p = bd
      · subst c
        rw [hb] at z
        cases z
        refine ⟨upd_same, ?_⟩
        cases e : τ3 p with
        | none => rfl
        | some t' =>
          have z2 := (s3.bs.fr p t' e).1
          rw [g2] at z2
          cases z2
      · obtain ⟨a1, b1⟩ := kp3 p o c t z
        exact ⟨by rw [upd_ne c]; exact a1, b1⟩
    generalize upd H3 bd (.dK kvs) = H4 at s4 hl4 kp4 ⊢
    bv_omega
    refine ⟨_, rfl, .inl ⟨rfl, _, .inl (.inl hl4)⟩, _, rfl, ?_⟩
    apply p_main ZP (s4.bs.sm _ _ g1)
    refine ⟨G, N3, τ3, mv, m, ea, [], rfl, s4, hm.up le3, he, by omega, fun H5 N5 τ5 p us5 le5 s5 k5 np tp hp nv5 => ?_⟩
    obtain ⟨hl5, tl5⟩ := k5 _ _ tl3 hl4
    refine ⟨nl, p, us, us5, rfl, rfl, hl5, hp, ?len, ?_⟩
    case len =>
      rw [nv3.len, nv5.len, sizeLine_eq]
      omega
    refine ⟨_, rfl, q _ N5 τ5 nl (us ++ us5) (le3.trans le5) (s5.side tl5 gn (stay_lst hl5)) (fun q o t z => ?_) nnl tl5 upd_same ((nv3.up le5).app nv5)⟩
    obtain ⟨a1, b1⟩ := kp4 q o t z
    obtain ⟨a2, b2⟩ := k5 q o b1 a1
    exact ⟨by rw [upd_ne (ne_of_none z nnl)]; exact a2, b2⟩
end
end Wk

/-! Defs with one default, the empty tuple. -/
namespace Wk
open PySem PySem.Spec PyProof.Rows L2 Ck
structure DefD (K : PySem.W.Frag) (mg : Str → Option Value) (x : Str) (st : Stmt) (ps : List Str) (ea : Addr) : Prop where
  ex : ∃ f fd ds, FunD K x x (defArgs st) (defBody st) (defScope st) [.ref ea] [] f fd ∧ mg x = some (.ref f) ∧ PySem.W.keepIn K (.ref f) = true ∧ Binds K fd ps ds ∧ Vals [.ref ea] ds
  he : ∀ H', SqT K H' ea []
theorem DefD.goV {P : Program} {w : World} {K : PySem.W.Frag} {mg : Str → Option Value} {base : Heap} {CX : CXT} {n : Nat} {x : Str} {st : Stmt} {ps : List Str} {sp : Sp} {ea : Addr} (D : DefD K mg x st ps ea) (h : ∀ f fd, FunD K x x (defArgs st) (defBody st) (defScope st) [.ref ea] [] f fd → FnOk P w K mg base CX n f fd ps sp) : GoV P w K mg base CX n x ps sp [.ref ea] := by
  obtain ⟨f, fd, ds, F, g, k, b, v⟩ := D.ex
  exact ⟨f, fd, ds, h f fd F, g, k, b, v⟩
theorem with_defD {K : PySem.W.Frag} {h : Heap} {mg : Str → Option Value} {R : Prop} {f T ea : Addr} {oc kV doc pm cdv ct cT : Value} {od an oT oe : Option Addr} {osl sT se : Array (Option Value)} {nT ne : Nat} (x : Str) (st : Stmt) (ps : List Str) (n : Nat) (X : K.In h) (G : h.Ns mainGlobals mg) (hn : n + 1 = ps.length)
    (hb : ∀ (T : Addr) (kV doc pm : Value) (an : Option Addr) (cdv ct : Value) (us its : List Value), us.length = n → its.length = 1 → ∃ k, bindArgs (PySem.W.fnOf x x (defArgs st) (defBody st) (defScope st) (.ref T) kV doc pm an cdv ct) ⟨us, []⟩ = seqItems? (.ref T) >>= k ∧ k (some its.toArray) = pure (ps.zip (us ++ its)))
    (a : PySem.W.nsIn K mainGlobals x = some (some (.ref f))) (l : K.lookup f = some ⟨oc, od, .func (PySem.W.fnOf x x (defArgs st) (defBody st) (defScope st) (.ref T) kV doc pm an cdv ct), osl⟩) (c : PySem.W.codeIn K cdv x = true) (k : PySem.W.keepIn K (.ref f) = true)
    (lT : K.lookup T = some ⟨cT, oT, .seq #[.ref ea] nT, sT⟩) (le : K.lookup ea = some ⟨.type "tuple", oe, .seq #[] ne, se⟩)
    (next : DefD K mg x st ps ea → R) : R := by
  have F : FunD K x x (defArgs st) (defBody st) (defScope st) [.ref ea] [] f (PySem.W.fnOf x x (defArgs st) (defBody st) (defScope st) (.ref T) kV doc pm an cdv ct) := ⟨⟨oc, od, .ref T, kV, doc, pm, an, cdv, ct, osl, rfl, l, c, .inr ⟨by simp, T, _, [.ref ea], nT, rfl, lT, rfl, .cons rfl .nil⟩, .inl rfl⟩, k⟩
  obtain ⟨ds, vd, bd⟩ := F.binds1 (ps := ps) n 0 (by simp) hn fun T kV doc pm an cdv ct us its h1 h2 => hb T kV doc pm an cdv ct us its h1 h2
  exact next ⟨⟨f, _, ds, F, PySem.W.mg_of X G a, k, bd, vd⟩, fun H' => .inr ⟨_, #[], ne, le, rfl, rfl, Nat.zero_le _, .nil⟩⟩
end Wk

/-! Where trees lead, over data. -/
namespace Wk
open PySem PySem.Spec PyProof.Rows L2 Ck
abbrev Anc := List (List Int × Str)
/-- the trees of a program, with those around them, the nearest first -/
inductive InT (rows : Rows) (m : Tr) : Nd → Anc → Prop
  | row {k : Nat} {r : Str × Tr} : rows[k]? = some r → InT rows m ⟨r.2, [(k : Int)]⟩ []
  | main : InT rows m ⟨m, [-1]⟩ []
  | kid {nd : Nd} {anc : Anc} {i : Nat} : InT rows m nd anc → i < (kids nd.t).length → InT rows m (nd.part i) ((nd.p, word nd.t) :: anc)
section
variable {rows : Rows} {m : Tr} {nd nd' : Nd} {anc anc' : Anc}
theorem part_p (nd : Nd) (i : Nat) : (nd.part i).p = nd.p ++ [(i : Int)] := rfl
theorem InT.len (h : InT rows m nd anc) : nd.p.length = anc.length + 1 := by
  induction h with
  | row _ => rfl
  | main => rfl
  | kid _ _ ih => rw [part_p, List.length_append, ih, List.length_cons]; rfl
theorem InT.one (h : InT rows m nd anc) : ∀ {nd' anc'}, InT rows m nd' anc' → nd'.p = nd.p → nd' = nd ∧ anc' = anc := by
  induction h with
  | @row k r e =>
    intro nd' anc' h e2
    cases h with
    | @row k' r' e' =>
      have z : ((k' : Nat) : Int) = (k : Nat) := by injection e2
      have z : k' = k := by omega
      subst z
      rw [e] at e'
      cases e'
      exact ⟨rfl, rfl⟩
    | main =>
      have z : (-1 : Int) = (k : Nat) := by injection e2
      omega
    | @kid nd2 anc2 i h2 lt =>
      have z := congrArg List.length e2
      rw [part_p, List.length_append, h2.len] at z
      simp at z
  | main =>
    intro nd' anc' h e2
    cases h with
    | @row k' r' e' =>
      have z : ((k' : Nat) : Int) = -1 := by injection e2
      omega
    | main => exact ⟨rfl, rfl⟩
    | @kid nd2 anc2 i h2 lt =>
      have z := congrArg List.length e2
      rw [part_p, List.length_append, h2.len] at z
      simp at z
  | @kid nd anc i h lt ih =>
    intro nd' anc' h' e2
    cases h' with
    | @row k' r' e' =>
      have z := congrArg List.length e2
      rw [part_p, List.length_append, h.len] at z
      simp at z
    | main =>
      have z := congrArg List.length e2
      rw [part_p, List.length_append, h.len] at z
      simp at z
    | @kid nd2 anc2 j h2 lt2 =>
      rw [part_p, part_p] at e2
      obtain ⟨e3, e4⟩ := List.append_inj' e2 rfl
      obtain ⟨rfl, rfl⟩ := ih h2 e3
      have z : ((j : Nat) : Int) = (i : Nat) := by injection e4
      have z : j = i := by omega
      subst z
      exact ⟨rfl, rfl⟩
/-- each tree around one is one of them -/
theorem InT.up (h : InT rows m nd anc) : ∀ {q w r}, anc = (q, w) :: r → ∃ nd2, InT rows m nd2 r ∧ nd2.p = q ∧ word nd2.t = w ∧ ∃ i : Nat, nd.p = q ++ [(i : Int)] := by
  intro q w r e
  cases h with
  | row _ => cases e
  | main => cases e
  | @kid nd2 anc2 i h2 lt =>
    cases e
    exact ⟨nd2, h2, rfl, rfl, i, rfl⟩
theorem mem_nodes {x : Nd} : ∀ (n : Nat) (nd : Nd), ht nd.t ≤ n → (x ∈ nodesOf [] nd ↔ x = nd ∨ ∃ i, i < (kids nd.t).length ∧ x ∈ nodesOf [] (nd.part i)) := by
  intro n nd _
  rw [nodes_eq, List.mem_cons, List.mem_flatMap]
  unfold Nd.inner
  rw [if_neg (by simp)]
  unfold Nd.parts
  constructor
  · rintro (rfl | ⟨y, my, mx⟩)
    · exact .inl rfl
    · obtain ⟨i, mi, rfl⟩ := List.mem_map.mp my
      exact .inr ⟨i, List.mem_range.mp mi, mx⟩
  · rintro (rfl | ⟨i, li, mx⟩)
    · exact .inl rfl
    · exact .inr ⟨_, List.mem_map.mpr ⟨i, List.mem_range.mpr li, rfl⟩, mx⟩
theorem part_ht {nd : Nd} {i : Nat} (h : i < (kids nd.t).length) : ht (nd.part i).t + 1 ≤ ht nd.t := by
  obtain ⟨t, p⟩ := nd
  obtain ⟨b, w, pre, ks, post⟩ := t
  obtain ⟨u, eu⟩ : ∃ u, ks[i]? = some u := ⟨_, List.getElem?_eq_getElem h⟩
  have e : (Nd.part ⟨.mk b w pre ks post, p⟩ i).t = u := by
    unfold Nd.part
    show (ks[i]?.getD _) = u
    rw [eu]
    rfl
  rw [e]
  have := ht_kid (h := hts ks) (b := b) (w := w) (pre := pre) (post := post) (ks := ks) (by show 1 + hts ks ≤ hts ks + 1; omega) (List.mem_of_getElem? eu)
  show ht u + 1 ≤ 1 + hts ks
  omega
theorem nodes_in : ∀ (n : Nat) {nd : Nd} {anc : Anc}, ht nd.t ≤ n → InT rows m nd anc → ∀ x ∈ nodesOf [] nd, ∃ a, InT rows m x a
  | 0, nd, _, h, _, _, _ => by
    have := ht_pos nd.t
    omega
  | n + 1, nd, anc, h, t, x, mx => by
    rcases (mem_nodes (n + 1) nd h).mp mx with rfl | ⟨i, li, mi⟩
    · exact ⟨_, t⟩
    · have := part_ht li
      exact nodes_in n (by omega) (.kid t li) x mi
theorem in_nodes : ∀ (n : Nat) {nd : Nd}, ht nd.t ≤ n → ∀ {x : Nd} {i : Nat}, x ∈ nodesOf [] nd → i < (kids x.t).length → x.part i ∈ nodesOf [] nd
  | 0, nd, h, _, _, _, _ => by
    have := ht_pos nd.t
    omega
  | n + 1, nd, h, x, i, mx, li => by
    rcases (mem_nodes (n + 1) nd h).mp mx with rfl | ⟨j, lj, mj⟩
    · refine (mem_nodes (n + 1) x h).mpr (.inr ⟨i, li, ?_⟩)
      rw [nodes_eq]
      exact List.mem_cons_self
    · have := part_ht lj
      exact (mem_nodes (n + 1) nd h).mpr (.inr ⟨j, lj, in_nodes n (by omega) mj li⟩)
theorem all_in {x : Nd} (h : x ∈ allNs (bdsOf rows 0) ⟨m, [-1]⟩) : ∃ a, InT rows m x a := by
  unfold allNs at h
  rcases List.mem_append.mp h with h | h
  · obtain ⟨b, mb, mx⟩ := List.mem_flatMap.mp h
    obtain ⟨k, ek⟩ := List.getElem?_of_mem mb
    rw [bds_get] at ek
    obtain ⟨r, er, rfl⟩ := Option.map_eq_some_iff.mp ek
    rw [Nat.zero_add] at mx
    exact nodes_in _ (Nat.le_refl _) (.row er) x mx
  · exact nodes_in _ (Nat.le_refl _) .main x h
theorem in_all (h : InT rows m nd anc) : nd ∈ allNs (bdsOf rows 0) ⟨m, [-1]⟩ := by
  induction h with
  | @row k r e =>
    unfold allNs
    refine List.mem_append_left _ (List.mem_flatMap.mpr ⟨(r.1, ⟨r.2, [(k : Int)]⟩), ?_, ?_⟩)
    · refine List.mem_of_getElem? (i := k) ?_
      rw [bds_get, e, Nat.zero_add]
      rfl
    · rw [nodes_eq]
      exact List.mem_cons_self
  | main =>
    unfold allNs
    refine List.mem_append_right _ ?_
    rw [nodes_eq]
    exact List.mem_cons_self
  | @kid nd anc i h lt ih =>
    unfold allNs at ih ⊢
    rcases List.mem_append.mp ih with ih | ih
    · obtain ⟨b, mb, mx⟩ := List.mem_flatMap.mp ih
      exact List.mem_append_left _ (List.mem_flatMap.mpr ⟨b, mb, in_nodes _ (Nat.le_refl _) mx lt⟩)
    · exact List.mem_append_right _ (in_nodes _ (Nat.le_refl _) ih lt)
end
/-! ### where trees lead -/
abbrev lops : List Str := ["while", "until", "times"]
def loopUp : Nat → List Int → Anc → Option (List Int)
  | 0, q, _ => some q
  | _ + 1, _, [] => none
  | c + 1, _, (q, w) :: r => if w ∈ lops then loopUp c q r else loopUp (c + 1) q r
def shellUp : List Int → Anc → Option (List Int)
  | q, [] => if q.head? = some (-1) then some [-1] else none
  | q, (q', w) :: r => if w = "sub" ∨ w = "pipe" then some q else shellUp q' r
/-- where a tree leads; nothing for one that doesn't leave -/
def tgt (nd : Nd) (anc : Anc) : Option (Option (List Int)) :=
  if word nd.t = "break" ∨ word nd.t = "next" then some (loopUp (num nd.t).toNat nd.p anc)
  else if word nd.t = "return" then some (some (nd.p.take 1))
  else if word nd.t = "exit" then some (shellUp nd.p anc)
  else none
end Wk

/-! Dict comprehensions whose keys may be tuples. -/
namespace L2
open PySem PySem.Spec PyProof.Rows
/-- a key is stored while a dict is made -/
theorem store_any {X : Cx} {pins : List (Addr × Obj)} {σ : St} {H H' : Hp} {s : Shared} {E : Value → Shared → Prop} {D : Addr} {y v : V} {u r : Value} {Q : Unit → Shared → Prop}
    (room : X.A.units + 1 < cLine) (I : Inv X pins σ H s) (put : DPut H D y v H') (ky : RelV y u) (kv : RelV v r)
    (go : ∀ t, Inv X pins σ H' t → Q () t) : wpAny (model X.prog X.w) X.A (dictSet D u r) Q E s := by
  rcases put with ⟨ps, k, at0, rfl, few, rfl⟩ | ⟨ps, k, b, at0, rfl, atb, few, rfl⟩
  · exact d_dictSet I at0 few ky kv go
  · cases (show u = Value.ref b from ky)
    obtain ⟨sz, low, es, rl, dict⟩ := dt_of I.hok at0
    have few2 : es.length ≤ sizeLine := Paired.length rl ▸ sz
    have few3 : (putK ps k v).length ≤ sizeLine := Nat.le_trans (length_putK ps k v) (by omega)
    refine wpAny_dictSet_heap (show X.A.units < cLine from Nat.lt_of_succ_lt room) (key_of I.hok atb) dict (fun g made but => go _ ?_) few2
    obtain ⟨q, c1, c2, e0, e1, e2, e3, e4, e5⟩ := made
    have keep := (rl.put k atb kv).keeps (H' := upd H D (.dT (putK ps k v))) fun c zs ec => by
      have off : c ≠ D := ne_of ec at0 fun z => nomatch z
      rw [upd_ne off]
      exact ec
    exact d_write I (by rw [at0]; trivial) but ⟨q, e0⟩ ⟨few3, low, _, keep, q, c1, c2, e0, e1, e2, e3, e5⟩
/-- the reading: a new dict o0, each turn stores by DPut -/
def tDcP (o0 : HO) (wi : TI) (g : TG) (tt : TT) (tk tv : TE) (vs : List Nat) : TE := fun σ H Q => wi σ H fun J H1 => ∀ D, H1 D = none →
  ∃ W : Nat → Nat → Hp → Prop, (∃ m, W 0 m (upd H1 D o0)) ∧ ∀ i m H, W i m H →
    (J.stop i H ∧ Q (.ref D) H) ∨
    (J.go i H ∧ ∃ Nx : Hp → Prop, (∀ H', Nx H' → ∃ m', m' < m ∧ W (i + 1) m' H') ∧
      ∀ x H', J.yld i H x H' → g x (wipe σ vs) H' fun σ2 H2 => wipe σ2 vs = wipe σ vs ∧ tt σ2 H2 fun b H3 =>
        if b = true then tk σ2 H3 fun y H4 => tv σ2 H4 fun z H5 => ∃ H6, DPut H5 D y z H6 ∧ Nx H6 else Nx H3)
section
variable {X : Cx} {kx vx tg iter : Expr} {ifs : List Expr} {scope : Scope} {own : List (Str × Nat)} {pos : Pos} {wi : TI} {g : TG} {tt : TT} {tk tv : TE} {o0 : HO}
theorem dcP_core {pins : List (Addr × Obj)} {s0 : Shared} {σ : St} {H0 : Hp} {Q : VK} {pos' : Pos} {use : Option (Value → Sem Unit)} {Qf : Value → Shared → Prop} (fresh : o0 = .dK [] ∨ o0 = .dT []) (calm : X.calm = true) (room : X.A.units + 1 < cLine) (nodup : X.N.Nodup) (over : PI X tg iter wi) (blk : BlkOk X.N X.env.scope scope own)
    (tgt : ∀ (s : Shared) (H : Hp) (C : Addr) (cl : List (Str × Addr)) (fp : List Addr), PG (X.blk s H scope (compEnvC scope cl C X.env) fp) tg g)
    (tst : ∀ (s : Shared) (H : Hp) (C : Addr) (cl : List (Str × Addr)) (fp : List Addr), PTs (X.blk s H scope (compEnvC scope cl C X.env) fp) ifs tt)
    (key : ∀ (s : Shared) (H : Hp) (C : Addr) (cl : List (Str × Addr)) (fp : List Addr), PE (X.blk s H scope (compEnvC scope cl C X.env) fp) kx tk)
    (val : ∀ (s : Shared) (H : Hp) (C : Addr) (cl : List (Str × Addr)) (fp : List Addr), PE (X.blk s H scope (compEnvC scope cl C X.env) fp) vx tv)
    (plain : ∀ x, foldedSetIterable iter X.env x = pure x)
    (I0 : Inv X pins σ H0 s0) (rd : tDcP o0 wi g tt tk tv (own.map (·.2)) σ H0 Q)
    (fin : ∀ D L t mm G, Inv X pins σ G t → Q (.ref D) G → t.heap.Ns L mm → FpOk X pins G L → compPost (model X.prog X.w) X.A X.xe use Qf (.ref D) L (.ok .next) t) :
    wpAny (model X.prog X.w) X.A (comprehension (.DictComp kx vx [⟨tg, iter, ifs, 0⟩] scope pos) scope X.env pos' newDict false (eval iter X.env) use) Qf X.xe s0 := by
  have cells : ∀ y ∈ scope.names, y.2 = .free → ∃ c, X.env.cells.lookup y.1 = some c := fun y my ey => I0.ok.has _ ((blk.free y my ey).elim .inl .inr)
  refine wpAny_comprehension_free (use := use) rfl plain (closure_ok cells) blk.kind (fun y my ey => by rw [blk.uniq y my, ey]) ?_
  refine thn (over.run pins s0 σ H0 _ I0 rd) fun xv s1 got => thn got fun itv s2 got2 => ?_
  obtain ⟨it, fp, tn, J, H2, rfl, I2, T, at2, ok2, body⟩ := got2
  refine wpAny_newObj_type (newEnv_comp ?_)
  -- the dict
  obtain ⟨D, eD⟩ : ∃ D, D = s2.heap.objs.size := ⟨_, rfl⟩
  have noD : H2 D = none := I2.hok.fresh (Nat.le_of_eq eD.symm)
  obtain ⟨W, ⟨m0, start0⟩, turns⟩ := body D noD
  rw [← eD]
  suffices main : ∀ s3 : Shared, s3 = { s2 with heap := s2.heap.push { cls := .type "dict", data := .dict #[] } } →
      codeAny (model X.prog X.w) X.A (.compStart (.DictComp kx vx [⟨tg, iter, ifs, 0⟩] scope pos) 0 (.ref it) (.ref D) (compEnvC scope (cellsFrom (s3.heap.objs.size + 1) scope.names (cloFrom X.env.cells scope.names [])) s3.heap.objs.size X.env))
        (compPost (model X.prog X.w) X.A X.xe use Qf (.ref D) s3.heap.objs.size) { s3 with heap := pushCells (s3.heap.push { cls := .type "dict", data := .dict #[] }) scope.names } from main _ rfl
  intro s3 e3
  have heap3 : s3.heap = s2.heap.push { cls := .type "dict", data := .dict #[] } := congrArg (·.heap) e3
  have I3 : Inv X pins σ (upd H2 D o0) s3 := by
    rw [e3]
    refine I2.laid (t' := s2.toks) (fun b o q => Heap.get?_push_of_some _ q) (Nat.le_of_eq eD.symm) ?_
    rw [eD]
    rcases fresh with rfl | rfl
    · exact dk_empty s2.heap I2.big
    · exact dt_empty s2.heap I2.big
  have inside : ∀ b ∈ fp, b < s2.heap.objs.size := fun b mb => (T.obj _ _ at2 b mb).elim fun o z => Heap.lt_size z.1
  have ok3 : ∀ b ∈ fp, FpOk X pins (upd H2 D o0) b ∧ b < s3.heap.objs.size := fun b mb => by
    have lt := inside b mb
    have off : b ≠ D := by rw [eD]; exact Nat.ne_of_lt lt
    refine ⟨⟨(upd_ne off).trans (ok2 b mb).1, (ok2 b mb).2⟩, ?_⟩
    rw [heap3, Heap.size_push]
    exact Nat.lt_succ_of_lt lt
  have at3 : tn 0 s3.heap := T.keep _ _ _ at2 fun b _ o q => by
    rw [heap3]
    exact Heap.get?_push_of_some _ q
  have I4 := block_start I3 blk nodup ok3
  obtain ⟨L, eL⟩ : ∃ L, L = s3.heap.objs.size := ⟨_, rfl⟩
  obtain ⟨cl, ecl⟩ : ∃ cl, cl = cellsFrom (L + 1) scope.names (cloFrom X.env.cells scope.names []) := ⟨_, rfl⟩
  obtain ⟨ce, ece⟩ : ∃ ce, ce = compEnvC scope cl L X.env := ⟨_, rfl⟩
  obtain ⟨H3, eH3⟩ : ∃ H3, H3 = upd H2 D o0 := ⟨_, rfl⟩
  have pg := tgt s3 H3 L cl fp
  have pt := tst s3 H3 L cl fp
  have pk := key s3 H3 L cl fp
  have pv := val s3 H3 L cl fp
  rw [← eL, ← ecl, ← ece, ← eH3] at I4
  rw [← ece] at pg pt pk pv
  rw [← eH3] at I3 start0 ok3
  rw [← eL, ← ecl, ← ece]
  have frL : ce.locals = L := by rw [ece]; rfl
  obtain ⟨s4, e4⟩ : ∃ s4 : Shared, s4 = { s3 with heap := pushCells (s3.heap.push { cls := .type "dict", data := .dict #[] }) scope.names } := ⟨_, rfl⟩
  rw [← e4] at I4 ⊢
  have at4 : tn 0 s4.heap := T.keep _ _ _ at3 fun b _ o q => by
    rw [e4]
    exact pushCells_keeps _ _ _ _ (Heap.get?_push_of_some _ q)
  have none3 : ∀ b ∈ fp, H3 b = none := fun b mb => (ok3 b mb).1.1
  have fpok : ∀ {ρ : St} {G : Hp} {t : Shared}, Inv (X.blk s3 H3 scope ce fp) [] ρ G t → (∀ b ∈ fp, G b = none) → ∀ b ∈ fp, FpOk (X.blk s3 H3 scope ce fp) [] G b := fun I' nn b mb =>
    ⟨nn b mb, (I'.ok.exf b mb).1, I'.ok.exfs b mb, .inl mb, fun x c q => (I'.ok.exf b mb).2 x c q, fun p mp => absurd (show p ∈ ([] : List (Addr × Obj)) ++ [] from mp) (by simp)⟩
  -- what holds at each turn
  let Turn : Nat → Shared → Prop := fun n t => ∃ i G, Inv (X.blk s3 H3 scope ce fp) [] (wipe σ (own.map (·.2))) G t ∧ tn i t.heap ∧ (∀ b ∈ fp, G b = none) ∧ W i n G
  have loop : codeAny (model X.prog X.w) X.A (.compLoop (.DictComp kx vx [⟨tg, iter, ifs, 0⟩] scope pos) 0 (.ref it) (.ref D) ce) (compPost (model X.prog X.w) X.A X.xe use Qf (.ref D) L) s4 := by
    refine compLoop_anyD Turn (fun n t5 ⟨i, G5, I5, at5, no5, w5⟩ => ?_) m0 ⟨0, H3, I4, at4, none3, start0⟩
    rcases turns i n G5 w5 with ⟨stop, last⟩ | ⟨go, Nx, next, step⟩
    · refine thnF (T.done (X.blk s3 H3 scope ce fp) rfl rfl rfl calm i [] t5 _ G5 (fun _ _ => False) I5 (fpok I5 no5) at5 stop) fun r t6 ⟨er, I6⟩ => ?_
      subst er
      have I7 : Inv X pins σ G5 t6 := I3.call' (ch := fp) I6.os I6.base I6.hok I6.bare fun b mb => by
        obtain ⟨⟨_, a2, _, a4, a5, a6⟩, _⟩ := ok3 b mb
        exact ⟨a4, a2, a5, a6⟩
      have noL : G5 L = none := by
        rw [← frL]
        exact I6.free
      obtain ⟨mm, nsm, _⟩ := I6.loc
      have nsL : t6.heap.Ns L mm := by
        rw [← frL]
        exact nsm
      have gd : FpOk X pins G5 L := by
        rw [eL] at noL ⊢
        exact I3.fpOk (Nat.le_refl _) noL
      exact fin D L t6 mm G5 I7 last nsL gd
    · refine thnF (T.item (X.blk s3 H3 scope ce fp) rfl rfl rfl calm i [] t5 _ G5 (fun _ _ => False) I5 (fpok I5 no5) at5 go) fun r t6 ⟨u, er, h6⟩ => ?_
      subst er
      refine thnF h6 fun _ t7 ⟨x, G7, I7, r7, y7, at7, no7⟩ => ?_
      refine thnF (pg.run _ t7 _ G7 x u _ (I7.pinned (fpok I7 no7) (T.obj _ _ at7)) r7 (step x G7 y7)) fun _ t8 ⟨σ8, G8, I8, same8, h8⟩ => ?_
      refine thnF (pt.run _ t8 σ8 G8 _ I8 h8) fun b t9 ⟨G9, I9, h9⟩ => ?_
      have turned : ∀ {t : Shared} {G : Hp}, Inv (X.blk s3 H3 scope ce fp) ([] ++ pinsAt fp t7.heap) σ8 G t → Nx G → ∃ m, m < n ∧ Turn m t := fun {t G} I' nx => by
        obtain ⟨m', less, w'⟩ := next G nx
        have stay : ∀ b ∈ fp, ∀ o, t7.heap.get? b = some o → t.heap.get? b = some o ∧ G b = none := fun b mb o q => by
          have z := I'.pin (b, o) (List.mem_append_right _ (List.mem_append_right _ (mem_pinsAt mb q)))
          exact ⟨z.1, z.2.1⟩
        have len8 : (wipe σ (own.map (·.2))).length = σ8.length := by
          rw [← same8]
          exact wipe_length _ _
        refine ⟨m', less, i + 1, G, (I'.unpinned (pins := [])).weak len8 (fun j v q => ?_), T.keep _ _ _ at7 fun b mb o q => (stay b mb o q).1, fun b mb => ?_, w'⟩
        · rw [← same8] at q
          exact (wipe_some q).1
        · obtain ⟨o, q, _⟩ := T.obj _ _ at7 b mb
          exact (stay b mb o q).2
      cases b with
      | false =>
        simp only [Bool.false_eq_true, if_false] at h9 ⊢
        exact turned I9 h9
      | true =>
        simp only [if_true] at h9 ⊢
        refine thnF (pk.run _ t9 σ8 G9 _ I9 h9) fun z1 t10 ⟨k1, G10, I10, r10, h10⟩ => ?_
        refine thnF (pv.run _ t10 σ8 G10 _ I10 h10) fun z2 t11 ⟨v1, G11, I11, r11, G12, put, nx⟩ => ?_
        exact store_any (X := X.blk s3 H3 scope ce fp) room I11 put r10 r11 fun t12 I12 => turned I12 nx
  exact codeAny_compStart_dict loop (T.self X.A 0 _ _ _ at4 loop)
/-- d = {k: v for ..} -/
theorem ps_setDcP {i : Nat} {y : Str} {py spos : Pos} (fresh : o0 = .dK [] ∨ o0 = .dT []) (calm : X.calm = true) (room : X.A.units + 1 < cLine) (nodup : X.N.Nodup) (at_i : X.N[i]? = some y) (loc : X.env.scope.names.lookup y = some .local) (swap : swapsWith (.DictComp kx vx [⟨tg, iter, ifs, 0⟩] scope pos) (some (.Name y py)) spos.line X.env = pure true) (over : PI X tg iter wi) (blk : BlkOk X.N X.env.scope scope own)
    (tgt : ∀ (s : Shared) (H : Hp) (C : Addr) (cl : List (Str × Addr)) (fp : List Addr), PG (X.blk s H scope (compEnvC scope cl C X.env) fp) tg g)
    (tst : ∀ (s : Shared) (H : Hp) (C : Addr) (cl : List (Str × Addr)) (fp : List Addr), PTs (X.blk s H scope (compEnvC scope cl C X.env) fp) ifs tt)
    (key : ∀ (s : Shared) (H : Hp) (C : Addr) (cl : List (Str × Addr)) (fp : List Addr), PE (X.blk s H scope (compEnvC scope cl C X.env) fp) kx tk)
    (val : ∀ (s : Shared) (H : Hp) (C : Addr) (cl : List (Str × Addr)) (fp : List Addr), PE (X.blk s H scope (compEnvC scope cl C X.env) fp) vx tv)
    (plain : ∀ x, foldedSetIterable iter X.env x = pure x := by intro _; rfl) :
    PS X (.Assign [.Name y py] (.DictComp kx vx [⟨tg, iter, ifs, 0⟩] scope pos) spos) (tAsg (tDcP o0 wi g tt tk tv (own.map (·.2))) (gName i)) := by
  refine ⟨fun pins s0 σ H0 D0 I0 rd => ?_⟩
  rw [exec_Assign_Name_used _ _ _ _ swap]
  refine wpAny_bind (wpAny_standAt (wpAny_bind ?_))
  have rd : tDcP o0 wi g tt tk tv (own.map (·.2)) σ H0 (fun x G => gName i x σ G D0.nx) := rd
  show wpAny _ X.A (do
    let _ ← comprehension (.DictComp kx vx [⟨tg, iter, ifs, 0⟩] scope pos) scope X.env (firstIterPos [⟨tg, iter, ifs, 0⟩] pos) newDict false (eval iter X.env) (some (assign (.Name y py) X.env))) _ _ s0
  refine wpAny_bind (thn (dcP_core (Qf := fun _ t => SP X pins D0 .next t) fresh calm room nodup over blk tgt tst key val plain I0 rd fun D L t mm G I' q ns ok => ?_) fun _ t hq => wpAny_pure (wpAny_pure hq))
  show wpAny _ _ (assign (.Name y py) X.env (.ref D)) _ _ _
  refine wpAny_assign_Name (store_ok2 (v := V.ref D) I' nodup at_i (.inl loc) rfl (fun t2 I2 got => ?_) (.inr loc))
  obtain ⟨a, but, side⟩ := got
  obtain ⟨z0, z1, z2, z3, z4, z5⟩ := ok
  have off : L ≠ a := by
    rcases side with rfl | z
    · exact z1
    · exact fun e => z4 y a z e.symm
  exact ⟨mm, ns.sameBut but off, fun g3 but3 => ⟨_, G, I2.turned (t' := t2.toks) (fun b o nb q => (but3.2 b nb).trans q) z0 z1 z3 z4 z5, q⟩⟩
theorem swd_true {gs : List Comprehension} {l : Nat} {env : Env} {y : Str} {py : Pos} (k : env.scope.kind = .function) (loc : env.scope.names.lookup y = some .local) (line : (py.line == pos.line) = true)
    (own : (scope.names.any fun (n, k) => n == y && (k == .local || k == .cell)) = false) : swapsWith (.DictComp kx vx gs scope pos) (some (.Name y py)) l env = pure true := by
  have ky : env.kindOf y = some .local := loc
  have bk : env.blockKind = .function := by
    unfold Env.blockKind
    rw [k]
    rfl
  unfold swapsWith
  simp only [bk, ky, own, Expr.pos, line]
  rfl
end
end L2

/-! loop_around, shell_around. -/
namespace Wk
open PySem PySem.Spec PyProof.Rows L2 Ck
local macro_rules | `(tactic| bv_omega) => `(tactic| try dsimp only [L2.tRet, L2.tRetN, tAndV, tOrV, tNotV, tCB, L2.tCons, L2.tNil, tC, tVar, L2.tOp, L2.tUn, tSeq, tAsg, gName, tIfS, tTest, tNext, tAnd, tOr, tNot, L2.tIf, tFld, sFld, sFldAug, tCall, tTup, tB, tAug, tDrop, L2.tSl, tPart, tNoPart, tBM, tBM0, tChain, gTup, gCons, gNil, tPar, tIs, List.set, L2.start, iTup, L2.iList, L2.iRng1, tUn, tLst, tTest, gSub, tCall, L2.tIf, tCB, rRep, List.set, List.cons_append, List.nil_append, List.append_nil, cxOf, sFldC, sFldAugC, tMeth, tMakeC, sDPut, tDGet, L2.tNotN])
abbrev keyP (p : List Int) : List Key := p.map Sum.inl
theorem keyP_kV (p : List Int) : (keyP p).map kV = p.map V.int := by
  rw [List.map_map]
  rfl
theorem keyP_inj {p q : List Int} (h : keyP p = keyP q) : p = q := by
  induction p generalizing q with
  | nil => cases q with | nil => rfl | cons _ _ => cases h
  | cons x p ih =>
    cases q with
    | nil => cases h
    | cons y q =>
      injection h with h1 h2
      cases h1
      rw [ih h2]
/-- the words of all trees, by their paths -/
def Wds (rows : Rows) (m : Tr) (kvs : List (List Key × V)) : Prop := ∀ nd anc, InT rows m nd anc → valV kvs (keyP nd.p) = some (.str (word nd.t))
section
variable {P : Program} {w : World} {K : PySem.W.Frag} {mg : Str → Option Value} {base : Heap} {H H' H1 : Hp} {rows : Rows} {m : Tr} {d pp : Addr} {kvs : List (List Key × V)} {Q : VK}
theorem wd_get {nd : Nd} {anc : Anc} {ps : List Int} (hd : H d = some (.dT kvs)) (wd : Wds rows m kvs) (t : InT rows m nd anc) (e : nd.p = ps) (hp : H pp = some (.tup (ps.map V.int))) : DGet H d (.ref pp) (some (.str (word nd.t))) := by
  rw [← wd nd anc t, e]
  exact DGet.t hd (by rw [keyP_kV]; exact hp)
theorem inV_str {z : Str} : ∀ zs : List Str, inV (.str z) (zs.map V.str) = decide (z ∈ zs)
  | [] => by simp [inV]
  | c :: zs => by
    have ih := inV_str (z := z) zs
    unfold inV at ih ⊢
    rw [List.map_cons, List.any_cons, ih, eqV_str]
    by_cases e : c = z
    · rw [decide_eq_true e.symm, decide_eq_true (show z ∈ c :: zs from e ▸ List.mem_cons_self)]
      rfl
    · rw [decide_eq_false (fun q => e q.symm), Bool.false_or]
      simp [Ne.symm e]
theorem flat_strs (zs : List Str) : (zs.map V.str).all flatV = true := by
  induction zs with
  | nil => rfl
  | cons z zs ih => exact ih
theorem cut_last {xs : List V} (h : 1 ≤ xs.length) : cutV xs none (some (-1)) = xs.dropLast := by
  unfold cutV
  have e0 : HT.sIx xs.length 0 none = 0 := rfl
  have e : HT.sIx xs.length xs.length (some (-1)) = xs.length - 1 := by
    show (if (-1 : Int) < 0 then ((-1 : Int) + (xs.length : Int)).toNat else min (-1 : Int).toNat xs.length) = _
    rw [if_pos (by omega)]
    omega
  rw [e0, e, List.drop_zero, Nat.sub_zero, List.dropLast_eq_take]
theorem loopUp_zero {q : List Int} {anc : Anc} : loopUp 0 q anc = some q := by cases anc <;> rfl
abbrev s_loop_around : Stmt := topS 57
theorem sc_loop_around : FnScope ["words", "path", "count"] ["words", "path", "count"] (defScope s_loop_around) := ⟨rfl, rfl, rfl, by decide +kernel, rfl, by decide +kernel, by decide +kernel⟩
def spLa (rows : Rows) (m : Tr) : Sp := fun vs H Q _ => ∃ d pp kvs nd anc n R, vs = [.ref d, .ref pp, .int ((n : Nat) : Int)] ∧ H d = some (.dT kvs) ∧ Wds rows m kvs ∧ InT rows m nd anc ∧ H pp = some (.tup (nd.p.map V.int)) ∧ loopUp n nd.p anc = some R ∧ ∀ H' p, Same H H' → H' p = some (.tup (R.map V.int)) → Q (.ref p) H'
theorem ok_loop_around {f : Addr} {fd : FuncData} {dl : Addr} (F : Fun K "loop_around" "loop_around" s_loop_around f fd) (gl : mg "LOOPS" = some (.ref dl)) (hl : ∀ H, SqT K H dl (lops.map V.str)) : FnOk P w K mg base CX0 1 f fd ["words", "path", "count"] (spLa rows m) := by
  refine F.ok sc_loop_around (fun vs H Q E h => ?_) (fun cdv A0 outer s H vs Q E hr h => ?_)
  · obtain ⟨_, _, _, _, _, _, _, rfl, _⟩ := h
    rfl
  obtain ⟨d, pp, kvs, nd, anc, n, R, rfl, hd, wd, t, hp, lu, q⟩ := h
  have hu := hu_of hr
  refine ⟨_, (pss_cons (ps_while PassesOwn.never (pt_cmpR op_gt (pv 2) pe_int rfl)
      (pss_cons (ps_set (i := 1) sc_loop_around.nd rfl (.inl rfl) (pe_slice sl_tup (pv 1) po_none (po_some (pe_un un_neg pe_int)))) (pss_one (ps_if (pt_cmpR op_in_seq (pe_dget hu (pv 0) (pv 1) fun _ _ => rfl) (pe_glob (v := .ref dl) rfl gl rfl) rfl) (pss_one (ps_aug (i := 2) sc_loop_around.nd rfl (.inl rfl) pe_int ip_sub)) pss_nil)))) (pss_one (ps_ret (pv 1)))), ?_⟩
  bv_omega
  dsimp only [List.map, List.map_cons, List.map_nil, List.length_cons, List.length_nil, Nat.reduceAdd, Nat.reduceSub, List.reduceReplicate, List.cons_append, List.nil_append, List.set]
  refine ⟨fun k σ H' => ∃ pp' nd' anc' n', σ = [some (.ref d), some (.ref pp'), some (.int ((n' : Nat) : Int))] ∧ k = List.length (α := List Int × Str) anc' ∧ Same H H' ∧ InT rows m nd' anc' ∧ H' pp' = some (.tup (nd'.p.map V.int)) ∧ loopUp n' nd'.p anc' = some R, ⟨_, pp, nd, anc, n, rfl, rfl, same_id, t, hp, lu⟩, ?_⟩
  rintro k σ H2 ⟨pp', nd', anc', n', rfl, rfl, s2, t2, hp2, lu2⟩
  bv_omega
  refine ⟨_, rfl, _, _, rfl, rfl, _, rfl, ?_⟩
  match n', anc', lu2, t2 with
  | 0, anc', lu2, t2 =>
    refine if_no (by decide) ⟨_, rfl, ?_⟩
    rw [loopUp_zero] at lu2
    have e : nd'.p = R := Option.some.inj lu2
    rw [e] at hp2
    exact q H2 pp' s2 hp2
  | c + 1, (q0, w0) :: r, lu2, t2 =>
    refine if_yes (decide_eq_true (by omega)) ?_
    obtain ⟨nd3, t3, e3, e4, i, ep⟩ := t2.up rfl
    have hlen : 1 ≤ (nd'.p.map V.int).length := by rw [List.length_map, ep, List.length_append]; simp
    refine ⟨fun σ' H' => ∃ pp' nd' anc' n', σ' = [some (.ref d), some (.ref pp'), some (.int ((n' : Nat) : Int))] ∧ r.length = List.length (α := List Int × Str) anc' ∧ Same H H' ∧ InT rows m nd' anc' ∧ H' pp' = some (.tup (nd'.p.map V.int)) ∧ loopUp n' nd'.p anc' = some R, fun σ' H' h => ⟨r.length, by show r.length < r.length + 1; omega, h⟩, ?_⟩
    bv_omega
    refine ⟨_, rfl, 1, rfl, _, rfl, pp', _, rfl, sqt hp2, ?ne, fun p3 n3 => ?_⟩
    case ne =>
      rintro ⟨_, z⟩
      have e : HT.sIx (nd'.p.map V.int).length (nd'.p.map V.int).length (some (-1)) = (nd'.p.map V.int).length - 1 := by
        show (if (-1 : Int) < 0 then ((-1 : Int) + ((nd'.p.map V.int).length : Int)).toNat else min (-1 : Int).toNat (nd'.p.map V.int).length) = _
        rw [if_pos (by omega)]
        omega
      have z : HT.sIx (nd'.p.map V.int).length (nd'.p.map V.int).length (some (-1)) = (nd'.p.map V.int).length := z
      rw [e] at z
      omega
    have e5 : cutV (nd'.p.map V.int) none (some (-1)) = nd3.p.map V.int := by
      rw [cut_last hlen, ep, List.map_append, List.map_singleton, List.dropLast_concat, e3]
    have s3 := same_new (o := .tup (cutV (nd'.p.map V.int) none (some (-1)))) n3
    have hp3 : upd H2 p3 (.tup (cutV (nd'.p.map V.int) none (some (-1)))) p3 = some (.tup (nd3.p.map V.int)) := by rw [upd_same, e5]
    have s23 := s2.trans s3
    generalize upd H2 p3 (.tup (cutV (nd'.p.map V.int) none (some (-1)))) = H3 at s23 hp3 ⊢
    have hd3 := s23 _ _ hd
    refine ⟨_, rfl, _, rfl, d, _, rfl, wd_get hd3 wd t3 rfl hp3, dl, _, rfl, .inr (hl _), rfl, flat_strs _, _, rfl, ?_⟩
    rw [e4]
    have lu3 : (if w0 ∈ lops then loopUp c q0 r else loopUp (c + 1) q0 r) = some R := lu2
    show if (inV (.str w0) (lops.map V.str)) = true then _ else _
    rw [inV_str]
    by_cases cw : w0 ∈ lops
    · rw [if_pos cw, ← e3] at lu3
      refine if_yes (decide_eq_true cw) ?_
      bv_omega
      refine ⟨_, rfl, _, _, rfl, rfl, p3, nd3, r, c, ?_, rfl, s23, t3, hp3, lu3⟩
      have e : ((c + 1 : Nat) : Int) - 1 = ((c : Nat) : Int) := by omega
      show [_, _, some (V.int (((c + 1 : Nat) : Int) - 1))] = _
      rw [e]
    · rw [if_neg cw, ← e3] at lu3
      refine if_no (decide_eq_false cw) ?_
      exact ⟨p3, nd3, r, c + 1, rfl, rfl, s23, t3, hp3, lu3⟩
abbrev s_shell_around : Stmt := topS 58
theorem sc_shell_around : FnScope ["words", "path", "length"] ["words", "path"] (defScope s_shell_around) := ⟨rfl, rfl, rfl, by decide +kernel, rfl, by decide +kernel, by decide +kernel⟩
def optV (K : PySem.W.Frag) (H : Hp) (v : V) : Option (List Int) → Prop
  | none => v = .non
  | some q => ∃ p, v = .ref p ∧ H p = some (.tup (q.map V.int))
def spSa (K : PySem.W.Frag) (rows : Rows) (m : Tr) : Sp := fun vs H Q _ => ∃ d pp kvs nd anc, vs = [.ref d, .ref pp] ∧ H d = some (.dT kvs) ∧ Wds rows m kvs ∧ InT rows m nd anc ∧ nd.p.length ≤ 1000 ∧ H pp = some (.tup (nd.p.map V.int)) ∧ ∀ H' v, Same H H' → optV K H' v (shellUp nd.p anc) → Q v H'
/-- the ancestor so far up, and where it leads -/
theorem InT.at {nd : Nd} {anc : Anc} (h : InT rows m nd anc) : ∀ j, j ≤ anc.length → ∃ nd2, InT rows m nd2 (anc.drop j) ∧ nd2.p = nd.p.take (nd.p.length - j) := by
  intro j
  induction j with
  | zero =>
    intro _
    exact ⟨nd, h, by rw [Nat.sub_zero, List.take_length]⟩
  | succ j ih =>
    intro lj
    obtain ⟨nd2, t2, e2⟩ := ih (by omega)
    obtain ⟨⟨q, w⟩, eq⟩ : ∃ x, anc[j]? = some x := ⟨_, List.getElem?_eq_getElem (by omega)⟩
    have ed : anc.drop j = (q, w) :: anc.drop (j + 1) := by
      have lt : j < anc.length := by omega
      rw [List.drop_eq_getElem_cons lt]
      rw [List.getElem?_eq_getElem lt] at eq
      rw [Option.some.inj eq]
    obtain ⟨nd3, t3, e3, _, i, ep⟩ := t2.up ed
    refine ⟨nd3, t3, ?_⟩
    have l := h.len
    rw [e3]
    have z : nd2.p.dropLast = q := by rw [ep, List.dropLast_concat]
    rw [← z, e2, List.dropLast_eq_take, List.length_take, List.take_take]
    congr 1
    omega
theorem cut_tk {xs : List V} {k : Nat} : cutV xs none (some (k : Int)) = xs.take k := by
  unfold cutV
  have e0 : HT.sIx xs.length 0 none = 0 := rfl
  have e : HT.sIx xs.length xs.length (some (k : Int)) = min k xs.length := by
    show (if (k : Int) < 0 then ((k : Int) + (xs.length : Int)).toNat else min (k : Int).toNat xs.length) = _
    rw [if_neg (by omega)]
    rfl
  rw [e0, e, List.drop_zero, Nat.sub_zero]
  by_cases c : k ≤ xs.length
  · rw [Nat.min_eq_left c]
  · rw [Nat.min_eq_right (by omega), List.take_length, List.take_of_length_le (by omega)]
/-- t[:k], the whole or not -/
theorem cut_use {xs : List V} {k : Nat} (h : H pp = some (.tup xs)) (q : ∀ H' p, Same H H' → H' p = some (.tup (xs.take k)) → Q (.ref p) H') : rSlA K (.ref pp) none (some (k : Int)) H Q := by
  have e : HT.sIx xs.length xs.length (some (k : Int)) = min k xs.length := by
    show (if (k : Int) < 0 then ((k : Int) + (xs.length : Int)).toNat else min (k : Int).toNat xs.length) = _
    rw [if_neg (by omega)]
    rfl
  refine ⟨pp, xs, rfl, sqt h, fun ⟨_, z⟩ => ?_, fun _ p np => ?_⟩
  · rw [e] at z
    refine q H pp same_id ?_
    rw [List.take_of_length_le (by omega)]
    exact h
  · rw [cut_tk]
    exact q _ p (same_new np) upd_same
theorem ok_shell_around {f : Addr} {fd : FuncData} (F : Fun K "shell_around" "shell_around" s_shell_around f fd) (mr : mg "range" = none) (ml : mg "len" = none) : FnOk P w K mg base CX0 1 f fd ["words", "path"] (spSa K rows m) := by
  refine F.ok sc_shell_around (fun vs H Q E h => ?_) (fun cdv A0 outer s H vs Q E hr h => ?_)
  · obtain ⟨_, _, _, _, _, rfl, _⟩ := h
    rfl
  obtain ⟨d, pp, kvs, nd, anc, rfl, hd, wd, t, few, hp, q⟩ := h
  have hu := hu_of hr
  refine ⟨_, (pss_cons (ps_for PassesOwn.never rfl (pi_range3 rfl mr (pa_cons (pe_op op_sub (pe_callB call_len_seq rfl ml PySem.boot_len (pa_cons (pv 1) pa_nil)) pe_int) (pa_cons pe_int (pa_cons (pe_un un_neg pe_int) pa_nil)))) (pg_name (i := 2) sc_shell_around.nd rfl (.inl rfl))
      (pss_one (ps_if (pt_cmpR op_in_seq (pe_dget hu (pv 0) (pe_slice sl_tupA (pv 1) po_none (po_some (pv 2))) fun _ _ => rfl) (pe_tup (pa_cons pe_str (pa_cons pe_str pa_nil))) rfl) (pss_one (ps_ret (pe_slice sl_tupA (pv 1) po_none (po_some (pe_op op_add (pv 2) pe_int))))) pss_nil))) (pss_one (ps_ret (pe_ifExp (pt_cmpR op_eq (pe_ix ix_tup (pv 1) pe_int fun _ _ => rfl) (pe_un un_neg pe_int) rfl) (pe_tup (pa_cons (pe_un un_neg pe_int) pa_nil)) pe_non)))), ?_⟩
  bv_omega
  dsimp only [List.map, List.map_cons, List.map_nil, List.length_cons, List.length_nil, Nat.reduceAdd, Nat.reduceSub, List.reduceReplicate, List.cons_append, List.nil_append, List.set]
  have hl := t.len
  have en : ((anc.length : Nat) : Int) - 0 = ((anc.length : Nat) : Int) := by omega
  have rg := RgC.neg (i := ((anc.length : Nat) : Int)) (j := 0) (by omega) (by omega) (by decide) (by decide)
  rw [en, Int.toNat_natCast] at rg
  refine loop_in ?_
  bv_omega
  refine ⟨_, rfl, pp, _, rfl, .inr (sqt hp), _, _, rfl, rfl, _, rfl, ((anc.length : Nat) : Int), 0, -1, anc.length, ?_, rg, ?_⟩
  · rw [List.length_map, hl]
    have e : ((anc.length + 1 : Nat) : Int) - 1 = ((anc.length : Nat) : Int) := by omega
    show [V.int (((anc.length + 1 : Nat) : Int) - 1), V.int 0, V.int (-1)] = _
    rw [e]
  refine for_it walk_rangeC (fun i σ H' => Same H H' ∧ (∃ v2, σ = [some (.ref d), some (.ref pp), v2]) ∧ shellUp nd.p anc = shellUp (nd.p.take (nd.p.length - i)) (anc.drop i)) ⟨same_id, ⟨_, rfl⟩, by rw [Nat.sub_zero, List.take_length]; rfl⟩ (fun _ _ _ _ _ => trivial) ?hs ?hd
  case hs =>
    rintro i x σ H2 H3 li ⟨s2, ⟨v2, rfl⟩, eq⟩ ⟨rfl, rfl⟩
    obtain ⟨nda, ta, ea⟩ := t.at i (by omega)
    obtain ⟨ndb, tb, eb⟩ := t.at (i + 1) (by omega)
    obtain ⟨⟨q0, w0⟩, ew⟩ : ∃ x, anc[i]? = some x := ⟨_, List.getElem?_eq_getElem li⟩
    have ed : anc.drop i = (q0, w0) :: anc.drop (i + 1) := by
      rw [List.drop_eq_getElem_cons li]
      rw [List.getElem?_eq_getElem li] at ew
      rw [Option.some.inj ew]
    obtain ⟨ndc, tc, ec, ewc, _⟩ := ta.up ed
    have eqb : ndb.p = ndc.p := by
      have z := ta.up ed
      obtain ⟨ndd, td, edd, _, j, ep⟩ := z
      rw [eb, ec, ← show nda.p.dropLast = q0 by rw [ep, List.dropLast_concat], ea, List.dropLast_eq_take, List.length_take, List.take_take]
      congr 1
      omega
    have hp2 := s2 _ _ hp
    have hd2 := s2 _ _ hd
    have e1 : ((List.length anc : Nat) : Int) + (i : Nat) * (-1) = ((anc.length - i : Nat) : Int) := by omega
    bv_omega
    rw [e1]
    refine ⟨_, rfl, _, rfl, _, rfl, _, rfl, cut_use hp2 fun H4 p4 s4 hp4 => ?_⟩
    have s24 := s2.trans s4
    have hd4 := s4 _ _ hd2
    rw [← List.map_take] at hp4
    have e4 : ndb.p = nd.p.take (anc.length - i) := by
      rw [eb]
      congr 1
      omega
    refine ⟨d, _, rfl, wd_get hd4 wd tb e4 hp4, sl (Nat.le_of_ble_eq_true rfl), fun p5 n5 => ?_⟩
    have s5 := same_new (o := .tup [V.str "sub", V.str "pipe"]) n5
    have ebw : word ndb.t = w0 := by
      obtain ⟨z, _⟩ := tc.one tb eqb
      rw [z, ewc]
    refine ⟨p5, _, rfl, .inr (sqt upd_same), rfl, flat_strs ["sub", "pipe"], _, rfl, ?_⟩
    rw [ebw]
    show if (inV (.str w0) (([("sub" : Str), "pipe"]).map V.str)) = true then _ else _
    rw [inV_str]
    have s25 := s24.trans s5
    rw [ed] at eq
    have eq2 : shellUp (nd.p.take (nd.p.length - i)) ((q0, w0) :: anc.drop (i + 1)) = if w0 = "sub" ∨ w0 = "pipe" then some (nd.p.take (nd.p.length - i)) else shellUp q0 (anc.drop (i + 1)) := rfl
    rw [eq2] at eq
    by_cases cw : w0 = "sub" ∨ w0 = "pipe"
    · rw [if_pos cw] at eq
      refine if_yes (decide_eq_true (by rcases cw with rfl | rfl <;> decide)) ?_
      bv_omega
      have e6 : ((anc.length - i : Nat) : Int) + 1 = ((nd.p.length - i : Nat) : Int) := by omega
      refine ⟨_, rfl, _, rfl, _, _, rfl, rfl, _, rfl, ?_⟩
      show rSlA K (.ref pp) none (some (((anc.length - i : Nat) : Int) + 1)) _ Q
      rw [e6]
      refine cut_use (s5 _ _ (s4 _ _ hp2)) fun H6 p6 s6 hp6 => ?_
      refine q H6 _ (s25.trans s6) ?_
      rw [eq]
      exact ⟨p6, rfl, by rw [← List.map_take] at hp6; exact hp6⟩
    · rw [if_neg cw] at eq
      refine if_no (decide_eq_false fun z => cw ?_) ?_
      · rcases List.mem_cons.mp z with z | z
        · exact .inl z
        · exact .inr (List.mem_singleton.mp z)
      · refine ⟨s25, ⟨_, rfl⟩, ?_⟩
        rw [eq, ← ec, ← eqb, eb]
  case hd =>
    rintro σ H2 ⟨s2, ⟨v2, rfl⟩, eq⟩
    rw [List.drop_length] at eq
    have hp2 := s2 _ _ hp
    obtain ⟨x, ps, ex⟩ : ∃ x ps, nd.p = x :: ps := by
      cases h : nd.p with
      | nil => rw [h] at hl; cases hl
      | cons x ps => exact ⟨x, ps, rfl⟩
    have eq : shellUp nd.p anc = if x = -1 then some [-1] else none := by
      rw [eq]
      have e1 : nd.p.length - anc.length = 1 := by omega
      rw [e1, ex]
      show (if some x = some (-1) then _ else _) = _
      by_cases c : x = -1
      · rw [if_pos (by rw [c]), if_pos c]
      · rw [if_neg (fun z => c (Option.some.inj z)), if_neg c]
    rw [ex] at hp2
    bv_omega
    refine ⟨_, rfl, pp, _, _, _, rfl, rfl, sqt hp2, atI_nat (j := 0) rfl, 1, rfl, rfl, _, rfl, ?_⟩
    by_cases c : x = -1
    · rw [if_pos c] at eq
      refine if_yes (decide_eq_true (congrArg V.int c)) ⟨1, rfl, sl (by show 1 ≤ 1000000; decide), fun p3 n3 => ?_⟩
      refine q _ _ (s2.trans (same_new n3)) ?_
      rw [eq]
      exact ⟨p3, rfl, upd_same⟩
    · rw [if_neg c] at eq
      refine if_no (decide_eq_false fun z => c (by injection z)) ?_
      refine q _ _ s2 ?_
      rw [eq]
      rfl
end
end Wk

/-! targets. -/
namespace Wk
open PySem PySem.Spec PyProof.Rows L2 Ck
theorem kids_mem {nd : Nd} {i : Nat} (h : i < (kids nd.t).length) : (nd.part i).t ∈ kids nd.t := by
  unfold Nd.part
  rw [List.getElem?_eq_getElem h]
  exact List.getElem_mem h
/-- the loops around the parts of a tree -/
def inL (t : Tr) (l : Nat) : Nat := if word t = "trap" ∨ word t = "sub" ∨ word t = "pipe" then 0 else if word t ∈ lops then l + 1 else l
theorem okt_in {C V : List Str} {N M : Int} {kn : List Str} {i : Bool} {l : Nat} {t : Tr} (h : Okt C V N M kn i l t) : ∀ u ∈ kids t, ∃ i', Okt C V N M kn i' (inL t l) u := by
  cases h with
  | seq e a => exact fun u m => ⟨_, a u m⟩
  | pipe e a => exact fun u m => ⟨_, a u m⟩
  | @andor _ _ w a b e h1 h2 =>
    intro u m
    have z : inL (.mk false w [] [a, b] []) l = l := by
      unfold inL word
      rcases e with rfl | rfl <;> rfl
    rw [z]
    rcases List.mem_cons.mp m with rfl | m
    · exact ⟨_, h1⟩
    · rw [List.mem_singleton.mp m]
      exact ⟨_, h2⟩
  | not h1 =>
    intro u m
    rw [List.mem_singleton.mp m]
    exact ⟨_, h1⟩
  | ife h1 h2 h3 =>
    intro u m
    rcases List.mem_cons.mp m with rfl | m
    · exact ⟨_, h1⟩
    rcases List.mem_cons.mp m with rfl | m
    · exact ⟨_, h2⟩
    · rw [List.mem_singleton.mp m]
      exact ⟨_, h3⟩
  | if1 h1 h2 =>
    intro u m
    rcases List.mem_cons.mp m with rfl | m
    · exact ⟨_, h1⟩
    · rw [List.mem_singleton.mp m]
      exact ⟨_, h2⟩
  | @whl _ _ w c b e h1 h2 =>
    intro u m
    have z : inL (.mk false w [] [c, b] []) l = l + 1 := by
      unfold inL word
      rcases e with rfl | rfl <;> rfl
    rw [z]
    rcases List.mem_cons.mp m with rfl | m
    · exact ⟨_, h1⟩
    · rw [List.mem_singleton.mp m]
      exact ⟨_, h2⟩
  | times _ _ h1 =>
    intro u m
    rw [List.mem_singleton.mp m]
    exact ⟨_, h1⟩
  | trap _ h1 =>
    intro u m
    rw [List.mem_singleton.mp m]
    exact ⟨_, h1⟩
  | sub h1 =>
    intro u m
    rw [List.mem_singleton.mp m]
    exact ⟨_, h1⟩
  | _ => exact fun u m => by cases m
section
variable {rows : Rows} {m : Tr} {nd : Nd} {anc : Anc} {C V : List Str} {N M : Int}
theorem rows_oktL : ∀ {rows : Rows} {fs : List (Str × Int)}, RowsOk C V N M fs rows → ∀ r ∈ rows, ∃ kn, Okt C V N M kn true 0 r.2
  | [], _, _, r, m => by cases m
  | q :: rs, fs, ok, r, m => by
    obtain ⟨_, _, o3, _, _, o6⟩ := ok
    rcases List.mem_cons.mp m with rfl | m
    · exact ⟨_, o3⟩
    · exact rows_oktL o6 r m
/-- so many loops are around a tree -/
theorem InT.okt (h : InT rows m nd anc) (ok : ProgOk C V N M rows m) : ∃ kn i l, Okt C V N M kn i l nd.t ∧ ∀ n, n ≤ l → ∃ R, loopUp n nd.p anc = some R := by
  induction h with
  | @row k r e =>
    obtain ⟨kn, o⟩ := rows_oktL ok.rs r (List.mem_of_getElem? e)
    refine ⟨kn, _, _, o, fun n hn => ?_⟩
    have : n = 0 := by omega
    subst this
    exact ⟨_, loopUp_zero⟩
  | main =>
    refine ⟨_, _, _, ok.mn, fun n hn => ?_⟩
    have : n = 0 := by omega
    subst this
    exact ⟨_, loopUp_zero⟩
  | @kid nd anc i h lt ih =>
    obtain ⟨kn, b, l, o, up⟩ := ih
    obtain ⟨b', o'⟩ := okt_in o _ (kids_mem lt)
    refine ⟨kn, b', _, o', fun n hn => ?_⟩
    cases n with
    | zero => exact ⟨_, loopUp_zero⟩
    | succ n =>
      show ∃ R, (if word nd.t ∈ lops then loopUp n nd.p anc else loopUp (n + 1) nd.p anc) = some R
      unfold inL at hn
      split at hn
      · omega
      · split at hn
        · rename_i c
          rw [if_pos c]
          exact up n (by omega)
        · rename_i c
          rw [if_neg c]
          exact up (n + 1) hn
theorem InT.short (h : InT rows m nd anc) (ok : ProgOk C V N M rows m) : anc.length + ht nd.t ≤ 58 := by
  induction h with
  | @row k r e =>
    have z : ∀ {rows : Rows} {fs : List (Str × Int)}, RowsOk C V N M fs rows → ∀ r ∈ rows, ht r.2 ≤ 58 := by
      intro rows
      induction rows with
      | nil => exact fun _ r m => by cases m
      | cons q rs ih =>
        intro fs ok r m
        obtain ⟨_, _, _, _, o5, o6⟩ := ok
        rcases List.mem_cons.mp m with rfl | m
        · exact o5
        · exact ih o6 r m
    have := z ok.rs r (List.mem_of_getElem? e)
    show 0 + ht r.2 ≤ 58
    omega
  | main =>
    have := ok.dp
    show 0 + ht m ≤ 58
    omega
  | kid h lt ih =>
    have := part_ht lt
    rw [List.length_cons]
    omega
end
mutual
theorem nodesT_len : ∀ (t : Tr) (p : List Int), (nodesT [] t p).length = cnt t
  | .mk b w pre ks post, p => by
    show (_ :: (if w ∈ [] then [] else nodesTs [] ks p 0)).length = 1 + cnts ks
    rw [if_neg (by simp), List.length_cons, nodesTs_len ks p 0]
    omega
theorem nodesTs_len : ∀ (ks : List Tr) (p : List Int) (i : Nat), (nodesTs [] ks p i).length = cnts ks
  | [], _, _ => rfl
  | k :: ks, p, i => by
    show (nodesT [] k _ ++ nodesTs [] ks p (i + 1)).length = cnt k + cnts ks
    rw [List.length_append, nodesT_len k, nodesTs_len ks]
end
theorem bds_nodes : ∀ (rows : Rows) (k : Nat), ((bdsOf rows k).flatMap fun b => nodesOf [] b.2).length = tot rows
  | [], _ => rfl
  | r :: rs, k => by
    show (nodesT [] r.2 _ ++ (bdsOf rs (k + 1)).flatMap fun b => nodesOf [] b.2).length = cnt r.2 + tot rs
    rw [List.length_append, nodesT_len, bds_nodes rs (k + 1)]
theorem all_len {rows : Rows} {m : Tr} {C V : List Str} {N M : Int} (ok : ProgOk C V N M rows m) : (allNs (bdsOf rows 0) ⟨m, [-1]⟩).length ≤ 3000 := by
  unfold allNs nodesOf
  have z := bds_nodes rows 0
  unfold nodesOf at z
  rw [List.length_append, z, nodesT_len]
  exact ok.tr
/-! ### the entries -/
abbrev pthT (p : List Int) : T := .tup (p.map T.int)
def optT : Option (List Int) → T
  | none => .non
  | some q => pthT q
def entT (p : List Int) (o : Option (List Int)) : T := .tup [pthT p, optT o]
def entsOf (nd : Nd) (anc : Anc) : List T := match tgt nd anc with
  | none => []
  | some o => [entT nd.p o]
inductive Lds (rows : Rows) (m : Tr) : List Nd → List T → Prop
  | nil : Lds rows m [] []
  | cons {nd anc ns ts} : InT rows m nd anc → Lds rows m ns ts → Lds rows m (nd :: ns) (entsOf nd anc ++ ts)
section
variable {P : Program} {w : World} {K : PySem.W.Frag} {mg : Str → Option Value} {base : Heap} {H H' H1 : Hp} {rows : Rows} {m : Tr} {Q : VK} {C : Cs} {CP : Addr}
theorem Lds.one {ns : List Nd} {ts ts' : List T} (h : Lds rows m ns ts) : Lds rows m ns ts' → ts' = ts := by
  induction h generalizing ts' with
  | nil => intro g; cases g; rfl
  | cons t _ ih =>
    intro g
    cases g with
    | cons t' g =>
      obtain ⟨_, rfl⟩ := t.one t' rfl
      rw [ih g]
theorem Lds.app {ns ms : List Nd} {ts ss : List T} (h : Lds rows m ns ts) (g : Lds rows m ms ss) : Lds rows m (ns ++ ms) (ts ++ ss) := by
  induction h with
  | nil => exact g
  | cons t _ ih =>
    rw [List.append_assoc]
    exact .cons t ih
theorem path_dat {p : List Int} {a : Addr} (h : H a = some (.tup (p.map V.int))) : Dat K H (.ref a) (pthT p) := by
  refine Dats.tup ?_ h
  have z : ∀ p : List Int, Dats K H (p.map V.int) (p.map T.int) := fun p => by
    induction p with
    | nil => exact .nil
    | cons x p ih => exact .cons (.int x) ih
  exact z p
theorem optV_dat {v : V} {o : Option (List Int)} (h : optV K H v o) : Dat K H v (optT o) := by
  cases o with
  | none =>
    have h : v = .non := h
    subst h
    exact .non
  | some q =>
    obtain ⟨p, rfl, hp⟩ := h
    exact path_dat hp
end
end Wk

/-! targets, in the heap. -/
namespace L2
open PySem
local macro_rules | `(tactic| bv_omega) => `(tactic| try dsimp only [L2.tRet, L2.tRetN, tAndV, tOrV, tNotV, tCB, L2.tCons, L2.tNil, tC, tVar, L2.tOp, L2.tUn, tSeq, tAsg, gName, tIfS, tTest, tNext, tAnd, tOr, tNot, L2.tIf, tFld, sFld, sFldAug, tCall, tTup, tB, tAug, tDrop, L2.tSl, tPart, tNoPart, tBM, tBM0, tChain, gTup, gCons, gNil, tPar, tIs, List.set, L2.start, iTup, L2.iList, L2.iRng1, tUn, tLst, tTest, gSub, tCall, L2.tIf, tCB, rRep, List.set, List.cons_append, List.nil_append, List.append_nil, cxOf, sFldC, sFldAugC, tMeth, tMakeC, sDPut, tDGet, L2.tNotN])
theorem dcp_list {K : PySem.W.Frag} {a : Addr} {xs : List V} {o0 : HO} {g : TG} {tt : TT} {tk tv : TE} {vs : List Nat} {σ : St} {H1 : Hp} {Q : VK} (Pv : Addr → Nat → Hp → Prop) (h0 : ∀ D, H1 D = none → Pv D 0 (upd H1 D o0)) (hl : ∀ D, H1 D = none → ∀ i H, i ≤ xs.length → Pv D i H → SqL K H a xs)
    (hs : ∀ D, H1 D = none → ∀ i x H, xs[i]? = some x → Pv D i H → g x (wipe σ vs) H fun σ2 H2 => wipe σ2 vs = wipe σ vs ∧ tt σ2 H2 fun b H3 => if b = true then tk σ2 H3 fun y H4 => tv σ2 H4 fun z H5 => ∃ H6, DPut H5 D y z H6 ∧ Pv D (i + 1) H6 else Pv D (i + 1) H3)
    (hd : ∀ D, H1 D = none → ∀ H, Pv D xs.length H → Q (.ref D) H) : tDcP o0 (fun _ H R => R (Itl K a) H) g tt tk tv vs σ H1 Q := fun D nD => by
  refine ⟨fun i m H => i ≤ xs.length ∧ m = xs.length - i ∧ Pv D i H, ⟨_, Nat.zero_le _, rfl, h0 D nD⟩, ?_⟩
  rintro i m H ⟨li, rfl, p⟩
  have sq := hl D nD i H li p
  by_cases c : i < xs.length
  · refine .inr ⟨⟨xs, xs[i], sq, List.getElem?_eq_getElem c⟩, Pv D (i + 1), fun H' h => ⟨xs.length - (i + 1), by omega, c, rfl, h⟩, ?_⟩
    rintro x H' ⟨rfl, y⟩
    exact hs D nD i x H' (y xs sq) p
  · have e : i = xs.length := by omega
    subst e
    exact .inl ⟨⟨xs, sq, Nat.le_refl _⟩, hd D nD H p⟩
theorem dcp_in {o0 : HO} {wi : TI} {g : TG} {tt : TT} {tk tv : TE} {vs : List Nat} {σ : St} {H : Hp} {Q : VK} (h : wi σ H fun J H1 => tDcP o0 (fun _ H R => R J H) g tt tk tv vs σ H1 Q) : tDcP o0 wi g tt tk tv vs σ H Q := h
end L2
namespace Wk
open PySem PySem.Spec PyProof.Rows L2 Ck
local macro_rules | `(tactic| bv_omega) => `(tactic| try dsimp only [L2.tRet, L2.tRetN, tAndV, tOrV, tNotV, tCB, L2.tCons, L2.tNil, tC, tVar, L2.tOp, L2.tUn, tSeq, tAsg, gName, tIfS, tTest, tNext, tAnd, tOr, tNot, L2.tIf, tFld, sFld, sFldAug, tCall, tTup, tB, tAug, tDrop, L2.tSl, tPart, tNoPart, tBM, tBM0, tChain, gTup, gCons, gNil, tPar, tIs, List.set, L2.start, iTup, L2.iList, L2.iRng1, tUn, tLst, tTest, gSub, tCall, L2.tIf, tCB, rRep, List.set, List.cons_append, List.nil_append, List.append_nil, cxOf, sFldC, sFldAugC, tMeth, tMakeC, sDPut, tDGet, L2.tNotN])
section
variable {P : Program} {w : World} {K : PySem.W.Frag} {mg : Str → Option Value} {base : Heap} {H H' H1 : Hp} {rows : Rows} {m : Tr} {Q : VK} {C : Cs} {CP : Addr} {dl : Addr}
abbrev s_targets : Stmt := topS 56
theorem sc_targets : FnScope ["program", "nodes", "node", "words", "found"] ["program"] (defScope s_targets) := ⟨rfl, rfl, rfl, by decide +kernel, rfl, by decide +kernel, by decide +kernel⟩
def spT (K : PySem.W.Frag) : Sp := fun vs H Q _ => ∃ v rows m, vs = [v] ∧ PDat K H v (encP rows m) ∧ (∃ D W N M, ProgOk D W N M rows m) ∧
  ∀ H' p us ts, Same H H' → H p = none → H' p = some (.lst us) → Dats K H' us ts → Lds rows m (allNs (bdsOf rows 0) ⟨m, [-1]⟩) ts → Q (.ref p) H'
abbrev NTg : List Str := ["program", "nodes", "node", "words", "found"]
theorem ok_targets {f : Addr} {fd : FuncData} (F : Fun K "targets" "targets" s_targets f fd) (Z : Wc K C) (GP : Go P w K mg base CX0 87 "plan_of" ["program"] (spPlanOf K C CP)) (GA : ∀ B, Go P w K mg base CX0 (4 + 2) "all_nodes" ["plan"] (spAll K C B CP))
    (GL : ∀ rows m, Go P w K mg base CX0 1 "loop_around" ["words", "path", "count"] (spLa rows m)) (GS : ∀ rows m, Go P w K mg base CX0 1 "shell_around" ["words", "path"] (spSa K rows m)) : FnOk P w K mg base CX0 88 f fd ["program"] (spT K) := by
  refine F.ok sc_targets (fun vs H Q E h => ?_) (fun cdv A0 outer s H vs Q E hr h => ?_)
  · obtain ⟨_, _, _, rfl, _⟩ := h
    rfl
  obtain ⟨v, rows, m, rfl, d, ⟨D0, W0, N0, M0, pr⟩, q⟩ := h
  have hu := hu_of hr
  have hr1 := hr.mono (j := 1) (by decide)
  have hr2 := hr.mono (j := 4 + 2) (by decide)
  have hr7 := hr.mono (j := 87) (by decide)
  refine ⟨_, (pss_cons (ps_set (i := 1) sc_targets.nd rfl (.inl rfl) (pe_go (E := fun _ _ _ => False) (GA (bdsOf rows 0)) hr2 pass0 rfl (pa_cons (pe_go (E := fun _ _ _ => False) GP hr7 pass0 rfl (pa_cons (pv 0) pa_nil)) pa_nil))) (pss_cons (ps_setDcP (i := 3) (o0 := .dT []) (tk := tFld K (tVar 2) "path") (tv := tFld K (tVar 2) "word") (own := [("node", 2)]) (g := gName 2) (tt := tYes) (.inr rfl) rfl hu sc_targets.nd rfl rfl (swd_true rfl rfl rfl rfl) (pi_list (pv 1)) (blkOk_by (N := NTg) (sc := defScope s_targets) (by decide +kernel)) (fun _ _ _ _ _ => pg_name (i := 2) sc_targets.nd rfl (.inl rfl)) (fun _ _ _ _ _ => pts_nil) (fun _ _ _ _ _ => pe_fld (pv 2) rfl) (fun _ _ _ _ _ => pe_fld (pv 2) rfl)) (pss_cons (ps_set (i := 4) sc_targets.nd rfl (.inl rfl) (pe_lst pa_nil)) (pss_cons (ps_for PassesOwn.never rfl (pi_list (pv 1)) (pg_name (i := 2) sc_targets.nd rfl (.inl rfl))
      (pss_one (ps_if (pt_cmpR op_in_seq (pe_fld (pv 2) rfl) (pe_tup (pa_cons pe_str (pa_cons pe_str pa_nil))) rfl)
           (pss_one (ps_expr (pe_bm PySem.F.plainAttrs_list PySem.F.slot_list_append PySem.F.type_list_append mt_append (pv 4) (pa_cons (pe_tup (pa_cons (pe_fld (pv 2) rfl) (pa_cons (pe_go (E := fun _ _ _ => False) (GL rows m) hr1 pass0 rfl (pa_cons (pv 3) (pa_cons (pe_fld (pv 2) rfl) (pa_cons (pe_ix ix_tup (pe_fld (pv 2) rfl) pe_int fun _ _ => rfl) pa_nil)))) pa_nil))) pa_nil))))
           (pss_one (ps_if (pt_cmpR op_eq (pe_fld (pv 2) rfl) pe_str rfl)
                (pss_one (ps_expr (pe_bm PySem.F.plainAttrs_list PySem.F.slot_list_append PySem.F.type_list_append mt_append (pv 4) (pa_cons (pe_tup (pa_cons (pe_fld (pv 2) rfl) (pa_cons (pe_slice sl_tupA (pe_fld (pv 2) rfl) po_none (po_some pe_int)) pa_nil))) pa_nil))))
                (pss_one (ps_if (pt_cmpR op_eq (pe_fld (pv 2) rfl) pe_str rfl)
                     (pss_one (ps_expr (pe_bm PySem.F.plainAttrs_list PySem.F.slot_list_append PySem.F.type_list_append mt_append (pv 4) (pa_cons (pe_tup (pa_cons (pe_fld (pv 2) rfl) (pa_cons (pe_go (E := fun _ _ _ => False) (GS rows m) hr1 pass0 rfl (pa_cons (pv 3) (pa_cons (pe_fld (pv 2) rfl) pa_nil))) pa_nil))) pa_nil)))) pss_nil))))))) (pss_one (ps_ret (pv 4))))))), ?_⟩
  bv_omega
  dsimp only [List.map, List.map_cons, List.map_nil, List.length_cons, List.length_nil, Nat.reduceAdd, Nat.reduceSub, List.reduceReplicate, List.cons_append, List.nil_append, List.set]
  refine ⟨_, rfl, v, rows, m, rfl, d, ⟨D0, W0, N0, M0, pr⟩, fun H1 G N τ pa ys sG pl pm st => ?_⟩
  have few := all_len pr
  refine ⟨G, N, τ, pa, ⟨m, [-1]⟩, ys, rfl, pl, by omega, fun H2 N2 τ2 p us le s2 k2 np tp hp nv => ?_⟩
  have sm2 : Same H H2 := fun b o z => by
    have g := sG _ _ z
    have t : τ b = none := by
      cases e : τ b with
      | none => rfl
      | some t =>
        have z2 := (pl.ns.bs.fr b t e).1
        rw [g] at z2
        cases z2
    exact (k2 b o t (pl.ns.bs.sm _ _ g)).1
  have lus := nv.len
  bv_omega
  refine dcp_in ?_
  bv_omega
  refine ⟨_, rfl, p, rfl, ⟨_, .inl (.inl hp)⟩, ?_⟩
  have nsx : ∀ {Hx : Hp}, Same H2 Hx → Nds K C G N2 τ2 Hx := fun s => s2.same (sm := s)
  have lk0 : ∀ {i : Nat} {x : V}, us[i]? = some x → i < 3000 := fun h => by
    have := (List.getElem?_eq_some_iff.mp h).1
    omega
  refine dcp_list (K := K) (a := p) (xs := us) (fun D i H' => Same H2 H' ∧ ∃ kvs : List (List Key × V), H' D = some (.dT kvs) ∧ kvs.length ≤ i ∧ ∀ j nd, j < i → (allNs (bdsOf rows 0) ⟨m, [-1]⟩)[j]? = some nd → valV kvs (keyP nd.p) = some (.str (word nd.t))) (fun D nD => ⟨same_new nD, [], upd_same, Nat.le_refl _, fun j nd lj => absurd lj (Nat.not_lt_zero _)⟩) (fun D nD i H' li s => .inl (.inl (s.1 _ _ hp))) ?hs ?hd
  case hs =>
    rintro D nD i x H3 hx ⟨s3, kvs, hD, lk, tab⟩
    have l3 := lk0 hx
    obtain ⟨nd, en, hv⟩ := nvs_at nv hx
    obtain ⟨anc, t⟩ := all_in (List.mem_of_getElem? en)
    bv_omega
    refine ⟨rfl, ?_⟩
    unfold tYes
    dsimp only
    rw [if_pos rfl]
    refine ⟨_, rfl, ?_⟩
    apply n_path Z (nsx s3) hv
    intro pp hpp
    refine ⟨_, rfl, ?_⟩
    apply n_word Z (nsx s3) hv
    refine ⟨_, DPut.t (k := keyP nd.p) hD (by rw [keyP_kV]; exact hpp) ?_, Ck.Same.up s3 nD, _, upd_same, ?_, fun j nd' lj ej => ?_⟩
    · rw [sizeLine_eq]
      omega
    · have := length_putK kvs (keyP nd.p) (.str (word nd.t))
      omega
    · rw [valV_put]
      by_cases c : keyP nd'.p = keyP nd.p
      · rw [if_pos c]
        obtain ⟨a', t'⟩ := all_in (List.mem_of_getElem? ej)
        obtain ⟨rfl, _⟩ := t.one t' (keyP_inj c)
        rfl
      · rw [if_neg c]
        refine tab j nd' ?_ ej
        rcases Nat.lt_or_ge j i with h | h
        · exact h
        · have e : j = i := by omega
          subst e
          rw [en] at ej
          cases ej
          exact absurd rfl c
  case hd =>
    rintro D nD H3 ⟨s3, kvs, hD, lk, tab⟩
    have wd : Wds rows m kvs := fun nd anc t => by
      obtain ⟨j, ej⟩ := List.getElem?_of_mem (in_all t)
      exact tab j nd (by rw [lus]; exact (List.getElem?_eq_some_iff.mp ej).1) ej
    refine ⟨sl (Nat.zero_le _), fun fl nfl => ?_⟩
    have s34 := same_new (o := .lst []) nfl
    have hfl : upd H3 fl (.lst []) fl = some (.lst []) := upd_same
    generalize upd H3 fl (.lst []) = H4 at s34 hfl ⊢
    refine loop_in ?_
    bv_omega
    refine ⟨_, rfl, p, rfl, ⟨_, .inl (.inl ((s3.trans s34) _ _ hp))⟩, ?_⟩
    refine loop_list (K := K) (a := p) (xs := us) (fun i σ H' => ∃ v2, σ = [some v, some (.ref p), v2, some (.ref D), some (.ref fl)] ∧ Same H3 H' ∧ ∃ es ts, H' fl = some (.lst es) ∧ es.length ≤ i ∧ Dats K H' es ts ∧ Lds rows m ((allNs (bdsOf rows 0) ⟨m, [-1]⟩).take i) ts) ⟨none, rfl, s34, [], [], hfl, Nat.le_refl _, .nil, .nil⟩ (fun i σ H' li h => ?_) ?hs2 ?hd2
    · obtain ⟨_, _, s, _⟩ := h
      exact .inl (.inl ((s3.trans s) _ _ hp))
    case hs2 =>
      rintro i x σ H5 hx ⟨v2, rfl, s5, es, ts, h5, le5, d5, lds⟩
      have l3 := lk0 hx
      obtain ⟨nd, en, hv⟩ := nvs_at nv hx
      obtain ⟨anc, t⟩ := all_in (List.mem_of_getElem? en)
      have s25 := s3.trans s5
      have tk : (allNs (bdsOf rows 0) ⟨m, [-1]⟩).take (i + 1) = (allNs (bdsOf rows 0) ⟨m, [-1]⟩).take i ++ [nd] := by rw [List.take_add_one, en, Option.toList_some]
      have short := t.short pr
      have hp1 := ht_pos nd.t
      have tl := t.len
      -- one entry more
      have more : ∀ {H6 : Hp} {e : V} {o : Option (List Int)}, Same H5 H6 → tgt nd anc = some o → Dat K H6 e (entT nd.p o) → ∃ l xs y, V.ref fl = .ref l ∧ [e] = [y] ∧ H6 l = some (.lst xs) ∧ xs.length < sizeLine ∧ ∃ v2, [some v, some (.ref p), some x, some (.ref D), some (.ref fl)] = [some v, some (.ref p), v2, some (.ref D), some (.ref fl)] ∧ Same H3 (upd H6 l (.lst (xs ++ [y]))) ∧ ∃ es ts, upd H6 l (.lst (xs ++ [y])) fl = some (.lst es) ∧ es.length ≤ i + 1 ∧ Dats K (upd H6 l (.lst (xs ++ [y]))) es ts ∧ Lds rows m ((allNs (bdsOf rows 0) ⟨m, [-1]⟩).take (i + 1)) ts := fun {H6 e o} s6 et de => by
        have h6 := s6 _ _ h5
        refine ⟨fl, es, e, rfl, rfl, h6, by rw [sizeLine_eq]; omega, _, rfl, Ck.Same.up (s5.trans s6) nfl, es ++ [e], ts ++ ([entT nd.p o] ++ []), upd_same, by rw [List.length_append]; show es.length + 1 ≤ i + 1; omega, ?_, ?_⟩
        · exact ((d5.up (same_stay s6)).app (.cons de .nil)).up (stay_lst h6)
        · rw [tk]
          have z : entsOf nd anc = [entT nd.p o] := by
            unfold entsOf
            rw [et]
          rw [← z]
          exact lds.app (.cons t .nil)
      bv_omega
      refine ⟨_, rfl, ?_⟩
      apply n_word Z (nsx s25) hv
      refine ⟨sl (Nat.le_of_ble_eq_true rfl), fun p6 n6 => ⟨p6, _, rfl, .inr (sqt upd_same), rfl, flat_strs ["break", "next"], _, rfl, ?_⟩⟩
      have s56 := same_new (o := .tup [V.str "break", V.str "next"]) n6
      show if (inV (.str (word nd.t)) (([("break" : Str), "next"]).map V.str)) = true then _ else _
      rw [inV_str]
      generalize upd H5 p6 (.tup [V.str "break", V.str "next"]) = H6 at s56 ⊢
      have s26 := s25.trans s56
      have hD6 := s56 _ _ (s5 _ _ hD)
      have h6 := s56 _ _ h5
      by_cases c1 : word nd.t = "break" ∨ word nd.t = "next"
      · refine if_yes (decide_eq_true (by rcases c1 with e | e <;> (rw [e]; decide))) ?_
        bv_omega
        refine ⟨_, rfl, .inl ⟨rfl, _, .inl (.inl h6)⟩, _, rfl, ?_⟩
        apply n_path Z (nsx s26) hv
        intro q1 hq1
        refine ⟨_, rfl, _, rfl, ?_⟩
        apply n_path Z (nsx s26) hv
        intro q2 hq2
        refine ⟨_, rfl, ?_⟩
        apply n_tree Z (nsx s26) hv
        intro tv dt
        obtain ⟨kn, bi, lv, ok, up⟩ := t.okt pr
        obtain ⟨n0, en0, n1, n2, nm⟩ : ∃ n0 : Nat, enc nd.t = .tup [.str (word nd.t), .int ((n0 : Nat) : Int)] ∧ 1 ≤ n0 ∧ n0 ≤ lv ∧ (num nd.t).toNat = n0 := by
          have key : ∀ {t : Tr}, Okt D0 W0 N0 M0 kn bi lv t → (word t = "break" ∨ word t = "next") → ∃ n0 : Nat, enc t = .tup [.str (word t), .int ((n0 : Nat) : Int)] ∧ 1 ≤ n0 ∧ n0 ≤ lv ∧ (num t).toNat = n0 := by
            intro t o cw
            have no : ∀ {w' : Str} {p : Prop}, word t = w' → w' ≠ "break" → w' ≠ "next" → p := fun e n1 n2 => by
              rcases cw with c | c
              · exact absurd (e.symm.trans c) n1
              · exact absurd (e.symm.trans c) n2
            cases o with
            | @jump _ _ w' k e a b =>
              obtain ⟨n, rfl⟩ := Int.eq_ofNat_of_zero_le (show 0 ≤ k by omega)
              exact ⟨n, rfl, by omega, by omega, rfl⟩
            | var e _ => rcases e with rfl | rfl | rfl <;> exact no rfl (by dsimp only [word]; decide) (by dsimp only [word]; decide)
            | andor e _ _ => rcases e with rfl | rfl <;> exact no rfl (by dsimp only [word]; decide) (by dsimp only [word]; decide)
            | whl e _ _ => rcases e with rfl | rfl <;> exact no rfl (by dsimp only [word]; decide) (by dsimp only [word]; decide)
            | _ => exact no rfl (by dsimp only [word]; decide) (by dsimp only [word]; decide)
          exact key ok c1
        rw [en0] at dt
        obtain ⟨ta, txs, rfl, hta, dts⟩ := dat_tup dt
        obtain ⟨y0, u0, rfl, dy0, dts⟩ := dats_cons dts
        obtain ⟨y1, u1, rfl, dy1, dts⟩ := dats_cons dts
        obtain rfl := dats_nil dts
        cases dat_int dy1
        obtain ⟨R, eR⟩ := up n0 n2
        refine ⟨ta, _, _, _, rfl, rfl, sqt hta, atI_nat (j := 1) rfl, ?_⟩
        refine ⟨D, q2, kvs, nd, anc, n0, R, rfl, hD6, wd, t, hq2, eR, fun H7 q3 s7 hq3 => ?_⟩
        refine ⟨sl (Nat.le_of_ble_eq_true rfl), fun q4 n4 => ?_⟩
        have s8 := same_new (o := .tup [V.ref q1, V.ref q3]) n4
        have et : tgt nd anc = some (some R) := by
          unfold tgt
          rw [if_pos c1, nm, eR]
        exact more (s56.trans (s7.trans s8)) et (Dats.tup (.cons (path_dat (s8 _ _ (s7 _ _ hq1))) (.cons (path_dat (s8 _ _ hq3)) .nil)) upd_same)
      · refine if_no (decide_eq_false fun z => c1 ?_) ?_
        · rcases List.mem_cons.mp z with z | z
          · exact .inl z
          · exact .inr (List.mem_singleton.mp z)
        bv_omega
        refine ⟨_, rfl, ?_⟩
        apply n_word Z (nsx s26) hv
        by_cases c2 : word nd.t = "return"
        · refine ⟨rfl, _, rfl, if_yes (decide_eq_true (congrArg V.str c2)) ?_⟩
          bv_omega
          refine ⟨_, rfl, .inl ⟨rfl, _, .inl (.inl h6)⟩, _, rfl, ?_⟩
          apply n_path Z (nsx s26) hv
          intro q1 hq1
          refine ⟨_, rfl, ?_⟩
          apply n_path Z (nsx s26) hv
          intro q2 hq2
          refine ⟨1, rfl, cut_use (k := 1) hq2 fun H7 q3 s7 hq3 => ?_⟩
          refine ⟨sl (Nat.le_of_ble_eq_true rfl), fun q4 n4 => ?_⟩
          have s8 := same_new (o := .tup [V.ref q1, V.ref q3]) n4
          have et : tgt nd anc = some (some (nd.p.take 1)) := by
            unfold tgt
            rw [if_neg c1, if_pos c2]
          rw [← List.map_take] at hq3
          exact more (s56.trans (s7.trans s8)) et (Dats.tup (.cons (path_dat (s8 _ _ (s7 _ _ hq1))) (.cons (path_dat (s8 _ _ hq3)) .nil)) upd_same)
        · refine ⟨rfl, _, rfl, if_no (decide_eq_false fun z => c2 (V.str.inj z)) ?_⟩
          bv_omega
          refine ⟨_, rfl, ?_⟩
          apply n_word Z (nsx s26) hv
          by_cases c3 : word nd.t = "exit"
          · refine ⟨rfl, _, rfl, if_yes (decide_eq_true (congrArg V.str c3)) ?_⟩
            bv_omega
            refine ⟨_, rfl, .inl ⟨rfl, _, .inl (.inl h6)⟩, _, rfl, ?_⟩
            apply n_path Z (nsx s26) hv
            intro q1 hq1
            refine ⟨_, rfl, _, rfl, ?_⟩
            apply n_path Z (nsx s26) hv
            intro q2 hq2
            refine ⟨D, q2, kvs, nd, anc, rfl, hD6, wd, t, by omega, hq2, fun H7 v7 s7 hv7 => ?_⟩
            refine ⟨sl (Nat.le_of_ble_eq_true rfl), fun q4 n4 => ?_⟩
            have s8 := same_new (o := .tup [V.ref q1, v7]) n4
            have et : tgt nd anc = some (shellUp nd.p anc) := by
              unfold tgt
              rw [if_neg c1, if_neg c2, if_pos c3]
            exact more (s56.trans (s7.trans s8)) et (Dats.tup (.cons (path_dat (s8 _ _ (s7 _ _ hq1))) (.cons ((optV_dat hv7).up (same_stay s8)) .nil)) upd_same)
          · refine ⟨rfl, _, rfl, if_no (decide_eq_false fun z => c3 (V.str.inj z)) ?_⟩
            refine ⟨_, rfl, s5.trans s56, es, ts, h6, by omega, d5.up (same_stay s56), ?_⟩
            rw [tk]
            have z : entsOf nd anc = [] := by
              unfold entsOf tgt
              rw [if_neg c1, if_neg c2, if_neg c3]
            have y := lds.app (.cons t .nil)
            rw [z, List.append_nil, List.append_nil] at y
            exact y
    case hd2 =>
      rintro σ H5 ⟨v2, rfl, s5, es, ts, h5, le5, d5, lds⟩
      rw [lus, List.take_length] at lds
      bv_omega
      have nf : H fl = none := by
        cases e : H fl with
        | none => rfl
        | some o =>
          have z := s3 _ _ (sm2 _ _ e)
          rw [nfl] at z
          cases z
      exact ⟨_, rfl, q H5 fl es ts (sm2.trans (s3.trans s5)) nf h5 d5 lds⟩
end
end Wk

namespace Ck
open PySem PySem.Spec PyProof.Rows L2
local macro_rules | `(tactic| bv_omega) => `(tactic| try dsimp only [L2.tRet, L2.tRetN, tAndV, tOrV, tNotV, tCB, L2.tCons, L2.tNil, tC, tVar, L2.tOp, L2.tUn, tSeq, tAsg, gName, tIfS, tTest, tNext, tAnd, tOr, tNot, L2.tIf, tFld, sFld, sFldAug, tCall, tTup, tB, tAug, tDrop, L2.tSl, tPart, tNoPart, tBM, tBM0, tChain, gTup, gCons, gNil, tPar, tIs, List.set, L2.start, iTup, L2.iList, L2.iRng1, tUn, tLst, tTest, gSub, tCall, L2.tIf, tCB, rRep, List.set, List.cons_append, List.nil_append, cxOf])
/-- what the builtins' names hold here -/
structure Mg (mg : Str → Option Value) : Prop where
  mi : mg "isinstance" = none
  mt : mg "tuple" = none
  ms : mg "sum" = none
  mx : mg "max" = none
  mr : mg "range" = none
  ml : mg "len" = none
  ls : mg "list" = none
  so : mg "sorted" = none
  se : mg "set" = none
section
variable {X : Cx} {P : Program} {w : World} {K : PySem.W.Frag} {mg : Str → Option Value} {base : Heap} {H H1 H2 : Hp} {l : Addr}
abbrev sWei : Stmt := topS 66
abbrev NWe : List Str := ["_law_tree", "_law_sizes", "_law_parts", "_law_inner", "_law_part"]
abbrev PWe : List Str := ["_law_tree", "_law_sizes"]
theorem scWe : FnScope NWe PWe (defScope sWei) := ⟨rfl, rfl, rfl, by decide +kernel, rfl, by decide +kernel, by decide +kernel⟩
def spWei (K : PySem.W.Frag) : Nat → Sp
  | 0 => fun _ _ _ _ => False
  | h + 1 => fun vs H Q _ => ∃ v sd tr fs, vs = [v, .ref sd] ∧ Dat K H v (enc tr) ∧ ht tr ≤ h + 1 ∧ Any (fs.map (·.1)) tr ∧ NN fs ∧ H sd = some (.dK (ftab fs)) ∧ ∀ H', Same H H' → Q (.int (wei fs tr)) H'
abbrev GWe (P : Program) (w : World) (K : PySem.W.Frag) (mg : Str → Option Value) (base : Heap) (h : Nat) : Prop := Go P w K mg base CX0 (1 + h) "_law_weight" PWe (spWei K h)
theorem ok_wei0 {f : Addr} {fd : FuncData} (F : Fun K "_law_weight" "_law_weight" sWei f fd) : FnOk P w K mg base CX0 1 f fd PWe (spWei K 0) :=
  F.ok scWe (fun vs H Q E h => h.elim) (fun cdv A outer s H vs Q E hr h => h.elim)
/-- the weight of one part -/
def tWei (sd : Addr) (fs : List (Str × Int)) (h : Nat) (K : PySem.W.Frag) : TE := fun σ H Q => ∃ v k, σ[4]? = some (some v) ∧ σ[1]? = some (some (.ref sd)) ∧ Dat K H v (enc k) ∧ 1 ≤ h ∧ ht k ≤ h ∧ Any (fs.map (·.1)) k ∧ NN fs ∧ H sd = some (.dK (ftab fs)) ∧ ∀ H', Same H H' → Q (.int (wei fs k)) H'
theorem tWei_is {sd : Addr} {fs : List (Str × Int)} {h : Nat} {E : XK} (σ : L2.St) (H : Hp) (Q : VK) (z : tWei sd fs h K σ H Q) : tCall (spWei K h) [] E (tCons (tVar 4) (tCons (tVar 1) tNil)) σ H Q := by
  obtain ⟨v, k, s4, s1, d, h1, hk, ak, nn, hd, q⟩ := z
  cases h with
  | zero => omega
  | succ h =>
    bv_omega
    exact ⟨_, s4, _, s1, v, sd, k, fs, rfl, d, hk, ak, nn, hd, q⟩
theorem fst_at {is : Its} {i : Nat} {t : T} (h : (is.map (·.1))[i]? = some t) : ∃ o, is[i]? = some (t, o) := by
  rw [List.getElem?_map] at h
  cases e : is[i]? with
  | none => rw [e] at h; cases h
  | some p =>
    rw [e] at h
    obtain ⟨a, o⟩ := p
    cases h
    exact ⟨o, rfl⟩
theorem take_kids {is : Its} {i : Nat} {t : T} {o : Option Tr} (h : is[i]? = some (t, o)) : kidsOf (is.take (i + 1)) = kidsOf (is.take i) ++ o.toList := by
  rw [List.take_add_one, h, kids_app]
  cases o <;> rfl
theorem weis_sum (fs : List (Str × Int)) : ∀ ks : List Tr, (ks.map (wei fs)).sum = weis fs ks
  | [] => rfl
  | k :: ks => by
    rw [List.map_cons, List.sum_cons, weis_sum fs ks]
    rfl
theorem kid_in {is : Its} {i : Nat} {t : T} {k : Tr} (h : is[i]? = some (t, some k)) : k ∈ kidsOf is := List.mem_filterMap.mpr ⟨_, List.mem_of_getElem? h, rfl⟩
/-- the list of the weights of all parts -/
theorem lc_wei {p sd : Addr} {xs : List V} {is : Its} {fs : List (Str × Int)} {h : Nat} {v0 v3 : Option V} {Q : VK} (r : Right is) (dx : Dats K H xs (is.map (·.1))) (hx : SqT K H p xs) (hk : ∀ k ∈ kidsOf is, 1 ≤ h ∧ ht k ≤ h ∧ Any (fs.map (·.1)) k) (nn : NN fs) (hd : H sd = some (.dK (ftab fs))) (few : xs.length ≤ 100000)
    (q : ∀ D H', Same H H' → H' D = some (.lst (((kidsOf is).map (wei fs)).map V.int)) → Q (.ref D) H') :
    tLcL (gName 4) (tTest (tIs K "tuple" (tVar 4))) (tWei sd fs h K) [4] [v0, some (.ref sd), some (.ref p), v3, none] Q (Itt K p) H := by
  refine lcl_tup (K := K) (a := p) (xs := xs) (fun D i H' => Same H H' ∧ H' D = some (.lst (((kidsOf (is.take i)).map (wei fs)).map V.int))) (fun D nD => ⟨same_new nD, upd_same⟩) (fun D nD i H' li s => ?_) ?hs ?hd
  · exact sqt_up hx s.1
  case hs =>
    rintro D nD i x H2 hxi ⟨s2, h2⟩
    obtain ⟨t, et, dt⟩ := dats_at dx hxi
    obtain ⟨o, eo⟩ := fst_at et
    bv_omega
    refine ⟨rfl, ?_⟩
    have dt2 := dt.up (same_stay s2)
    rcases r _ (List.mem_of_getElem? eo) with ⟨e1, e2⟩ | ⟨k, e1, e2⟩
    · dsimp only at e1 e2
      subst e1
      refine ⟨_, rfl, is_tup dt2.im ⟨_, rfl, ?_⟩⟩
      rw [isTu_atom e2]
      refine if_no rfl ⟨s2, ?_⟩
      rw [take_kids eo, Option.toList_none, List.append_nil]
      exact h2
    · dsimp only at e1 e2
      subst e1 e2
      refine ⟨_, rfl, is_tup dt2.im ⟨_, rfl, ?_⟩⟩
      rw [isTu_enc]
      refine if_yes rfl ?_
      obtain ⟨h1, h3, h4⟩ := hk k (kid_in eo)
      refine ⟨x, k, rfl, rfl, dt2, h1, h3, h4, nn, s2 _ _ hd, fun H3 s3 => ?_⟩
      refine ⟨_, s3 _ _ h2, ?_, Ck.Same.up (s2.trans s3) nD, ?_⟩
      · rw [List.length_map, List.length_map]
        have l1 : (kidsOf (is.take i)).length ≤ (is.take i).length := List.length_filterMap_le _ _
        have l2 : (is.take i).length ≤ is.length := by rw [List.length_take]; omega
        have l3 := dx.len
        rw [List.length_map] at l3
        rw [sizeLine_eq]
        omega
      · rw [upd_same, take_kids eo, Option.toList_some, List.map_append, List.map_append]
        rfl
  case hd =>
    rintro D nD H2 ⟨s2, h2⟩
    have l3 := dx.len
    rw [List.length_map] at l3
    rw [l3, List.take_length] at h2
    exact q D H2 s2 h2
end
end Ck

namespace Ck
open PySem PySem.Spec PyProof.Rows L2
local macro_rules | `(tactic| bv_omega) => `(tactic| try dsimp only [L2.tRet, L2.tRetN, tAndV, tOrV, tNotV, tCB, L2.tCons, L2.tNil, tC, tVar, L2.tOp, L2.tUn, tSeq, tAsg, gName, tIfS, tTest, tNext, tAnd, tOr, tNot, L2.tIf, tFld, sFld, sFldAug, tCall, tTup, tB, tAug, tDrop, L2.tSl, tPart, tNoPart, tBM, tBM0, tChain, gTup, gCons, gNil, tPar, tIs, List.set, L2.start, iTup, L2.iList, L2.iRng1, tUn, tLst, tTest, gSub, tCall, L2.tIf, tCB, rRep, List.set, List.cons_append, List.nil_append, cxOf])
section
variable {X : Cx} {P : Program} {w : World} {K : PySem.W.Frag} {mg : Str → Option Value} {base : Heap} {H H1 H2 : Hp} {l : Addr} {dR dS : Addr} {adr : Kind → Addr}
theorem cut_one {xs : List V} {x : V} : cutV (x :: xs) (some 1) none = xs := by
  unfold cutV
  have e : HT.sIx (x :: xs).length 0 (some (1 : Int)) = 1 := by
    show (if (1 : Int) < 0 then ((1 : Int) + ((xs.length + 1 : Nat) : Int)).toNat else min (1 : Int).toNat (xs.length + 1)) = 1
    rw [if_neg (by omega)]
    show min 1 (xs.length + 1) = 1
    omega
  rw [e]
  show (xs.take (xs.length + 1 - 1)) = xs
  rw [Nat.add_sub_cancel, List.take_length]
/-- the entries of a tree that is a tuple, from its word on -/
theorem ok_weiS {f : Addr} {fd : FuncData} {h : Nat} (F : Fun K "_law_weight" "_law_weight" sWei f fd) (M : Mg mg) (G : GWe P w K mg base h) : FnOk P w K mg base CX0 (1 + (h + 1)) f fd PWe (spWei K (h + 1)) := by
  refine F.ok scWe (fun vs H Q E h => ?_) (fun cdv A outer s H vs Q E hr hh => ?_)
  · obtain ⟨_, _, _, _, rfl, _⟩ := h
    rfl
  obtain ⟨v, sd, tr, fs, rfl, d, hb, an, nn, hd, q⟩ := hh
  have hu := hu_of hr
  refine ⟨_, (pss_cons (ps_set (i := 2) scWe.nd rfl (.inl rfl) (pe_ifExp (pt_cmpR op_in_seq (pe_ix ix_tup (pv 0) pe_int fun _ _ => rfl) (pe_tup (pa_cons pe_str (pa_cons pe_str pa_nil))) rfl) (pe_ix ix_tup (pv 0) pe_int fun _ _ => rfl) (pe_slice sl_tup (pv 0) (po_some pe_int) po_none))) (pss_cons (ps_set (i := 3) scWe.nd rfl (.inl rfl) (pe_callB (cr_sum rfl) rfl M.ms (by decide +kernel) (pa_cons (pe_lc (te := tWei sd fs h K) (own := [("_law_part", 4)]) (g := gName 4) (tt := tTest (tIs K "tuple" (tVar 4))) rfl scWe.nd (pi_tup (pv 2)) (blkOk_by (N := NWe) (sc := defScope sWei) (by decide +kernel)) (fun _ _ _ _ _ => pg_name (i := 4) scWe.nd rfl (.inl rfl)) (fun _ _ _ _ _ => pts_one (pt_val (pe_is (n := "tuple") M.mi M.mt (by decide +kernel) rfl rfl (pv 4))))
      (fun _ _ _ _ _ => pe_imp (pe_go (E := fun _ _ _ => False) G hr pass0 rfl (pa_cons (pv 4) (pa_cons (pv 1) pa_nil))) tWei_is)) pa_nil))) (pss_cons (ps_if (pt_cmpR op_eq (pe_ix ix_tup (pv 0) pe_int fun _ _ => rfl) pe_str rfl) (pss_one (ps_ret (pe_op op_add pe_int (pe_op op_mul (pe_callB (call_max2 rfl) rfl M.mx (by decide +kernel) (pa_cons pe_int (pa_cons (pe_ix ix_tup (pv 0) pe_int fun _ _ => rfl) pa_nil))) (pv 3))))) pss_nil) (pss_one (ps_ret (pe_op op_add (pe_op op_add pe_int (pv 3)) (pe_ifExp (pt_cmpR op_eq (pe_ix ix_tup (pv 0) pe_int fun _ _ => rfl) pe_str rfl) (pe_dget hu (pv 1) (pe_ix ix_tup (pv 0) pe_int fun _ _ => rfl) fun _ _ => rfl) pe_int))))))), ?_⟩
  obtain ⟨b, w, pre, ks, post⟩ := tr
  obtain ⟨l1, l2, l3, l4, l5, l6, l7, l8⟩ := an.look
  obtain ⟨a, xs, rfl, ha, hT, hF⟩ := enc_in (fun e => by rcases l4 with ⟨_, _, z, y⟩ | ⟨z, _⟩; exact ⟨z, y⟩; rw [e] at z; cases z) d
  bv_omega
  refine ⟨_, rfl, a, _, _, _, rfl, rfl, sqt ha, atI_nat (j := 0) rfl, sl (by show 2 ≤ 1000000; decide), fun p np => in_two upd_same ⟨_, rfl, ?_⟩⟩
  have s1 := same_new (o := .tup [V.str "seq", V.str "pipe"]) np
  have hk : ∀ k ∈ ks, 1 ≤ h ∧ ht k ≤ h ∧ Any (fs.map (·.1)) k := fun k m => ⟨Nat.le_trans (ht_pos k) (ht_kid hb m), ht_kid hb m, l1 k m⟩
  rcases l4 with ⟨rfl, wsp, rfl, rfl⟩ | ⟨rfl, nw1, nw2⟩
  · obtain ⟨p2, ys, rfl, hp2, dy⟩ := hT rfl
    refine if_yes (decide_eq_true wsp) ?_
    bv_omega
    refine ⟨_, rfl, a, _, _, _, rfl, rfl, sqt (s1 _ _ ha), atI_nat (j := 1) rfl, ?_⟩
    refine lc_in ?_
    bv_omega
    refine ⟨_, rfl, p2, rfl, ⟨_, sqt (s1 _ _ hp2)⟩, lc_wei (is := parted ks) (right_parted ks) (dy.up (same_stay s1)) (sqt (s1 _ _ hp2)) (by rw [kids_parted]; exact hk) nn (s1 _ _ hd) (by have := dy.len; rw [List.length_map] at this; unfold parted at this; rw [List.length_map] at this; omega) fun D H4 s4 h2 => ?_⟩
    replace s4 := s1.trans s4
    refine ⟨D, (kidsOf (parted ks)).map (wei fs), rfl, .inl (.inl h2), ?_⟩
    rw [weis_sum, kids_parted]
    bv_omega
    have e : wei fs (.mk true w [] ks []) = 1 + weis fs ks + 0 := by rcases wsp with rfl | rfl <;> rfl
    have qq := q H4 s4
    rw [e] at qq
    refine ⟨_, rfl, a, _, _, _, rfl, rfl, sqt (s4 _ _ ha), atI_nat (j := 0) rfl, rfl, _, rfl, if_no (decide_eq_false fun e => ?_) ?_⟩
    · have e := V.str.inj e
      rcases wsp with rfl | rfl <;> exact absurd e (by decide)
    bv_omega
    refine ⟨_, rfl, _, _, rfl, rfl, _, rfl, a, _, _, _, rfl, rfl, sqt (s4 _ _ ha), atI_nat (j := 0) rfl, rfl, _, rfl, if_no (decide_eq_false fun e => ?_) ?_⟩
    · have e := V.str.inj e
      rcases wsp with rfl | rfl <;> exact absurd e (by decide)
    exact ⟨_, _, rfl, rfl, qq⟩
  · have dxs := hF rfl
    refine if_no (decide_eq_false (by rintro (e | e); exact nw1 e; exact nw2 e)) ?_
    bv_omega
    have ne : ¬ (HT.sIx (V.str w :: xs).length 0 (some (1 : Int)) = 0 ∧ HT.sIx (V.str w :: xs).length (V.str w :: xs).length none = (V.str w :: xs).length) := by
      rintro ⟨z, _⟩
      have y : HT.sIx (V.str w :: xs).length 0 (some (1 : Int)) = 1 := by
        show (if (1 : Int) < 0 then ((1 : Int) + ((xs.length + 1 : Nat) : Int)).toNat else min (1 : Int).toNat (xs.length + 1)) = 1
        rw [if_neg (by omega)]
        show min 1 (xs.length + 1) = 1
        omega
      rw [y] at z
      cases z
    refine ⟨_, rfl, 1, rfl, a, _, rfl, sqt (s1 _ _ ha), ne, fun p2 np2 => ?_⟩
    rw [cut_one]
    have s2 := s1.trans (same_new (o := .tup xs) np2)
    have hk2 : ∀ k ∈ kidsOf (plain pre ++ (parted ks ++ plain post)), 1 ≤ h ∧ ht k ≤ h ∧ Any (fs.map (·.1)) k := by
      rw [kids_app, kids_app, kids_plain, kids_plain, kids_parted, List.nil_append, List.append_nil]
      exact hk
    have lx := dxs.len
    refine lc_in ?_
    bv_omega
    refine ⟨_, rfl, p2, rfl, ⟨_, sqt upd_same⟩, lc_wei (is := plain pre ++ (parted ks ++ plain post)) ((right_plain l2).app ((right_parted ks).app (right_plain l3))) (dxs.up (same_stay s2)) (sqt upd_same) hk2 nn (s2 _ _ hd) ?few fun D H4 s4 h2 => ?_⟩
    case few =>
      rw [lx, List.length_map, List.length_append, List.length_append]
      unfold plain parted
      rw [List.length_map, List.length_map, List.length_map]
      omega
    replace s4 := s2.trans s4
    refine ⟨D, (kidsOf (plain pre ++ (parted ks ++ plain post))).map (wei fs), rfl, .inl (.inl h2), ?_⟩
    rw [weis_sum, kids_app, kids_app, kids_plain, kids_plain, kids_parted, List.nil_append, List.append_nil]
    bv_omega
    refine ⟨_, rfl, a, _, _, _, rfl, rfl, sqt (s4 _ _ ha), atI_nat (j := 0) rfl, rfl, _, rfl, ?_⟩
    have qq := q H4 s4
    by_cases ct : w = "times"
    · subst ct
      obtain ⟨n, rfl, n0, n1, _⟩ := l6 rfl
      obtain ⟨t1, us, rfl, d1, _⟩ := dats_cons dxs
      cases dat_int d1
      refine if_yes (decide_eq_true rfl) ?_
      bv_omega
      refine ⟨_, rfl, a, _, _, _, rfl, rfl, sqt (s4 _ _ ha), atI_nat (j := 1) rfl, ?_⟩
      have em : (if n > 1 then n else 1) = max 1 n := by
        by_cases c : n > 1
        · rw [if_pos c]
          omega
        · rw [if_neg c]
          omega
      have e : wei fs (.mk false "times" [.int n] ks post) = 1 + max 1 n * weis fs ks := rfl
      rw [e] at qq
      refine ⟨_, _, rfl, _, rfl, _, _, rfl, rfl, mul_left (by rw [em]; omega) (by rw [em]; omega), _, _, rfl, rfl, ?_⟩
      rw [em]
      exact qq
    refine if_no (decide_eq_false fun e => ct (V.str.inj e)) ?_
    bv_omega
    refine ⟨_, rfl, _, _, rfl, rfl, _, rfl, a, _, _, _, rfl, rfl, sqt (s4 _ _ ha), atI_nat (j := 0) rfl, rfl, _, rfl, ?_⟩
    by_cases cc : w = "call"
    · subst cc
      obtain ⟨f, rfl, fm, _, _⟩ := l5 rfl
      obtain ⟨t1, us, rfl, d1, _⟩ := dats_cons dxs
      cases dat_str d1
      refine if_yes (decide_eq_true rfl) ?_
      dsimp only [tDGet]
      bv_omega
      obtain ⟨u, eu, u0⟩ := look_some fm nn
      have g : DGet H4 sd (.str f) (valV (ftab fs) (.inr f)) := DGet.k (k := Sum.inr f) (s4 _ _ hd)
      rw [valV_ftab, eu] at g
      refine ⟨_, rfl, _, rfl, a, _, _, _, rfl, rfl, sqt (s4 _ _ ha), atI_nat (j := 1) rfl, sd, _, rfl, g, _, _, rfl, rfl, ?_⟩
      have e : wei fs (.mk false "call" [.str f] ks post) = 1 + weis fs ks + (fs.lookup f).getD 0 := rfl
      rw [e, eu] at qq
      exact qq
    · refine if_no (decide_eq_false fun e => cc (V.str.inj e)) ?_
      have e : wei fs (.mk false w pre ks post) = 1 + weis fs ks + 0 := by
        show ownW fs w pre (weis fs ks) = _
        unfold ownW
        rw [if_neg ct, if_neg cc]
      rw [e] at qq
      exact ⟨_, _, rfl, rfl, qq⟩
end
end Ck

/-! The parts of a tree. -/
namespace Wk
open PySem PySem.Spec PyProof.Rows L2 Ck
local macro_rules | `(tactic| bv_omega) => `(tactic| try dsimp only [L2.tRet, L2.tRetN, tAndV, tOrV, tNotV, tCB, L2.tCons, L2.tNil, tC, tVar, L2.tOp, L2.tUn, tSeq, tAsg, gName, tIfS, tTest, tNext, tAnd, tOr, tNot, L2.tIf, tFld, sFld, sFldAug, tCall, tTup, tB, tAug, tDrop, L2.tSl, tPart, tNoPart, tBM, tBM0, tChain, gTup, gCons, gNil, tPar, tIs, List.set, L2.start, iTup, L2.iList, L2.iRng1, tUn, tLst, tTest, gSub, tCall, L2.tIf, tCB, rRep, List.set, List.cons_append, List.nil_append, cxOf])
section
variable {P : Program} {w : World} {K : PySem.W.Frag} {mg : Str → Option Value} {base : Heap} {H H' H1 : Hp} {rows : Rows} {m : Tr} {Q : VK}
abbrev sKi : Stmt := topS 69
abbrev NKi : List Str := ["_law_tree", "_law_some", "_law_part"]
theorem scKi : FnScope NKi ["_law_tree"] (defScope sKi) := ⟨rfl, rfl, rfl, by decide +kernel, rfl, by decide +kernel, by decide +kernel⟩
def spKi (K : PySem.W.Frag) : Sp := fun vs H Q _ => ∃ v tr fs, vs = [v] ∧ Dat K H v (enc tr) ∧ Any fs tr ∧ ∀ D H', Same H H' → H D = none → LD K H' D (encs (kids tr)) → Q (.ref D) H'
theorem encs_apps : ∀ a b : List Tr, encs (a ++ b) = encs a ++ encs b
  | [], b => rfl
  | x :: a, b => by
    show enc x :: encs (a ++ b) = enc x :: (encs a ++ encs b)
    rw [encs_apps a b]
theorem lc_kids {p : Addr} {xs : List V} {is : Its} {v0 : Option V} (r : Right is) (dx : Dats K H xs (is.map (·.1))) (hx : SqT K H p xs) (few : xs.length ≤ 100000)
    (q : ∀ D H', Same H H' → H D = none → LD K H' D (encs (kidsOf is)) → Q (.ref D) H') :
    tLcL (gName 2) (tTest (tIs K "tuple" (tVar 2))) (tVar 2) [2] [v0, some (.ref p), none] Q (Itt K p) H := by
  refine lcl_tup (K := K) (a := p) (xs := xs) (fun D i H' => Same H H' ∧ ∃ us, H' D = some (.lst us) ∧ us.length ≤ i ∧ Dats K H' us (encs (kidsOf (is.take i)))) (fun D nD => ⟨same_new nD, [], upd_same, Nat.le_refl _, .nil⟩) (fun D nD i H' li s => ?_) ?hs ?hd
  · exact sqt_up hx s.1
  case hs =>
    rintro D nD i x H2 hxi ⟨s2, us, h2, lu, du⟩
    obtain ⟨t, et, dt⟩ := dats_at dx hxi
    obtain ⟨o, eo⟩ := fst_at et
    have lx : i < xs.length := (List.getElem?_eq_some_iff.mp hxi).1
    bv_omega
    refine ⟨rfl, ?_⟩
    have dt2 := dt.up (same_stay s2)
    rcases r _ (List.mem_of_getElem? eo) with ⟨e1, e2⟩ | ⟨k, e1, e2⟩
    · dsimp only at e1 e2
      subst e1
      refine ⟨_, rfl, is_tup dt2.im ⟨_, rfl, ?_⟩⟩
      rw [isTu_atom e2]
      refine if_no rfl ⟨s2, us, h2, by omega, ?_⟩
      rw [take_kids eo, Option.toList_none, List.append_nil]
      exact du
    · dsimp only at e1 e2
      subst e1 e2
      refine ⟨_, rfl, is_tup dt2.im ⟨_, rfl, ?_⟩⟩
      rw [isTu_enc]
      refine if_yes rfl ?_
      refine ⟨x, rfl, us, h2, by rw [sizeLine_eq]; omega, Ck.Same.up s2 nD, us ++ [x], upd_same, by rw [List.length_append]; show us.length + 1 ≤ i + 1; omega, ?_⟩
      rw [take_kids eo, Option.toList_some, encs_apps]
      exact (du.app (.cons dt2 .nil)).up (stay_lst h2)
  case hd =>
    rintro D nD H2 ⟨s2, us, h2, lu, du⟩
    have l3 := dx.len
    rw [List.length_map] at l3
    rw [l3, List.take_length] at du
    exact q D H2 s2 nD ⟨us, h2, du⟩
theorem Same.none {D : Addr} (s : Same H H1) (n : H1 D = none) : H D = none := by
  cases e : H D with
  | none => rfl
  | some o =>
    rw [s _ _ e] at n
    cases n
theorem ok_kids {f : Addr} {fd : FuncData} (F : Fun K "_law_kids" "_law_kids" sKi f fd) (M : Mg mg) : FnOk P w K mg base CX0 1 f fd ["_law_tree"] (spKi K) := by
  refine F.ok scKi (fun vs H Q E h => ?_) (fun cdv A outer s H vs Q E hr hh => ?_)
  · obtain ⟨_, _, _, rfl, _⟩ := h
    rfl
  obtain ⟨v, tr, fs, rfl, d, an, q⟩ := hh
  refine ⟨_, (pss_cons (ps_set (i := 1) scKi.nd rfl (.inl rfl) (pe_ifExp (pt_cmpR op_in_seq (pe_ix ix_tup (pv 0) pe_int fun _ _ => rfl) (pe_tup (pa_cons pe_str (pa_cons pe_str pa_nil))) rfl) (pe_ix ix_tup (pv 0) pe_int fun _ _ => rfl) (pv 0))) (pss_one (ps_ret (pe_lc (te := tVar 2) (own := [("_law_part", 2)]) (g := gName 2) (tt := tTest (tIs K "tuple" (tVar 2))) rfl scKi.nd (pi_tup (pv 1)) (blkOk_by (N := NKi) (sc := defScope sKi) (by decide +kernel)) (fun _ _ _ _ _ => pg_name (i := 2) scKi.nd rfl (.inl rfl)) (fun _ _ _ _ _ => pts_one (pt_val (pe_is (n := "tuple") M.mi M.mt (by decide +kernel) rfl rfl (pv 2))))
      (fun _ _ _ _ _ => pv 2))))), ?_⟩
  obtain ⟨b, w, pre, ks, post⟩ := tr
  obtain ⟨l1, l2, l3, l4, l5, l6, l7, l8⟩ := an.look
  obtain ⟨a, xs, rfl, ha, hT, hF⟩ := enc_in (fun e => by rcases l4 with ⟨_, _, z, y⟩ | ⟨z, _⟩; exact ⟨z, y⟩; rw [e] at z; cases z) d
  bv_omega
  refine ⟨_, rfl, a, _, _, _, rfl, rfl, sqt ha, atI_nat (j := 0) rfl, sl (by show 2 ≤ 1000000; decide), fun p np => in_two upd_same ⟨_, rfl, ?_⟩⟩
  have s1 := same_new (o := .tup [V.str "seq", V.str "pipe"]) np
  rcases l4 with ⟨rfl, wsp, rfl, rfl⟩ | ⟨rfl, nw1, nw2⟩
  · obtain ⟨p2, ys, rfl, hp2, dy⟩ := hT rfl
    refine if_yes (decide_eq_true wsp) ?_
    bv_omega
    refine ⟨_, rfl, a, _, _, _, rfl, rfl, sqt (s1 _ _ ha), atI_nat (j := 1) rfl, ?_⟩
    refine lc_in ?_
    bv_omega
    have e : encs (kidsOf (parted ks)) = encs (kids (.mk true w [] ks [])) := by rw [kids_parted]; rfl
    exact ⟨_, rfl, p2, rfl, ⟨_, sqt (s1 _ _ hp2)⟩, lc_kids (is := parted ks) (right_parted ks) (dy.up (same_stay s1)) (sqt (s1 _ _ hp2)) (by have := dy.len; rw [List.length_map] at this; unfold parted at this; rw [List.length_map] at this; omega) fun D H4 s4 nD lD => q D H4 (s1.trans s4) (Same.none s1 nD) (e ▸ lD)⟩
  · have dxs := hF rfl
    refine if_no (decide_eq_false (by rintro (e | e); exact nw1 e; exact nw2 e)) ?_
    bv_omega
    refine ⟨_, rfl, ?_⟩
    have lx := dxs.len
    refine lc_in ?_
    bv_omega
    have e : encs (kidsOf (plain (.str w :: pre) ++ (parted ks ++ plain post))) = encs (kids (.mk false w pre ks post)) := by
      rw [kids_app, kids_app, kids_plain, kids_plain, kids_parted, List.nil_append, List.append_nil]
      rfl
    refine ⟨_, rfl, a, rfl, ⟨_, sqt (s1 _ _ ha)⟩, lc_kids (is := plain (.str w :: pre) ++ (parted ks ++ plain post)) ((right_plain ?at1).app ((right_parted ks).app (right_plain l3))) (?dd : Dats K _ _ _) (sqt (s1 _ _ ha)) ?few fun D H4 s4 nD lD => q D H4 (s1.trans s4) (Same.none s1 nD) (e ▸ lD)⟩
    case at1 =>
      intro t m
      rcases List.mem_cons.mp m with rfl | m
      · rfl
      · exact l2 t m
    case dd =>
      have dw : Dat K H (.str w) (.str w) := by
        obtain ⟨_, _, _, _, dd⟩ := dat_tup d
        obtain ⟨y, us, _, dy, _⟩ := dats_cons dd
        obtain rfl := dat_str dy
        exact dy
      exact .cons (dw.up (same_stay s1)) (dxs.up (same_stay s1))
    case few =>
      rw [List.length_cons, lx, List.length_map, List.length_append, List.length_append]
      unfold Ck.plain parted
      rw [List.length_map, List.length_map, List.length_map]
      omega
end
end Wk

/-! A list and another list together. -/
namespace L2
open PySem PySem.Spec PyProof.Rows
def rCatL (K : PySem.W.Frag) : R2 := fun x y H Q => ∃ l b xs zs, x = .ref l ∧ y = .ref b ∧ SqL K H l xs ∧ H b = some (.lst zs) ∧ xs.length + zs.length ≤ sizeLine ∧ ∀ p, H p = none → Q (.ref p) (upd H p (.lst (xs ++ zs)))
theorem op_catL {X : Cx} : OpR X (binaryOp .Add) (rCatL X.K) := by
  intro pins s σ H x y v u Q I rx ry h
  obtain ⟨l, b, xs, zs, rfl, rfl, hl, hb, hz, q⟩ := h
  obtain rfl : v = .ref l := rx
  obtain rfl : u = .ref b := ry
  obtain ⟨as, ra, ⟨⟨c1, d1, da1, sl1⟩, n1, g1, k1, _, e1⟩, _⟩ := I.list hl
  obtain ⟨_, bs, n2, rb, _, g2⟩ := I.lstM hb
  simp only at k1 e1
  subst k1 e1
  have la := ra.length
  have lb := rb.length
  refine concat_meets (T := "list") ⟨_, g1, rfl⟩ ⟨_, g2, rfl⟩ noFill_list_add seq_list_add PySem.F.slot_list_add PySem.F.entry_list_add (PySem.F.args_list_add_2 _ _)
    (list_addW l b as.toArray bs.toArray n1 n2 d1 none sl1 #[] (by rw [List.size_toArray, List.size_toArray]; omega)) ⟨g1, g2, ?_⟩
  have ea : as.toArray ++ bs.toArray = (as ++ bs).toArray := by simp
  rw [ea]
  exact ⟨.ref _, _, I.lnew (t' := s.toks) (ra.append rb) (by rw [List.length_append]; omega), rfl, q _ I.fresh⟩
end L2

/-! enumerate over a tuple. -/
namespace L2
open PySem PySem.Spec PyProof.Rows
theorem meets_enum1 {v : Value} {o : Obj} {H : Heap → Prop} (B : Begins v o H) : Meets (Builtin.«enumerate.__new__» { pos := [Value.type "enumerate", v] }) fun x R s => H s.heap ∧ R (Except.ok (Flow.ret (Value.ref (s.heap.push o).objs.size)))
   { heap := (s.heap.push o).push { cls := Value.type "enumerate", data := Data.fields #[Value.none, Value.bool false, Value.ref s.heap.objs.size, rawInt 0, Value.none, Value.none] }, gens := s.gens, drawn := s.drawn, toks := s.toks, os := s.os } := by
  refine Meets.of_wp fun prog w A R s h => ?_
  obtain ⟨hp, g, d, tk, os⟩ := s
  obtain ⟨h1, h⟩ := h
  have hsub := @sub_enumerate
  unfold Builtin.«enumerate.__new__»
  dsimp only at h1 h ⊢
  refine wpAny_bind ?_
  unfold Builtin.SmallTypes.newClass
  dsimp only
  refine wpAny_bind ?_
  refine wpAny_pure ?_
  refine wpAny_ite_false rfl ?_
  refine wpAny_bind (wpAny_of_eq hsub ?_)
  refine wpAny_ite_false rfl ?_
  refine wpAny_pure ?_
  dsimp only
  refine wpAny_ite_true rfl ?_
  refine wpAny_bind ?_
  unfold Builtin.SmallTypes.calledThroughType
  refine wpAny_bind ?_
  refine wpAny_stack_any fun st => ?_
  refine wpAny_pure ?_
  have fin : wpAny (model prog w) A.in1 (do
          let __do_lift ← pyIter v
          let __do_lift ←
            Builtin.SmallTypes.newRecord (Value.type "enumerate")
                (Builtin.SmallTypes.ownedTupleFields ++ [__do_lift, rawInt 0, Value.none, Value.none])
          ret __do_lift) (fun fin s' => ∃ v, fin = Fin.done (Flow.ret v) ∧ R (Except.ok (Flow.ret v)) s') (fun e s' => R (Except.error e) s') { heap := hp, gens := g, drawn := d, toks := tk, os := os } := by
    refine wpAny_bind ?_
    refine B.iter prog w _ _ _ _ h1 ?_
    refine wpAny_bind ?_
    unfold Builtin.SmallTypes.newRecord
    dsimp only
    unfold newObj
    refine wpAny_ite_false rfl ?_
    refine wpAny_bind ?_
    refine wpAny_alloc' ?_
    refine wpAny_pure ?_
    refine wpAny_pure ?_
    exact ⟨_, rfl, h⟩
  split
  · split
    · exact wpAny_bind (wpAny_of_eq (show _ = pure (v, none) from rfl) fin)
    · exact wpAny_bind (wpAny_of_eq (show _ = pure (v, none) from rfl) fin)
  · exact wpAny_bind (wpAny_of_eq (show _ = pure (v, none) from rfl) fin)

theorem call_enum1 {prog : Program} {w : World} {A : Around} {E : Value → Shared → Prop} {s : Shared} {v : Value} {o : Obj} {H : Heap → Prop} {Q : Value → Shared → Prop} (B : Begins v o H) (h1 : H s.heap)
    (h : ∀ h' : Heap, IsEnum h' (s.heap.objs.size + 1) s.heap.objs.size 0 Value.none → h'.get? s.heap.objs.size = some o → h'.objs.size = s.heap.objs.size + 2 → (∀ (b : Addr) (o : Obj), s.heap.get? b = some o → h'.get? b = some o) → Q (Value.ref (s.heap.objs.size + 1)) { heap := h', gens := s.gens, drawn := s.drawn, toks := s.toks, os := s.os }) :
    wpAny (model prog w) A (call (Value.type "enumerate") [v]) Q E s := by
  refine callType_new F.called_enumerate (by decide) (F.typeCall_enumerate_1 v) (F.newCall_enumerate_1 v) (fun obj => F.args_object_init_2 obj v) F.entry_enumerate_new (meets_enum1 B) ⟨h1, ?_⟩
  have hz := Heap.size_push s.heap o
  have he := Heap.get?_push_size (s.heap.push o) (o := { cls := Value.type "enumerate", data := Data.fields #[Value.none, Value.bool false, Value.ref s.heap.objs.size, rawInt 0, Value.none, Value.none] }) rfl
  rw [hz] at he
  show _ ∧ _
  rw [hz]
  refine ⟨⟨_, he, rfl⟩, h _ he (Heap.get?_push_of_some _ (Heap.get?_push_size s.heap B.free)) ?_ fun b ob z => Heap.get?_push_of_some _ (Heap.get?_push_of_some _ z)⟩
  rw [Heap.size_push, hz]
theorem pyNext_enumT_end {prog : Program} {w : World} {A : Around} {E : Value → Shared → Prop} {s : Shared} {e it t : Addr} {i : Int} {items : Array Value} {old : Value} {Q : Option Value → Shared → Prop} (hh : A.in1.handled = none) (ne : t ≠ it) (he : IsEnum s.heap e it i old) (hit : s.heap.IsTupleIter it t items.size) (ht : s.heap.IsTuple t items)
    (hQ : ∀ h' : Heap, Heap.ExtBut it s.heap h' → Q none { heap := h', gens := s.gens, drawn := s.drawn, toks := s.toks, os := s.os }) : wpAny (model prog w) A (pyNext (Value.ref e)) Q E s := by
  have hT : ∃ o, s.heap.get? e = some o ∧ o.cls = Value.type "enumerate" := ⟨_, he, rfl⟩
  have D := Draws.tuple (prog := prog) (w := w) (A := A.in1) hh it t ne items
  unfold pyNext
  refine wpAny_bind (wpAny_attempt (wpAny_callSpecial?_slot hT F.slot_enumerate_next (wpAny_call_entry F.slot_enumerate_next hT F.entry_enumerate_next ?_ (F.args_enumerate_next_1 (Value.ref e)))))
  unfold Builtin.«enumerate.__next__»
  refine wpAny_bind (wpAny_of_eq (show slotArgs "__next__" 0 { pos := [Value.ref e] } = pure (Value.ref e, []) from rfl) ?_)
  refine wpAny_bind (wpAny_field he rfl rfl (wpAny_bind (D.done _ _ _ ⟨hit, ht⟩ fun h' x he' hx' => ?_)))
  obtain ⟨o, ho, hc⟩ := hx'
  exact wpAny_bind (wpAny_isInstance ⟨o, ho, hc⟩ isSubtype_stop (wpAny_pure (hQ h' he')))
/-- the pairs of a tuple's items and their numbers -/
def IteT (K : PySem.W.Frag) (a : Addr) : It :=
  { go := fun i H => ∃ xs x, H a = some (.tup xs) ∧ xs[i]? = some x,
    yld := fun i H v H' => ∃ T x, v = V.ref T ∧ H T = none ∧ H' = upd H T (.tup [V.int (i : Nat), x]) ∧ ∀ xs : List V, H a = some (.tup xs) → xs[i]? = some x,
    stop := fun i H => ∃ xs, H a = some (.tup xs) ∧ xs.length = i }
theorem turn_enumT {P : Program} {w : World} {K : PySem.W.Frag} {elts : List Expr} {kk : Nat} {tpos : Pos} (a e it : Addr) : Turn P w K (.Tuple elts kk tpos) (IteT K a) [e, it] e fun i h => (∃ old, IsEnum h e it (i : Nat) old) ∧ h.IsTupleIter it a i ∧ e ≠ it where
  mem := by simp
  obj := fun i h ⟨⟨old, he⟩, hi, hne⟩ b hb => by
    rcases List.mem_cons.mp hb with rfl | hb
    · exact ⟨_, he, fun v q => by cases q⟩
    · rw [List.mem_singleton] at hb
      subst hb
      obtain ⟨o, ho, hc, hd⟩ := hi
      exact ⟨o, ho, fun v q => by rw [hd] at q; cases q⟩
  keep := fun i h h' ⟨⟨old, he⟩, hi, hne⟩ k => by
    refine ⟨⟨old, k e (by simp) _ he⟩, ?_, hne⟩
    obtain ⟨o, ho, hc, hd⟩ := hi
    exact ⟨o, k it (by simp) _ ho, hc, hd⟩
  item := fun X hP hw hK hc i pins s σ H E I hf ⟨⟨old, he⟩, hi, hne⟩ ⟨xs, x, hq, hx⟩ => by
    subst hP hw hK
    obtain ⟨its, rv, p, hz⟩ := Inv.tuple I (.inl (.inl hq))
    obtain ⟨u, hu, ru⟩ := Vals.get rv hx
    have fe := hf e (by simp)
    have fi := hf it (by simp)
    have nea : e ≠ a := fun z => by rw [← z, fe.1] at hq; cases hq
    have nia : a ≠ it := fun z => by rw [z, fi.1] at hq; cases hq
    have G := GoesN.enumFrom (elts := elts) (x1 := kk) (pos := tpos) (A := X.A) (prog := X.prog) (w := X.w) 0 (Draws.tuple (A := X.A.in1) (I.ok.hd hc) it a nia its.toArray) e hne (fun z => (List.mem_cons.mp z).elim hne fun z => nea (List.mem_singleton.mp z)) List.mem_cons_self
    have li : i < its.toArray.size := by
      have := (List.getElem?_eq_some_iff.mp hu).1
      simpa using this
    refine G.goes i s _ E li ⟨⟨old, by rw [Int.zero_add]; exact he⟩, hi, p⟩ fun v h' tk Y St' keep htk => ?_
    obtain ⟨T, t, x', rfl, lT, hx', hT⟩ := Y
    obtain ⟨⟨old', he'⟩, hi', p'⟩ := St'
    have eu : x' = u := by
      have z : its.toArray[i]? = some x' := hx'
      rw [List.getElem?_toArray, hu] at z
      exact (Option.some.inj z).symm
    subst eu
    rw [Int.zero_add] at hT
    have n1 : T ≠ e := fun z => absurd (z ▸ lT) (Nat.not_le.mpr (Heap.lt_size he))
    have hil : it < s.heap.objs.size := by
      obtain ⟨o, ho, _⟩ := hi
      exact Heap.lt_size ho
    have n2 : T ≠ it := fun z => absurd (z ▸ lT) (Nat.not_le.mpr hil)
    have new : ObjOk X.prog X.w (upd H T (.tup [V.int (i : Nat), x])) h' T (.tup [V.int (i : Nat), x]) := ⟨by show 2 ≤ _; decide, [Value.int (i : Nat) t, x'], .cons ⟨t, rfl⟩ (.cons ru .nil), hT⟩
    have I1 := Inv.turnedNew (ch := [e, it]) (t' := tk) I keep hf lT new
    refine ⟨V.ref T, _, I1, rfl, ⟨T, x, rfl, HOk.fresh I.hok lT, rfl, fun ys hy => ?_⟩, ⟨⟨old', ?_⟩, hi', hne⟩, fun b hb => ?_⟩
    · rw [hq] at hy
      cases hy
      exact hx
    · rw [Int.zero_add] at he'
      exact he'
    · rw [upd_ne]
      · exact (hf b hb).1
      · rintro rfl
        rcases List.mem_cons.mp hb with z | z
        · exact n1 z
        · exact n2 (List.mem_singleton.mp z)
  done := fun X hP hw hK hc i pins s σ H E I hf ⟨⟨old, he⟩, hi, hne⟩ ⟨xs, hq, hx⟩ => by
    subst hP hw hK
    obtain ⟨its, rv, p, hz⟩ := Inv.tuple I (.inl (.inl hq))
    have fe := hf e (by simp)
    obtain ⟨f0, f1, f2, f3, f4, f5⟩ := hf it (by simp)
    have nea : e ≠ a := fun z => by rw [← z, fe.1] at hq; cases hq
    have nia : a ≠ it := fun z => by rw [z, f0] at hq; cases hq
    have sz : its.toArray.size = i := by
      rw [← hx, rv.length]
      simp
    exact pyNext_enumT_end (I.ok.hd hc) nia he (by rw [sz]; exact hi) p fun h' eb => ⟨rfl, Inv.turned I (fun b o hb q => eb b o hb q) f0 f1 f3 f4 f5⟩
  self := fun A i s Q E ⟨⟨old, he⟩, _⟩ h => wpAny_pyIter_enum he h
def iEnumT (K : PySem.W.Frag) (ta : TA) : TI := fun σ H R => ta σ H fun vs H1 => ∃ a xs, vs = [V.ref a] ∧ H1 a = some (.tup xs) ∧ R (IteT K a) H1
theorem pi_enumT {X : Cx} {e : Expr} {ta : TA} {p pos tpos : Pos} {elts : List Expr} {kk : Nat} (hg : Gl X "enumerate") (hm : X.mg "enumerate" = none) (ha : PA X [e] ta) (hs : starEach [e] X.env = [(false, eval e X.env)] := by rfl) : PI X (.Tuple elts kk tpos) (.Call (.Name "enumerate" p) [e] [] pos) (iEnumT X.K ta) := by
  refine ⟨fun pins s σ H R I h => ?_⟩
  refine Call_ (ld_blt I hg hm boot_enumerate (PyProof.Rows.callWith_type1 (thn (ha.run pos pins s σ H _ I h) fun us s1 hh => ?_) hs rfl))
  obtain ⟨vs, H1, I1, r1, a, xs, rfl, hq, q⟩ := hh
  cases r1 with
  | cons r rr =>
  cases rr
  cases r
  obtain ⟨its, rv, p', hz⟩ := Inv.tuple I1 (.inl (.inl hq))
  refine call_enum1 (begins_tuple a its.toArray) p' fun h' he hit hsz hk => wpAny_pyIter_enum he ?_
  have I2 := Inv.kept (t' := s1.toks) I1 hk
  refine ⟨_, [s1.heap.objs.size + 1, s1.heap.objs.size], _, IteT X.K a, H1, rfl, I2, turn_enumT a _ _, ⟨⟨_, he⟩, ⟨_, hit, rfl, rfl⟩, Nat.succ_ne_self _⟩, fun b hb => ?_, q⟩
  have hle : s1.heap.objs.size ≤ b := by
    rcases List.mem_cons.mp hb with z | z
    · rw [z]
      exact Nat.le_succ _
    · rw [List.mem_singleton.mp z]
      exact Nat.le_refl _
  exact Inv.fpOk I1 hle (HOk.fresh I1.hok hle)
section
variable {K : PySem.W.Frag} {a : Addr} {xs : List V} {g : TG} {tb : TS} {D : Ends} {σ : St} {H : Hp}
def tForL (g : TG) (tb : TS) (D : Ends) (σ : St) : It → Hp → Prop := fun J H1 => ∃ W : Nat → Nat → St → Hp → Prop, (∃ m, W 0 m σ H1) ∧ ∀ i m σ H, W i m σ H → (J.stop i H ∧ D.nx σ H) ∨ (J.go i H ∧ ∃ N : St → Hp → Prop, (∀ σ' H', N σ' H' → ∃ m', m' < m ∧ W (i + 1) m' σ' H') ∧ ∀ x H', J.yld i H x H' → g x σ H' fun σ2 H2 => tb { nx := N, rt := D.rt, bk := D.nx, ct := N } σ2 H2)
theorem for_in {wi : TI} (h : wi σ H (tForL g tb D σ)) : tFor wi g tb D σ H := h
theorem for_enumT (Pv : Nat → St → Hp → Prop) (h0 : Pv 0 σ H) (hl : ∀ i σ H, i ≤ xs.length → Pv i σ H → H a = some (.tup xs))
    (hs : ∀ i x σ H T, xs[i]? = some x → Pv i σ H → H T = none → g (.ref T) σ (upd H T (.tup [.int (i : Nat), x])) fun σ2 H2 => tb { nx := Pv (i + 1), rt := D.rt, bk := D.nx, ct := Pv (i + 1) } σ2 H2)
    (hd : ∀ σ H, Pv xs.length σ H → D.nx σ H) : tForL g tb D σ (IteT K a) H :=
  ⟨fun i m σ H => i ≤ xs.length ∧ m = xs.length - i ∧ Pv i σ H, ⟨_, Nat.zero_le _, rfl, h0⟩, fun i m σ H ⟨li, em, p⟩ => by
    have sq := hl i σ H li p
    by_cases c : i < xs.length
    · right
      refine ⟨⟨xs, xs[i], sq, List.getElem?_eq_getElem c⟩, Pv (i + 1), fun σ' H' h => ⟨xs.length - (i + 1), by omega, by omega, rfl, h⟩, ?_⟩
      rintro v H' ⟨T, x, rfl, nT, rfl, y⟩
      exact hs i x σ H T (y xs sq) p nT
    · left
      have e : i = xs.length := by omega
      subst e
      exact ⟨⟨xs, sq, rfl⟩, hd σ H p⟩⟩
theorem for_enumL (Pv : Nat → St → Hp → Prop) (h0 : Pv 0 σ H) (hl : ∀ i σ H, i ≤ xs.length → Pv i σ H → SqL K H a xs)
    (hs : ∀ i x σ H T, xs[i]? = some x → Pv i σ H → H T = none → g (.ref T) σ (upd H T (.tup [.int (i : Nat), x])) fun σ2 H2 => tb { nx := Pv (i + 1), rt := D.rt, bk := D.nx, ct := Pv (i + 1) } σ2 H2)
    (hd : ∀ σ H, Pv xs.length σ H → D.nx σ H) : tForL g tb D σ (Ite K a) H :=
  ⟨fun i m σ H => i ≤ xs.length ∧ m = xs.length - i ∧ Pv i σ H, ⟨_, Nat.zero_le _, rfl, h0⟩, fun i m σ H ⟨li, em, p⟩ => by
    have sq := hl i σ H li p
    by_cases c : i < xs.length
    · right
      refine ⟨⟨xs, xs[i], sq, List.getElem?_eq_getElem c⟩, Pv (i + 1), fun σ' H' h => ⟨xs.length - (i + 1), by omega, by omega, rfl, h⟩, ?_⟩
      rintro v H' ⟨T, x, rfl, nT, rfl, y⟩
      exact hs i x σ H T (y xs sq) p nT
    · left
      have e : i = xs.length := by omega
      subst e
      exact ⟨⟨xs, sq, Nat.le_refl _⟩, hd σ H p⟩⟩
end
end L2

/-! Where the law says that trees lead. -/
namespace Wk
open PySem PySem.Spec PyProof.Rows L2 Ck
local macro_rules | `(tactic| bv_omega) => `(tactic| try dsimp only [L2.tRet, L2.tRetN, tAndV, tOrV, tNotV, tCB, L2.tCons, L2.tNil, tC, tVar, L2.tOp, L2.tUn, tSeq, tAsg, gName, tIfS, tTest, tNext, tAnd, tOr, tNot, L2.tIf, tFld, sFld, sFldAug, tCall, tTup, tB, tAug, tDrop, L2.tSl, tPart, tNoPart, tBM, tBM0, tChain, gTup, gCons, gNil, tPar, tIs, List.set, L2.start, iTup, L2.iList, L2.iRng1, tUn, tLst, tTest, gSub, tCall, L2.tIf, tCB, rRep, List.set, List.cons_append, List.nil_append, List.append_nil, cxOf, sFldC, sFldAugC, tMeth, tMakeC, sDPut, tDGet, L2.tNotN])
section
variable {C V' : List Str} {N M : Int} {kn : List Str} {i : Bool} {l : Nat} {t : Tr} {rows : Rows} {m : Tr} {nd : Nd} {anc : Anc}
theorem okt_jump (o : Okt C V' N M kn i l t) (cw : word t = "break" ∨ word t = "next") : ∃ n0 : Nat, enc t = .tup [.str (word t), .int ((n0 : Nat) : Int)] ∧ 1 ≤ n0 ∧ n0 ≤ l ∧ (num t).toNat = n0 ∧ kids t = [] := by
  have no : ∀ {w' : Str} {p : Prop}, word t = w' → w' ≠ "break" → w' ≠ "next" → p := fun e n1 n2 => by
    rcases cw with c | c
    · exact absurd (e.symm.trans c) n1
    · exact absurd (e.symm.trans c) n2
  cases o with
  | @jump _ _ w' k e a b =>
    obtain ⟨n, rfl⟩ := Int.eq_ofNat_of_zero_le (show 0 ≤ k by omega)
    exact ⟨n, rfl, by omega, by omega, rfl, rfl⟩
  | var e _ => rcases e with rfl | rfl | rfl <;> exact no rfl (by dsimp only [word]; decide) (by dsimp only [word]; decide)
  | andor e _ _ => rcases e with rfl | rfl <;> exact no rfl (by dsimp only [word]; decide) (by dsimp only [word]; decide)
  | whl e _ _ => rcases e with rfl | rfl <;> exact no rfl (by dsimp only [word]; decide) (by dsimp only [word]; decide)
  | _ => exact no rfl (by dsimp only [word]; decide) (by dsimp only [word]; decide)
theorem okt_leaf (o : Okt C V' N M kn i l t) (cw : word t = "return" ∨ word t = "exit") : kids t = [] := by
  have no : ∀ {w' : Str} {p : Prop}, word t = w' → w' ≠ "return" → w' ≠ "exit" → p := fun e n1 n2 => by
    rcases cw with c | c
    · exact absurd (e.symm.trans c) n1
    · exact absurd (e.symm.trans c) n2
  cases o with
  | ret0 => rfl
  | ret _ _ => rfl
  | exit0 => rfl
  | exit _ _ => rfl
  | var e _ => rfl
  | jump e _ _ => rfl
  | andor e _ _ => rcases e with rfl | rfl <;> exact no rfl (by dsimp only [word]; decide) (by dsimp only [word]; decide)
  | whl e _ _ => rcases e with rfl | rfl <;> exact no rfl (by dsimp only [word]; decide) (by dsimp only [word]; decide)
  | _ => exact no rfl (by dsimp only [word]; decide) (by dsimp only [word]; decide)
theorem Lds.len {ns : List Nd} {ts : List T} (h : Lds rows m ns ts) : ts.length ≤ ns.length := by
  induction h with
  | nil => exact Nat.le_refl _
  | @cons nd anc ns ts t _ ih =>
    rw [List.length_append, List.length_cons]
    have : (entsOf nd anc).length ≤ 1 := by
      unfold entsOf
      split
      · exact Nat.zero_le _
      · exact Nat.le_refl _
    omega
/-- the loops that the law keeps, for the parts of a tree -/
def kl (nd : Nd) (ls : List (List Int)) : List (List Int) := if word nd.t = "trap" ∨ word nd.t = "sub" ∨ word nd.t = "pipe" then [] else if word nd.t ∈ lops then ls ++ [nd.p] else ls
def UpI (ls : List (List Int)) (l : Nat) (p : List Int) (anc : Anc) : Prop := ∀ n, 1 ≤ n → n ≤ l → n ≤ ls.length ∧ ls[ls.length - n]? = loopUp n p anc
theorem UpI.kid {ls : List (List Int)} {q : List Int} (u : UpI ls l nd.p anc) : UpI (kl nd ls) (inL nd.t l) q ((nd.p, word nd.t) :: anc) := by
  intro n n1 nl
  unfold inL at nl
  unfold kl
  obtain ⟨c, rfl⟩ : ∃ c, n = c + 1 := ⟨n - 1, by omega⟩
  show _ ∧ _ = if word nd.t ∈ lops then loopUp c nd.p anc else loopUp (c + 1) nd.p anc
  by_cases c1 : word nd.t = "trap" ∨ word nd.t = "sub" ∨ word nd.t = "pipe"
  · rw [if_pos c1] at nl
    omega
  rw [if_neg c1] at nl ⊢
  by_cases c2 : word nd.t ∈ lops
  · rw [if_pos c2] at nl
    rw [if_pos c2, if_pos c2]
    rw [List.length_append]
    show c + 1 ≤ ls.length + 1 ∧ (ls ++ [nd.p])[ls.length + 1 - (c + 1)]? = _
    rcases Nat.eq_zero_or_pos c with rfl | cp
    · refine ⟨by omega, ?_⟩
      rw [loopUp_zero, Nat.add_sub_cancel, List.getElem?_append_right (Nat.le_refl _), Nat.sub_self]
      rfl
    · obtain ⟨a, b⟩ := u c cp (by omega)
      refine ⟨by omega, ?_⟩
      rw [← b, show ls.length + 1 - (c + 1) = ls.length - c by omega, List.getElem?_append_left (by omega)]
  · rw [if_neg c2] at nl
    rw [if_neg c2, if_neg c2]
    exact u (c + 1) n1 nl
theorem kl_len {ls : List (List Int)} : (kl nd ls).length ≤ ls.length + 1 := by
  unfold kl
  split
  · exact Nat.zero_le _
  split
  · rw [List.length_append]
    exact Nat.le_refl _
  · omega
theorem shell_kid {q : List Int} : shellUp q ((nd.p, word nd.t) :: anc) = if word nd.t = "sub" ∨ word nd.t = "pipe" then some q else shellUp nd.p anc := rfl
end
section
variable {P : Program} {w : World} {K : PySem.W.Frag} {mg : Str → Option Value} {base : Heap} {H H' H1 : Hp} {rows : Rows} {m : Tr} {Q : VK}
theorem enc_wd : ∀ t : Tr, ∃ r, enc t = .tup (.str (word t) :: r)
  | .mk true w pre ks post => ⟨_, rfl⟩
  | .mk false w pre ks post => ⟨_, rfl⟩
theorem nodes_leaf {nd : Nd} (h : kids nd.t = []) : nodesOf [] nd = [nd] := by
  rw [nodes_eq]
  unfold Nd.inner
  rw [if_neg (by simp)]
  unfold Nd.parts
  rw [h]
  rfl
theorem encs_at : ∀ {ks : List Tr} {i : Nat} {t : T}, (encs ks)[i]? = some t → ∃ k, ks[i]? = some k ∧ t = enc k
  | [], _, _, h => by cases h
  | k :: ks, 0, t, h => by
    cases h
    exact ⟨k, rfl, rfl⟩
  | k :: ks, i + 1, t, h => encs_at (ks := ks) (i := i) h
theorem cnt_mem {k : Tr} : ∀ {ks : List Tr}, k ∈ ks → cnt k ≤ cnts ks
  | [], m => by cases m
  | a :: ks, m => by
    show cnt k ≤ cnt a + cnts ks
    rcases List.mem_cons.mp m with rfl | m
    · omega
    · have := cnt_mem m
      omega
theorem cnt_kid {t k : Tr} (h : k ∈ kids t) : cnt k ≤ cnt t := by
  obtain ⟨b, w, pre, ks, post⟩ := t
  have := cnt_mem h
  show cnt k ≤ 1 + cnts ks
  have : cnt k ≤ cnts ks := this
  omega
theorem optV.up {v : V} {o : Option (List Int)} (h : optV K H v o) (s : Same H H') : optV K H' v o := by
  cases o with
  | none => exact h
  | some q =>
    obtain ⟨p, e, hp⟩ := h
    exact ⟨p, e, s _ _ hp⟩
theorem nodesOf_len (nd : Nd) : (nodesOf [] nd).length = cnt nd.t := nodesT_len nd.t nd.p
theorem parts_len {nd : Nd} {n : Nat} (hn : n ≤ (kids nd.t).length) : (((List.range n).map nd.part).flatMap (nodesOf [])).length ≤ cnt nd.t := by
  have e := nodesOf_len nd
  rw [nodes_eq] at e
  unfold Nd.inner Nd.parts at e
  rw [if_neg (by simp), List.length_cons] at e
  have z : List.range (kids nd.t).length = List.range n ++ (List.range (kids nd.t).length).drop n := by
    have := List.take_append_drop n (List.range (kids nd.t).length)
    rw [List.take_range, Nat.min_eq_left hn] at this
    exact this.symm
  rw [z, List.map_append, List.flatMap_append, List.length_append] at e
  omega
structure LdP (K : PySem.W.Frag) (H : Hp) (rows : Rows) (m : Tr) (v : V) (sp lp : Addr) (sv : V) (nd : Nd) (anc : Anc) (ls : List (List Int)) (h : Nat) : Prop where
  d : Dat K H v (enc nd.t)
  sp : H sp = some (.tup (nd.p.map V.int))
  lp : LD K H lp (ls.map pthT)
  sh : optV K H sv (shellUp nd.p anc)
  t : InT rows m nd anc
  ok : ∃ C W N M kn i l, Okt C W N M kn i l nd.t ∧ UpI ls l nd.p anc
  hb : ht nd.t ≤ h
  an : anc.length + ht nd.t ≤ 58
  ll : ls.length ≤ anc.length
  cn : cnt nd.t ≤ 3000
def spLd (K : PySem.W.Frag) : Nat → Sp
  | 0 => fun _ _ _ _ => False
  | h + 1 => fun vs H Q _ => ∃ rows m v sp lp sv nd anc ls, vs = [v, .ref sp, .ref lp, sv] ∧ LdP K H rows m v sp lp sv nd anc ls (h + 1) ∧ ∀ D H' ts, Same H H' → H D = none → LD K H' D ts → Lds rows m (nodesOf [] nd) ts → Q (.ref D) H'
abbrev sLd : Stmt := topS 72
abbrev NLd : List Str := ["_law_tree", "_law_spot", "_law_loops", "_law_shell", "_law_word", "_law_found", "_law_k", "_law_part", "_law_inner"]
abbrev PLd : List Str := ["_law_tree", "_law_spot", "_law_loops", "_law_shell"]
theorem scLd : FnScope NLd PLd (defScope sLd) := ⟨rfl, rfl, rfl, by decide +kernel, rfl, by decide +kernel, by decide +kernel⟩
abbrev GLd (P : Program) (w : World) (K : PySem.W.Frag) (mg : Str → Option Value) (base : Heap) (h : Nat) : Prop := L2.Go P w K mg base CX0 (1 + h) "_law_leads" PLd (spLd K h)
theorem ok_ld0 {f : Addr} {fd : FuncData} (F : Fun K "_law_leads" "_law_leads" sLd f fd) : FnOk P w K mg base CX0 1 f fd PLd (spLd K 0) :=
  F.ok scLd (fun vs H Q E h => h.elim) (fun cdv A outer s H vs Q E hr h => h.elim)
theorem ok_ld {f : Addr} {fd : FuncData} {h : Nat} (F : Fun K "_law_leads" "_law_leads" sLd f fd) (M : Mg mg) (me : mg "enumerate" = none) (GK : L2.Go P w K mg base CX0 1 "_law_kids" ["_law_tree"] (spKi K)) (G : GLd P w K mg base h) : FnOk P w K mg base CX0 (1 + (h + 1)) f fd PLd (spLd K (h + 1)) := by
  refine F.ok scLd (fun vs H Q E h => ?_) (fun cdv A outer s H vs Q E hr hh => ?_)
  · obtain ⟨_, _, _, _, _, _, _, _, _, rfl, _⟩ := h
    rfl
  obtain ⟨rows, m, v, sp, lp, sv, nd, anc, ls, rfl, ld, q⟩ := hh
  have hu := hu_of hr
  have hr1 := hr.mono (j := 1) (by show 1 ≤ 1 + h; omega)
  refine ⟨_, (pss_cons (ps_par rfl scLd.nd (i := 4) (j := 5) rfl rfl (by decide) rfl rfl (pa_cons (pe_ix ix_tup (pv 0) pe_int fun _ _ => rfl) (pa_cons (pe_lst pa_nil) pa_nil)) (by rfl)) (pss_cons (ps_if (pt_cmpR op_in_seq (pv 4) (pe_tup (pa_cons pe_str (pa_cons pe_str pa_nil))) rfl)
      (pss_one (ps_ret (pe_lst (pa_cons (pe_tup (pa_cons (pv 1) (pa_cons (pe_ix ix_list (pv 2) (pe_op op_sub (pe_callB call_len_seq rfl M.ml PySem.boot_len (pa_cons (pv 2) pa_nil)) (pe_ix ix_tup (pv 0) pe_int fun _ _ => rfl)) fun _ _ => rfl) pa_nil))) pa_nil)))) pss_nil) (pss_cons (ps_if (pt_cmpR op_in_seq (pv 4) (pe_tup (pa_cons pe_str (pa_cons pe_str pa_nil))) rfl)
      (pss_one (ps_ret (pe_lst (pa_cons (pe_tup (pa_cons (pv 1) (pa_cons (pe_ifExp (pt_cmpR op_eq (pv 4) pe_str rfl) (pe_slice sl_tupA (pv 1) po_none (po_some pe_int)) (pv 3)) pa_nil))) pa_nil)))) pss_nil) (pss_cons (ps_if (pt_cmpR op_in_seq (pv 4) (pe_tup (pa_cons pe_str (pa_cons pe_str (pa_cons pe_str pa_nil)))) rfl)
      (pss_one (ps_set (i := 2) scLd.nd rfl (.inl rfl) (pe_op op_catL (pv 2) (pe_lst (pa_cons (pv 1) pa_nil))))) pss_nil) (pss_cons (ps_for PassesOwn.never rfl (pi_enum rfl me (pa_cons (pe_go (E := fun _ _ _ => False) GK hr1 pass0 rfl (pa_cons (pv 0) pa_nil)) pa_nil)) (pg_tup rfl (pgs_cons (pg_name (i := 6) scLd.nd rfl (.inl rfl)) (pgs_cons (pg_name (i := 7) scLd.nd rfl (.inl rfl)) pgs_nil)))
      (pss_cons (ps_set (i := 8) scLd.nd rfl (.inl rfl) (pe_op op_catT (pv 1) (pe_tup (pa_cons (pv 6) pa_nil)))) (pss_one (ps_if (pt_cmpR op_in_seq (pv 4) (pe_tup (pa_cons pe_str (pa_cons pe_str pa_nil))) rfl)
           (pss_one (ps_set (i := 5) scLd.nd rfl (.inl rfl) (pe_op op_catL (pv 5) (pe_go (E := fun _ _ _ => False) G hr pass0 rfl (pa_cons (pv 7) (pa_cons (pv 8) (pa_cons (pe_lst pa_nil) (pa_cons (pv 8) pa_nil))))))))
           (pss_one (ps_set (i := 5) scLd.nd rfl (.inl rfl) (pe_op op_catL (pv 5) (pe_go (E := fun _ _ _ => False) G hr pass0 rfl (pa_cons (pv 7) (pa_cons (pv 8) (pa_cons (pe_ifExp (pt_cmpR op_eq (pv 4) pe_str rfl) (pe_lst pa_nil) (pv 2)) (pa_cons (pv 3) pa_nil)))))))))))) (pss_one (ps_ret (pv 5)))))))), ?_⟩
  obtain ⟨er, een⟩ := enc_wd nd.t
  have d0 := ld.d
  rw [een] at d0
  obtain ⟨a, xs0, rfl, ha, dxs⟩ := dat_tup d0
  obtain ⟨x0, xs, rfl, dx0, dtl⟩ := dats_cons dxs
  obtain rfl := dat_str dx0
  obtain ⟨C, W, N, M', kn, iw, l, ok, upI⟩ := ld.ok
  bv_omega
  refine ⟨_, rfl, a, _, _, _, rfl, rfl, sqt ha, atI_nat (j := 0) rfl, sl (Nat.zero_le _), fun fl nfl => ⟨_, _, rfl, ?_⟩⟩
  have s1 := same_new (o := .lst []) nfl
  have hfl : upd H fl (.lst []) fl = some (.lst []) := upd_same
  generalize upd H fl (.lst []) = H1 at s1 hfl ⊢
  refine ⟨_, rfl, sl (Nat.le_of_ble_eq_true rfl), fun p6 n6 => ⟨p6, _, rfl, .inr (sqt upd_same), rfl, flat_strs ["break", "next"], _, rfl, ?_⟩⟩
  have s2 := s1.trans (same_new (o := .tup [V.str "break", V.str "next"]) n6)
  have hf2 := same_new (o := .tup [V.str "break", V.str "next"]) n6 _ _ hfl
  show if (inV (.str (word nd.t)) (([("break" : Str), "next"]).map V.str)) = true then _ else _
  rw [inV_str]
  generalize upd H1 p6 (.tup [V.str "break", V.str "next"]) = H2 at s2 hf2 ⊢
  -- one entry
  have one : ∀ {H3 : Hp} {v3 : V} {o : Option (List Int)}, Same H H3 → kids nd.t = [] → tgt nd anc = some o → Dat K H3 v3 (optT o) → [V.ref sp, v3].length ≤ sizeLine ∧ ∀ p, H3 p = none → [V.ref p].length ≤ sizeLine ∧ ∀ D, (upd H3 p (.tup [V.ref sp, v3])) D = none → Q (.ref D) (upd (upd H3 p (.tup [V.ref sp, v3])) D (.lst [V.ref p])) := by
    intro H3 v3 o s3 kn et dv
    refine ⟨sl (Nat.le_of_ble_eq_true rfl), fun p np => ⟨sl (Nat.le_of_ble_eq_true rfl), fun D nD => ?_⟩⟩
    have s4 := same_new (o := .tup [V.ref sp, v3]) np
    have s5 := same_new (o := .lst [V.ref p]) nD
    refine q D _ [entT nd.p o] (s3.trans (s4.trans s5)) (Same.none (s3.trans s4) nD) ⟨_, upd_same, .cons (Dats.tup (.cons (path_dat (s5 _ _ (s4 _ _ (s3 _ _ ld.sp)))) (.cons ((dv.up (same_stay s4)).up (same_stay s5)) .nil)) (s5 _ _ upd_same)) .nil⟩ ?_
    rw [nodes_leaf kn]
    have z : entsOf nd anc = [entT nd.p o] := by
      unfold entsOf
      rw [et]
    have y := Lds.cons ld.t (Lds.nil (rows := rows) (m := m))
    rw [z] at y
    exact y
  by_cases c1 : word nd.t = "break" ∨ word nd.t = "next"
  · refine if_yes (decide_eq_true (by rcases c1 with e | e <;> (rw [e]; decide))) ?_
    obtain ⟨n0, en0, n1, n2, nm, kn0⟩ := okt_jump ok c1
    rw [en0] at een
    injection een with een
    injection een with _ een
    subst een
    obtain ⟨y1, u1, rfl, dy1, dt2⟩ := dats_cons dtl
    obtain rfl := dats_nil dt2
    cases dat_int dy1
    obtain ⟨vl, hl, dl⟩ := ld.lp
    have ll := dl.len
    rw [List.length_map] at ll
    obtain ⟨un, ue⟩ := upI n0 n1 n2
    obtain ⟨R, eR⟩ : ∃ R, ls[ls.length - n0]? = some R := ⟨_, List.getElem?_eq_getElem (by omega)⟩
    have eT : (ls.map pthT)[ls.length - n0]? = some (pthT R) := by rw [List.getElem?_map, eR]; rfl
    obtain ⟨vr, evr, dvr⟩ := dl.at eT
    have et : tgt nd anc = some (some R) := by
      unfold tgt
      rw [if_pos c1, nm, ← ue, eR]
    bv_omega
    refine ⟨_, rfl, _, rfl, _, rfl, lp, vl, rfl, .inl (SqL.of (s2 _ _ hl)), _, rfl, a, _, _, _, rfl, rfl, sqt (s2 _ _ ha), atI_nat (j := 1) rfl, _, _, rfl, rfl, lp, vl, _, vr, rfl, rfl, SqL.of (s2 _ _ hl), ?_, ?_⟩
    · have z : ((vl.length : Int) - (n0 : Nat)) = ((ls.length - n0 : Nat) : Int) := by omega
      rw [z]
      exact atI_nat evr
    · exact one s2 kn0 et (dvr.up (same_stay s2))
  refine if_no (decide_eq_false fun z => c1 ?_) ?_
  · rcases List.mem_cons.mp z with z | z
    · exact .inl z
    · exact .inr (List.mem_singleton.mp z)
  bv_omega
  refine ⟨_, rfl, sl (Nat.le_of_ble_eq_true rfl), fun p7 n7 => ⟨p7, _, rfl, .inr (sqt upd_same), rfl, flat_strs ["return", "exit"], _, rfl, ?_⟩⟩
  replace s2 := s2.trans (same_new (o := .tup [V.str "return", V.str "exit"]) n7)
  replace hf2 := same_new (o := .tup [V.str "return", V.str "exit"]) n7 _ _ hf2
  show if (inV (.str (word nd.t)) (([("return" : Str), "exit"]).map V.str)) = true then _ else _
  rw [inV_str]
  generalize upd H2 p7 (.tup [V.str "return", V.str "exit"]) = H3 at s2 hf2 ⊢
  by_cases c2 : word nd.t = "return" ∨ word nd.t = "exit"
  · refine if_yes (decide_eq_true (by rcases c2 with e | e <;> (rw [e]; decide))) ?_
    have kn0 := okt_leaf ok c2
    bv_omega
    refine ⟨_, rfl, _, rfl, rfl, _, rfl, ?_⟩
    by_cases c3 : word nd.t = "return"
    · refine if_yes (decide_eq_true (congrArg V.str c3)) ?_
      bv_omega
      refine ⟨_, rfl, 1, rfl, cut_use (k := 1) (s2 _ _ ld.sp) fun H7 q3 s7 hq3 => ?_⟩
      rw [← List.map_take] at hq3
      have et : tgt nd anc = some (some (nd.p.take 1)) := by
        unfold tgt
        rw [if_neg c1, if_pos c3]
      exact one (s2.trans s7) kn0 et (path_dat hq3)
    · refine if_no (decide_eq_false fun z => c3 (V.str.inj z)) ?_
      have c4 : word nd.t = "exit" := c2.resolve_left c3
      have et : tgt nd anc = some (shellUp nd.p anc) := by
        unfold tgt
        rw [if_neg c1, if_neg c3, if_pos c4]
      bv_omega
      exact ⟨_, rfl, one s2 kn0 et ((optV_dat ld.sh).up (same_stay s2))⟩
  refine if_no (decide_eq_false fun z => c2 ?_) ?_
  · rcases List.mem_cons.mp z with z | z
    · exact .inl z
    · exact .inr (List.mem_singleton.mp z)
  have noE : entsOf nd anc = [] := by
    unfold entsOf tgt
    rw [if_neg c1, if_neg fun e => c2 (.inl e), if_neg fun e => c2 (.inr e)]
  clear one
  bv_omega
  refine ⟨_, rfl, sl (Nat.le_of_ble_eq_true rfl), fun p8 n8 => ⟨p8, _, rfl, .inr (sqt upd_same), rfl, flat_strs ["while", "until", "times"], _, rfl, ?_⟩⟩
  replace s2 := s2.trans (same_new (o := .tup [V.str "while", V.str "until", V.str "times"]) n8)
  replace hf2 := same_new (o := .tup [V.str "while", V.str "until", V.str "times"]) n8 _ _ hf2
  show if (inV (.str (word nd.t)) (lops.map V.str)) = true then _ else _
  rw [inV_str]
  generalize upd H3 p8 (.tup [V.str "while", V.str "until", V.str "times"]) = H4 at s2 hf2 ⊢
  obtain ⟨l2, el2⟩ : ∃ l2, l2 = if word nd.t ∈ lops then ls ++ [nd.p] else ls := ⟨_, rfl⟩
  obtain ⟨vl, hl, dl⟩ := ld.lp
  have ll := dl.len
  rw [List.length_map] at ll
  have ll2 := ld.ll
  have lan := ld.an
  by_cases c5 : word nd.t ∈ lops
  refine if_yes (decide_eq_true c5) ?_
  bv_omega
  refine ⟨_, rfl, _, rfl, sl (Nat.le_of_ble_eq_true rfl), fun p9 n9 => ⟨lp, p9, vl, [.ref sp], rfl, rfl, SqL.of (same_new n9 _ _ (s2 _ _ hl)), upd_same, by rw [sizeLine_eq]; show vl.length + 1 ≤ _; omega, fun la nla => ?_⟩⟩
  have sla := (same_new (o := .lst [V.ref sp]) n9).trans (same_new (o := .lst (vl ++ [V.ref sp])) nla)
  have lda : LD K (upd (upd H4 p9 (.lst [V.ref sp])) la (.lst (vl ++ [V.ref sp]))) la (l2.map pthT) := by
    rw [el2, if_pos c5, List.map_append]
    exact ⟨_, upd_same, ((dl.up (same_stay (s2.trans sla))).app (.cons (path_dat ((s2.trans sla) _ _ ld.sp)) .nil))⟩
  have s5 := s2.trans sla
  have hf5 := sla _ _ hf2
  generalize upd (upd H4 p9 (.lst [V.ref sp])) la (.lst (vl ++ [V.ref sp])) = H5 at s5 hf5 lda ⊢
  clear sla
  rotate_left
  refine if_no (decide_eq_false c5) ?_
  obtain ⟨la, ela⟩ : ∃ la, la = lp := ⟨_, rfl⟩
  rw [← ela]
  have lda : LD K H4 la (l2.map pthT) := by
    rw [el2, if_neg c5, ela]
    exact ⟨_, s2 _ _ hl, dl.up (same_stay s2)⟩
  have s5 := s2
  have hf5 := hf2
  obtain ⟨H5, eH5⟩ : ∃ H5, H5 = H4 := ⟨_, rfl⟩
  rw [← eH5] at lda s5 hf5 ⊢
  all_goals
    bv_omega
    refine for_in ?_
    dsimp only [L2.iEnum]
    bv_omega
    refine ⟨_, rfl, .ref a, nd.t, kn, rfl, ld.d.up (same_stay s5), ⟨_, _, _, _, _, _, ok⟩, fun D H6 s6 nD ldk => ?_⟩
    obtain ⟨ys, hD, dys⟩ := ldk
    have lys := dys.len
    rw [encs_len] at lys
    have s56 := s5.trans s6
    refine ⟨D, ys, rfl, SqL.of hD, for_enumL (K := K) (a := D) (xs := ys) (fun i σ H' => ∃ v6 v7 v8 fk ts us, σ = [some (.ref a), some (.ref sp), some (.ref la), some sv, some (.str (word nd.t)), some (.ref fk), v6, v7, v8] ∧ Same H6 H' ∧ H' fk = some (.lst us) ∧ H fk = none ∧ Dats K H' us ts ∧ Lds rows m (((List.range i).map nd.part).flatMap (nodesOf [])) ts) ⟨_, _, _, fl, [], [], rfl, fun _ _ z => z, s6 _ _ hf5, nfl, .nil, .nil⟩ ?hl ?hs ?hd⟩
    case hl =>
      rintro i σ H7 li ⟨v6, v7, v8, fk, ts, us, rfl, s7, _⟩
      exact SqL.of (s7 _ _ hD)
    case hd =>
      rintro σ H7 ⟨v6, v7, v8, fk, ts, us, rfl, s7, hfk, nfk, du, lds⟩
      bv_omega
      refine ⟨_, rfl, q fk H7 ts (s56.trans s7) nfk ⟨us, hfk, du⟩ ?_⟩
      rw [nodes_eq]
      unfold Nd.inner Nd.parts
      rw [if_neg (by simp)]
      have y := Lds.cons ld.t lds
      rw [noE, lys] at y
      exact y
    case hs =>
      rintro i x σ H7 T0 hx ⟨v6, v7, v8, fk, ts, us, rfl, s7, hfk, nfk, du, lds⟩ nT
      obtain ⟨te, ete, dte⟩ := dats_at dys hx
      obtain ⟨k, ek, rfl⟩ := encs_at ete
      have li : i < (kids nd.t).length := (List.getElem?_eq_some_iff.mp ek).1
      have ekt : (nd.part i).t = k := by
        unfold Nd.part
        show ((kids nd.t)[i]?.getD _) = k
        rw [ek]
        rfl
      have pne : nd.p ≠ [] := fun e => by
        have := ld.t.len
        rw [e] at this
        cases this
      have plen := ld.t.len
      bv_omega
      refine ⟨T0, _, rfl, sqt upd_same, rfl, _, _, rfl, _, _, rfl, rfl, ?_⟩
      have s7b := s7.trans (same_new (o := .tup [V.int (i : Int), x]) nT)
      have hfk2 := same_new (o := .tup [V.int (i : Int), x]) nT _ _ hfk
      have du2 := du.up (same_stay (same_new (o := .tup [V.int (i : Int), x]) nT))
      generalize upd H7 T0 (.tup [V.int (i : Int), x]) = H8 at s7b hfk2 du2 ⊢
      bv_omega
      have s8 := s56.trans s7b
      refine ⟨_, rfl, _, rfl, sl (Nat.le_of_ble_eq_true rfl), fun p10 n10 => ⟨sp, p10, _, _, rfl, rfl, sqt (same_new n10 _ _ (s8 _ _ ld.sp)), sqt upd_same, fun e => pne (List.map_eq_nil_iff.mp e), by rw [List.length_map, sizeLine_eq]; show nd.p.length + 1 ≤ _; omega, (fun e => by cases e), fun _ p11 n11 => ?_⟩⟩
      have s89 := (same_new (o := .tup [V.int (i : Int)]) n10).trans (same_new (o := .tup (nd.p.map V.int ++ [V.int (i : Int)])) n11)
      have hq9 : upd (upd H8 p10 (.tup [V.int (i : Int)])) p11 (.tup (nd.p.map V.int ++ [V.int (i : Int)])) p11 = some (.tup ((nd.part i).p.map V.int)) := by
        rw [upd_same, part_p, List.map_append]
        rfl
      generalize upd (upd H8 p10 (.tup [V.int (i : Int)])) p11 (.tup (nd.p.map V.int ++ [V.int (i : Int)])) = H9 at s89 hq9 ⊢
      refine ⟨_, rfl, sl (Nat.le_of_ble_eq_true rfl), fun p12 n12 => ⟨p12, _, rfl, .inr (sqt upd_same), rfl, flat_strs ["sub", "pipe"], _, rfl, ?_⟩⟩
      have s9x := same_new (o := .tup [V.str "sub", V.str "pipe"]) n12
      show if (inV (.str (word nd.t)) (([("sub" : Str), "pipe"]).map V.str)) = true then _ else _
      rw [inV_str]
      generalize upd H9 p12 (.tup [V.str "sub", V.str "pipe"]) = H10 at s9x ⊢
      have s810 := s89.trans s9x
      have hq10 := s9x _ _ hq9
      have pht := part_ht li
      have pp1 := ht_pos (nd.part i).t
      have hb := ld.hb
      obtain ⟨h0, rfl⟩ : ∃ h0, h = h0 + 1 := ⟨h - 1, by omega⟩
      have child : ∀ {Hc : Hp} {lpc : Addr} {svc : V} {lsc : List (List Int)}, Same H10 Hc → LD K Hc lpc (lsc.map pthT) → optV K Hc svc (shellUp (nd.part i).p ((nd.p, word nd.t) :: anc)) → lsc = kl nd ls → LdP K Hc rows m x p11 lpc svc (nd.part i) ((nd.p, word nd.t) :: anc) lsc (h0 + 1) := by
        intro Hc lpc svc lsc sc lc oc ec
        obtain ⟨i', o'⟩ := okt_in ok _ (kids_mem li)
        refine ⟨?_, sc _ _ hq10, lc, oc, .kid ld.t li, ⟨_, _, _, _, _, i', inL nd.t l, o', by rw [ec]; exact upI.kid⟩, by omega, by rw [List.length_cons]; omega, ?_, ?_⟩
        · rw [ekt]
          exact (dte.up (same_stay (s7b.trans (s810.trans sc))))
        · rw [ec, List.length_cons]
          have := kl_len (nd := nd) (ls := ls)
          omega
        · have := cnt_kid (kids_mem li)
          have := ld.cn
          omega
      have fin : ∀ (D2 : Addr) (H12 : Hp) (ts2 : List T), Same H10 H12 → LD K H12 D2 ts2 → Lds rows m (nodesOf [] (nd.part i)) ts2 → rCatL K (V.ref fk) (V.ref D2) H12 fun x3 H' => ∃ v6 v7 v8 fk' ts us, [some (V.ref a), some (V.ref sp), some (V.ref la), some sv, some (V.str (word nd.t)), some x3, some (V.int (i : Int)), some x, some (V.ref p11)] = [some (V.ref a), some (V.ref sp), some (V.ref la), some sv, some (V.str (word nd.t)), some (V.ref fk'), v6, v7, v8] ∧ Same H6 H' ∧ H' fk' = some (.lst us) ∧ H fk' = none ∧ Dats K H' us ts ∧ Lds rows m (((List.range (i + 1)).map nd.part).flatMap (nodesOf [])) ts := by
        intro D2 H12 ts2 s12 ld2 lds2
        obtain ⟨us2, h2, du3⟩ := ld2
        have s812 := s810.trans s12
        have lds3 : Lds rows m (((List.range (i + 1)).map nd.part).flatMap (nodesOf [])) (ts ++ ts2) := by
          rw [List.range_succ, List.map_append, List.flatMap_append]
          refine lds.app ?_
          show Lds rows m (nodesOf [] (nd.part i) ++ []) ts2
          rw [List.append_nil]
          exact lds2
        have b1 := lds3.len
        have b2 := parts_len (nd := nd) (n := i + 1) (by omega)
        have b3 := ld.cn
        have b4 := du2.len
        have b5 := du3.len
        rw [List.length_append] at b1
        have du4 := (du2.up (same_stay s812)).app du3
        refine ⟨fk, D2, us, us2, rfl, rfl, SqL.of (s812 _ _ hfk2), h2, by rw [sizeLine_eq]; omega, fun p np => ⟨_, _, _, p, ts ++ ts2, us ++ us2, rfl, (s7b.trans s812).trans (same_new np), upd_same, Same.none (s8.trans s812) np, du4.up (same_stay (same_new np)), lds3⟩⟩
      by_cases c6 : word nd.t = "sub" ∨ word nd.t = "pipe"
      · refine if_yes (decide_eq_true (by rcases c6 with e | e <;> (rw [e]; decide))) ?_
        refine ⟨_, rfl, _, rfl, _, rfl, sl (Nat.zero_le _), fun p13 n13 => ⟨_, rfl, ?_⟩⟩
        have s13 := same_new (o := .lst []) n13
        refine ⟨rows, m, x, p11, p13, .ref p11, nd.part i, _, [], rfl, child s13 ⟨[], upd_same, .nil⟩ ?_ ?_, fun D2 H12 ts2 s12 nD2 l2 lds2 => fin D2 H12 ts2 (s13.trans s12) l2 lds2⟩
        · rw [shell_kid, if_pos c6]
          exact ⟨p11, rfl, s13 _ _ hq10⟩
        · unfold kl
          rw [if_pos (.inr c6)]
      refine if_no (decide_eq_false fun z => c6 ?_) ?_
      · rcases List.mem_cons.mp z with z | z
        · exact .inl z
        · exact .inr (List.mem_singleton.mp z)
      have sh0 : shellUp (nd.part i).p ((nd.p, word nd.t) :: anc) = shellUp nd.p anc := by rw [shell_kid, if_neg c6]
      refine ⟨_, rfl, _, rfl, _, rfl, _, rfl, rfl, _, rfl, ?_⟩
      by_cases c7 : word nd.t = "trap"
      · refine if_yes (decide_eq_true (congrArg V.str c7)) ?_
        refine ⟨sl (Nat.zero_le _), fun p13 n13 => ⟨_, rfl, ?_⟩⟩
        have s13 := same_new (o := .lst []) n13
        refine ⟨rows, m, x, p11, p13, sv, nd.part i, _, [], rfl, child s13 ⟨[], upd_same, .nil⟩ ?_ ?_, fun D2 H12 ts2 s12 nD2 l2 lds2 => fin D2 H12 ts2 (s13.trans s12) l2 lds2⟩
        · rw [sh0]
          exact ld.sh.up ((s8.trans s810).trans s13)
        · unfold kl
          rw [if_pos (.inl c7)]
      · refine if_no (decide_eq_false fun z => c7 (V.str.inj z)) ?_
        refine ⟨_, rfl, _, rfl, ?_⟩
        refine ⟨rows, m, x, p11, la, sv, nd.part i, _, l2, rfl, child (fun _ _ z => z) (lda.up (s6.trans (s7b.trans s810))) ?_ ?_, fun D2 H12 ts2 s12 nD2 l2 lds2 => fin D2 H12 ts2 s12 l2 lds2⟩
        · rw [sh0]
          exact ld.sh.up (s8.trans s810)
        · unfold kl
          rw [if_neg (by rintro (e | e); exact c7 e; exact c6 e)]
          exact el2
end
end Wk

/-! Light trees. -/
namespace Ck
open PySem PySem.Spec PyProof.Rows L2
local macro_rules | `(tactic| bv_omega) => `(tactic| try dsimp only [L2.tRet, L2.tRetN, tAndV, tOrV, tNotV, tCB, L2.tCons, L2.tNil, tC, tVar, L2.tOp, L2.tUn, tSeq, tAsg, gName, tIfS, tTest, tNext, tAnd, tOr, tNot, L2.tIf, tFld, sFld, sFldAug, tCall, tTup, tB, tAug, tDrop, L2.tSl, tPart, tNoPart, tBM, tBM0, tChain, gTup, gCons, gNil, tPar, tIs, List.set, L2.start, iTup, L2.iList, L2.iRng1, tUn, tLst, tTest, gSub, tCall, L2.tIf, tCB, rRep, List.set, List.cons_append, List.nil_append, cxOf])
def grownW : List (Str × Int) → Rows → List (Str × Int)
  | fs, [] => fs
  | fs, r :: rs => grownW (fs ++ [(r.1, wei fs r.2)]) rs
theorem grownW_snoc : ∀ (rs : Rows) (fs : List (Str × Int)) (r : Str × Tr), grownW fs (rs ++ [r]) = grownW fs rs ++ [(r.1, wei (grownW fs rs) r.2)]
  | [], fs, r => rfl
  | q :: rs, fs, r => grownW_snoc rs (fs ++ [(q.1, wei fs q.2)]) r
theorem grownW_fst : ∀ (rs : Rows) (fs : List (Str × Int)), (grownW fs rs).map (·.1) = fs.map (·.1) ++ rs.map (·.1)
  | [], fs => (List.append_nil _).symm
  | r :: rs, fs => by
    show (grownW (fs ++ [(r.1, wei fs r.2)]) rs).map (·.1) = _
    rw [grownW_fst rs, List.map_append, List.append_assoc]
    rfl
/-- rows of a program that is being drawn -/
def RowsAny : List Str → Rows → Prop
  | _, [] => True
  | known, r :: rs => r.1 ∉ known ∧ Any known r.2 ∧ ht r.2 ≤ 20 ∧ RowsAny (known ++ [r.1]) rs
theorem RowsAny.at : ∀ {rs : Rows} {known : List Str} {i : Nat} {r : Str × Tr}, RowsAny known rs → rs[i]? = some r → r.1 ∉ known ++ (rs.take i).map (·.1) ∧ Any (known ++ (rs.take i).map (·.1)) r.2 ∧ ht r.2 ≤ 20
  | [], _, _, _, _, h => by cases h
  | q :: rs, known, 0, r, ok, h => by
    cases h
    obtain ⟨o1, o2, o3, _⟩ := ok
    rw [List.take_zero, List.map_nil, List.append_nil]
    exact ⟨o1, o2, o3⟩
  | q :: rs, known, i + 1, r, ok, h => by
    obtain ⟨_, _, _, o4⟩ := ok
    have z := RowsAny.at (rs := rs) (i := i) o4 h
    rw [List.append_assoc] at z
    exact z
theorem look_none {f : Str} : ∀ {fs : List (Str × Int)}, f ∉ fs.map (·.1) → fs.lookup f = none
  | [], _ => rfl
  | p :: fs, h => by
    have h2 : f ≠ p.1 ∧ f ∉ fs.map (·.1) := by simpa using h
    rw [List.lookup_cons]
    have z : (f == p.1) = false := by simpa using h2.1
    rw [z]
    exact look_none h2.2
theorem look_mem {f : Str} {v : Int} : ∀ {fs : List (Str × Int)}, fs.lookup f = some v → f ∈ fs.map (·.1)
  | [], h => by cases h
  | p :: fs, h => by
    by_cases e : f = p.1
    · rw [e]
      exact List.mem_cons_self
    · rw [List.lookup_cons] at h
      have z : (f == p.1) = false := by simpa using e
      rw [z] at h
      exact List.mem_cons_of_mem _ (look_mem h)
theorem ownW_ge {fs : List (Str × Int)} (nn : NN fs) (w : Str) (pre : List T) {i : Int} (h : 0 ≤ i) : 1 + i ≤ ownW fs w pre i := by
  unfold ownW
  split
  · refine Int.add_le_add_left (?_ : i ≤ _) 1
    conv => lhs; rw [← Int.one_mul i]
    exact Int.mul_le_mul_of_nonneg_right (Int.le_max_left _ _) h
  · have look : ∀ f : Str, 0 ≤ (fs.lookup f).getD 0 := by
      intro f
      cases e : fs.lookup f with
      | none => exact Int.le_refl _
      | some v =>
        obtain ⟨u, eu, u0⟩ := look_some (look_mem e) nn
        rw [e] at eu
        cases eu
        exact u0
    split
    · split
      · have := look ‹Str›
        omega
      · omega
    · omega
mutual
theorem wei_pos {fs : List (Str × Int)} (nn : NN fs) : ∀ t : Tr, 1 ≤ wei fs t ∧ (cnt t : Int) ≤ wei fs t
  | .mk b w pre ks post => by
    obtain ⟨h0, h1⟩ := weis_pos nn ks
    have z := ownW_ge nn w pre h0
    constructor
    · show 1 ≤ ownW fs w pre (weis fs ks)
      omega
    · show ((1 + cnts ks : Nat) : Int) ≤ ownW fs w pre (weis fs ks)
      omega
theorem weis_pos {fs : List (Str × Int)} (nn : NN fs) : ∀ ks : List Tr, 0 ≤ weis fs ks ∧ (cnts ks : Int) ≤ weis fs ks
  | [] => ⟨Int.le_refl _, Int.le_refl _⟩
  | k :: ks => by
    obtain ⟨a0, a1⟩ := wei_pos nn k
    obtain ⟨b0, b1⟩ := weis_pos nn ks
    constructor
    · show 0 ≤ wei fs k + weis fs ks
      omega
    · show ((cnt k + cnts ks : Nat) : Int) ≤ wei fs k + weis fs ks
      omega
end
theorem NN.grownW : ∀ (rs : Rows) {fs : List (Str × Int)}, NN fs → NN (grownW fs rs)
  | [], _, n => n
  | r :: rs, fs, n => NN.grownW rs (n.snoc (Int.le_trans (by decide) (wei_pos n r.2).1))
section
variable {X : Cx} {P : Program} {w : World} {K : PySem.W.Frag} {mg : Str → Option Value} {base : Heap} {H H1 H2 : Hp} {l : Addr} {dR dS : Addr} {adr : Kind → Addr}
abbrev sLig : Stmt := topS 67
abbrev NLi : List Str := ["_law_tree", "_law_rows", "_law_sizes", "_law_title", "_law_body"]
abbrev PLi : List Str := ["_law_tree", "_law_rows"]
theorem scLi : FnScope NLi PLi (defScope sLig) := ⟨rfl, rfl, rfl, by decide +kernel, rfl, by decide +kernel, by decide +kernel⟩
def rA : Tr := .mk false "run" [.str "a"] [] []
def spLig (K : PySem.W.Frag) : Sp := fun vs H Q _ => ∃ v rl tr rows, vs = [v, .ref rl] ∧ Dat K H v (enc tr) ∧ ht tr ≤ 20 ∧ Any (rows.map (·.1)) tr ∧ RowsAny [] rows ∧ LD K H rl (rows.map encF) ∧ rows.length ≤ 100 ∧
  ∀ v' H' tr', Same H H' → Dat K H' v' (enc tr') → ((tr' = tr ∧ wei (grownW [] rows) tr ≤ 500) ∨ tr' = rA) → Q v' H'
theorem ok_light {f : Addr} {fd : FuncData} (F : Fun K "_law_light" "_law_light" sLig f fd) (G : GWe P w K mg base 20) : FnOk P w K mg base CX0 22 f fd PLi (spLig K) := by
  refine F.ok scLi (fun vs H Q E h => ?_) (fun cdv A outer s H vs Q E hr hh => ?_)
  · obtain ⟨_, _, _, _, rfl, _⟩ := h
    rfl
  obtain ⟨v, rl, tr, rows, rfl, d, hb, an, ra, ⟨rx, er, dr⟩, few, q⟩ := hh
  have hu := hu_of hr
  refine ⟨_, (pss_cons (ps_set (i := 2) scLi.nd rfl (.inl rfl) pe_dnewK) (pss_cons (ps_for PassesOwn.never rfl (pi_list (pv 1)) (pg_tup rfl (L2.pgs_cons (pg_name (i := 3) scLi.nd rfl (.inl rfl)) (L2.pgs_cons (pg_name (i := 4) scLi.nd rfl (.inl rfl)) L2.pgs_nil)))
      (pss_one (ps_dput hu (pv 2) (pv 3) (pe_go (E := fun _ _ _ => False) G hr pass0 rfl (pa_cons (pv 4) (pa_cons (pv 2) pa_nil))) rfl))) (pss_one (ps_ret (pe_ifExp (pt_cmpR op_le (pe_go (E := fun _ _ _ => False) G hr pass0 rfl (pa_cons (pv 0) (pa_cons (pv 2) pa_nil))) pe_int rfl) (pv 0) (pe_tup (pa_cons pe_str (pa_cons pe_str pa_nil)))))))), ?_⟩
  bv_omega
  intro dd nd
  bv_omega
  refine loop_in ?_
  bv_omega
  have s0 := same_new (o := .dK []) nd
  have nlen : rx.length = rows.length := by rw [dr.len, List.length_map]
  refine ⟨_, rfl, rl, rfl, ⟨_, .inl (.inl (s0 _ _ er))⟩, loop_list (K := K) (a := rl) (xs := rx) (fun i σ H' => Same H H' ∧ H' dd = some (.dK (ftab (grownW [] (rows.take i)))) ∧ ∃ v3 v4, σ = [some v, some (.ref rl), some (.ref dd), v3, v4]) ⟨s0, upd_same, _, _, rfl⟩ (fun i σ H' li s => .inl (.inl (s.1 _ _ er))) ?hs ?hd⟩
  case hs =>
    rintro i x σ H2 hx ⟨s2, h2, v3, v4, rfl⟩
    obtain ⟨t, et, dt⟩ := dats_at dr hx
    rw [List.getElem?_map] at et
    cases er2 : rows[i]? with
    | none => rw [er2] at et; cases et
    | some r =>
    rw [er2] at et
    cases et
    obtain ⟨o1, o2, o3⟩ := ra.at er2
    have dt2 := dt.up (same_stay s2)
    obtain ⟨p, xs, rfl, hp, dxs⟩ := dat_tup dt2
    obtain ⟨y0, us, rfl, d0, dxs⟩ := dats_cons dxs
    obtain ⟨y1, us, rfl, d1, dxs⟩ := dats_cons dxs
    cases dats_nil dxs
    cases dat_str d0
    bv_omega
    refine ⟨p, _, rfl, sqt hp, rfl, _, _, rfl, _, _, rfl, rfl, ?_⟩
    bv_omega
    dsimp only [sDPut]
    bv_omega
    have nn := NN.grownW (rows.take i) (fs := []) fun p m => by cases m
    have fs1 := grownW_fst (rows.take i) []
    refine ⟨_, rfl, _, rfl, y1, dd, r.2, grownW [] (rows.take i), rfl, d1, o3, by rw [fs1]; exact o2, nn, h2, fun H3 s3 => ?_⟩
    refine ⟨_, rfl, _, rfl, dd, _, rfl, DPut.k (k := Sum.inr r.1) (s3 _ _ h2) ?_, ?_⟩
    · have ln := congrArg List.length fs1
      rw [List.length_map, List.length_append, List.length_map, List.length_map, List.length_take] at ln
      unfold ftab
      rw [List.length_map, sizeLine_eq]
      have z : ([] : List (Str × Int)).length = 0 := rfl
      omega
    · rw [putK_ftab (look_none (by rw [fs1]; exact o1))]
      refine ⟨Ck.Same.up (s2.trans s3) nd, ?_, _, _, rfl⟩
      rw [upd_same, List.take_add_one, er2, Option.toList_some, grownW_snoc]
  case hd =>
    rintro σ H2 ⟨s2, h2, v3, v4, rfl⟩
    rw [nlen, List.take_length] at h2
    have nn := NN.grownW rows (fs := []) fun p m => by cases m
    have fs1 := grownW_fst rows []
    have d2 := d.up (same_stay s2)
    bv_omega
    refine ⟨_, rfl, _, rfl, v, dd, tr, grownW [] rows, rfl, d2, hb, by rw [fs1]; exact an, nn, h2, fun H3 s3 => ?_⟩
    refine ⟨_, _, rfl, rfl, _, rfl, ?_⟩
    by_cases c : wei (grownW [] rows) tr ≤ 500
    · refine if_yes (decide_eq_true c) ⟨_, rfl, ?_⟩
      exact q v H3 tr (s2.trans s3) (d2.up (same_stay s3)) (.inl ⟨rfl, c⟩)
    · refine if_no (decide_eq_false c) ⟨sl (by decide), fun p np => ?_⟩
      exact q _ _ rA ((s2.trans s3).trans (same_new np)) (Dats.tup (.cons (.str (by decide +kernel)) (.cons (.str (by decide +kernel)) .nil)) upd_same) (.inr rfl)
end
end Ck

/-! Picks; calls that draw. -/
namespace Ck
open PySem PySem.Spec PyProof.Rows L2
local macro_rules | `(tactic| bv_omega) => `(tactic| try dsimp only [L2.tRet, L2.tRetN, tAndV, tOrV, tNotV, tCB, L2.tCons, L2.tNil, tC, tVar, L2.tOp, L2.tUn, tSeq, tAsg, gName, tIfS, tTest, tNext, tAnd, tOr, tNot, L2.tIf, tFld, sFld, sFldAug, tCall, tTup, tB, tAug, tDrop, L2.tSl, tPart, tNoPart, tBM, tBM0, tChain, gTup, gCons, gNil, tPar, tIs, List.set, L2.start, iTup, L2.iList, L2.iRng1, tUn, tLst, tTest, gSub, tCall, L2.tIf, tCB, rRep, List.set, List.cons_append, List.nil_append, cxOf])
abbrev KSet := List T → List Str → Prop
section
variable {X : Cx} {P : Program} {w : World} {K : PySem.W.Frag} {mg : Str → Option Value} {base : Heap} {H H1 H2 : Hp} {l : Addr}
abbrev sPick : Stmt := topS 63
theorem scPk : FnScope ["_law_source_here", "_law_options"] ["_law_source_here", "_law_options"] (defScope sPick) := ⟨rfl, rfl, rfl, by decide +kernel, rfl, by decide +kernel, by decide +kernel⟩
def spPick (K : PySem.W.Frag) : Sp := fun vs H Q _ => ∃ l a ts, vs = [.ref l, .ref a] ∧ Sr l H ∧ a ≠ l ∧ LD K H a ts ∧ ts ≠ [] ∧ ts.length ≤ 1000 ∧ ∀ t v H', t ∈ ts → Dr l H H' → Dat K H' v t → Q v H'
theorem ok_pick {f : Addr} {fd : FuncData} (F : Fun K "_law_pick" "_law_pick" sPick f fd) (GT : GTk P w K mg base) (ml : mg "len" = none) : FnOk P w K mg base CX0 89 f fd ["_law_source_here", "_law_options"] (spPick K) := by
  refine F.ok scPk (fun vs H Q E h => ?_) (fun cdv A outer s H vs Q E hr h => ?_)
  · obtain ⟨_, _, _, rfl, _⟩ := h
    rfl
  obtain ⟨l, a, ts, rfl, sr, na, ⟨xs, ex, dx⟩, ne, few, q⟩ := h
  refine ⟨_, pss_one (ps_ret (pe_ix ix_list (pv 1) (pe_go GT hr pass0 rfl (pa_cons (pv 0) (pa_cons (pe_callB call_len_seq rfl ml PySem.boot_len (pa_cons (pv 1) pa_nil)) pa_nil))) fun _ _ => rfl)), ?_⟩
  bv_omega
  have ln := dx.len
  have l0 : 0 < xs.length := by
    rw [ln]
    exact List.length_pos_iff.mpr ne
  refine ⟨_, rfl, _, rfl, _, rfl, a, xs, rfl, .inl (.inl (.inl ex)), ?_⟩
  refine take_use sr (by omega) (by omega) fun r H1 r0 r1 st keep sr1 => ?_
  obtain ⟨k, rfl⟩ := Int.eq_ofNat_of_zero_le r0
  have kl : k < ts.length := by omega
  obtain ⟨y, ey, dy⟩ := dx.at (List.getElem?_eq_getElem kl)
  have dr : Dr l H H1 := ⟨fun p o n z => (keep p n).trans z, st, sr1⟩
  exact ⟨a, xs, _, y, rfl, rfl, .inl (.inl (dr.keep _ _ na ex)), atI_nat ey, q _ _ _ (List.getElem_mem kl) dr (dy.up st)⟩
abbrev GPk (P : Program) (w : World) (K : PySem.W.Frag) (mg : Str → Option Value) (base : Heap) : Prop := Go P w K mg base CX0 89 "_law_pick" ["_law_source_here", "_law_options"] (spPick K)
theorem pr_pick {e : Expr} {C : L2.St → Hp → TsSet → Prop} {x : Str} {p p2 pos : Pos} {i : Nat} (GP : GPk X.prog X.w X.K X.mg X.base) (hr : Room 89 X.A) (hg : Gl X "_law_pick") (hx : PE X (.Name x p2) (tVar i)) (he : PRl X l e C) (h1 : starEach [Expr.Name x p2, e] X.env = (false, eval (Expr.Name x p2) X.env) :: starEach [e] X.env := by rfl) (h2 : starEach [e] X.env = (false, eval e X.env) :: starEach [] X.env := by rfl) (hpl : (backTo pos (starEach [e] X.env)).any (·.1) = false := by rfl) :
    PR X l (.Call (.Name "_law_pick" p) [.Name x p2, e] [] pos) fun σ H D => σ[i]? = some (some (.ref l)) ∧ ∃ D1, C σ H D1 ∧ (∀ ts, D1 ts → ts ≠ [] ∧ ts.length ≤ 1000) ∧ D = fun t => ∃ ts, D1 ts ∧ t ∈ ts :=
  ⟨pe_imp (pe_go GP hr pass0 hg (pa_cons hx (pa_cons he.pe pa_nil h2) h1) (by decide) h1 hpl) fun σ H Q ⟨D, ⟨el, D1, c, b, e⟩, s, q⟩ => by
    subst e
    refine ⟨_, el, ⟨D1, c, s, fun ts a H1 d1 r1 na ld => ?_⟩⟩
    obtain ⟨ne, few⟩ := b ts d1
    bv_omega
    exact ⟨l, a, ts, rfl, r1.sr, na, ld, ne, few, fun t v H2 m r2 d2 => q _ _ _ ⟨ts, d1, m⟩ (r1.trans r2) d2⟩, fun σ _ _ _ s ⟨el, D1, c, b, e⟩ => ⟨el, D1, he.up _ _ _ _ s c, b, e⟩⟩
/-! ### a def that draws something, with what may be called -/
def spG (K : PySem.W.Frag) (n : Nat) (Pre : KSet) (Post : List T → List Str → T → Prop) : Sp := fun vs H Q _ => ∃ l us ts kn known, vs = .ref l :: (us ++ [.ref kn]) ∧ us.length = n ∧ Sr l H ∧ Dats K H us ts ∧ kn ≠ l ∧ LD K H kn (known.map T.str) ∧ Pre ts known ∧ ∀ t v H', Post ts known t → Dr l H H' → Dat K H' v t → Q v H'
abbrev tGs (K : PySem.W.Frag) (l : Addr) (C : L2.St → Hp → KSet → Prop) : TA := fun σ H Q => ∃ D, C σ H D ∧ Sr l H ∧ ∀ ts known us kn H', D ts known → Dr l H H' → Dats K H' us ts → kn ≠ l → LD K H' kn (known.map T.str) → Q (us ++ [.ref kn]) H'
structure PGs (X : Cx) (l : Addr) (es : List Expr) (C : L2.St → Hp → KSet → Prop) : Prop where
  pa : PA X es (tGs X.K l C)
  up : ∀ σ H H' D, Dr l H H' → C σ H D → C σ H' D
theorem pgs_last {e : Expr} {C : L2.St → Hp → TsSet → Prop} (a : PRl X l e C) (h : starEach [e] X.env = (false, eval e X.env) :: starEach [] X.env := by rfl) :
    PGs X l [e] fun σ H D => ∃ D1, C σ H D1 ∧ (∀ ts, D1 ts → ∃ known : List Str, ts = known.map T.str) ∧ D = fun ts known => ts = [] ∧ D1 (known.map T.str) :=
  ⟨pa_imp (pa_cons a.pe pa_nil h) fun σ H Q ⟨D, ⟨D1, c, b, e⟩, s, q⟩ => by
    subst e
    refine ⟨D1, c, s, fun ts a H1 d1 r1 na ld => ?_⟩
    obtain ⟨known, rfl⟩ := b ts d1
    exact q [] known [] a H1 ⟨rfl, d1⟩ r1 .nil na ld, fun σ _ _ _ s ⟨D1, c, b, e⟩ => ⟨D1, a.up _ _ _ _ s c, b, e⟩⟩
theorem pgs_cons {e : Expr} {es : List Expr} {C : L2.St → Hp → TSet → Prop} {Cs : L2.St → Hp → KSet → Prop} (a : PR X l e C) (r : PGs X l es Cs) (h : starEach (e :: es) X.env = (false, eval e X.env) :: starEach es X.env := by rfl) :
    PGs X l (e :: es) fun σ H D => ∃ D1 D2, C σ H D1 ∧ Cs σ H D2 ∧ D = fun ts known => ∃ t us, ts = t :: us ∧ D1 t ∧ D2 us known :=
  ⟨pa_imp (pa_cons a.pe r.pa h) fun σ H Q ⟨D, ⟨D1, D2, c1, c2, e⟩, s, q⟩ => by
    subst e
    refine ⟨D1, c1, s, fun t v H1 d1 r1 a1 => ⟨D2, r.up _ _ _ _ r1 c2, r1.sr, fun ts known us kn H2 d2 r2 a2 nk ld => ?_⟩⟩
    exact q (t :: ts) known (v :: us) kn H2 ⟨t, ts, rfl, d1, d2⟩ (r1.trans r2) (.cons (a1.up r2.st) a2) nk ld, fun σ _ _ _ s ⟨D1, D2, c1, c2, e⟩ => ⟨D1, D2, a.up _ _ _ _ s c1, r.up _ _ _ _ s c2, e⟩⟩
theorem pr_gen {e : Expr} {es : List Expr} {k n : Nat} {ps : List Str} {Pre : KSet} {Post : List T → List Str → T → Prop} {C : L2.St → Hp → KSet → Prop} {f x : Str} {p p2 pos : Pos} {i : Nat} (G : Go X.prog X.w X.K X.mg X.base CX0 k f ps (spG X.K n Pre Post)) (hr : Room k X.A) (hg : Gl X f) (hx : PE X (.Name x p2) (tVar i)) (he : PGs X l (e :: es) C)
    (hdb : (f == ("__debug__" : Str)) = false := by decide) (h1 : starEach (Expr.Name x p2 :: e :: es) X.env = (false, eval (Expr.Name x p2) X.env) :: starEach (e :: es) X.env := by rfl) (hpl : (backTo pos (starEach (e :: es) X.env)).any (·.1) = false := by rfl) :
    PR X l (.Call (.Name f p) (.Name x p2 :: e :: es) [] pos) fun σ H D => σ[i]? = some (some (.ref l)) ∧ ∃ D1, C σ H D1 ∧ (∀ ts known, D1 ts known → ts.length = n ∧ Pre ts known) ∧ D = fun t => ∃ ts known, D1 ts known ∧ Post ts known t :=
  ⟨pe_imp (pe_go G hr pass0 hg (pa_cons hx he.pa h1) hdb h1 hpl) fun σ H Q ⟨D, ⟨el, D1, c, b, e⟩, s, q⟩ => by
    subst e
    refine ⟨_, el, ⟨D1, c, s, fun ts known us kn H1 d1 r1 a1 nk ld => ?_⟩⟩
    obtain ⟨ln, pre⟩ := b ts known d1
    bv_omega
    exact ⟨l, us, ts, kn, known, (by rw [List.append_nil]), (by rw [a1.len, ln]), r1.sr, a1, nk, ld, pre, fun t v H2 po r2 d2 => q _ _ _ ⟨ts, known, d1, po⟩ (r1.trans r2) d2⟩, fun σ _ _ _ s ⟨el, D1, c, b, e⟩ => ⟨el, D1, he.up _ _ _ _ s c, b, e⟩⟩
end
end Ck

/-! A tree without trees within it. -/
namespace Ck
open PySem PySem.Spec PyProof.Rows L2
local macro_rules | `(tactic| bv_omega) => `(tactic| try dsimp only [L2.tRet, L2.tRetN, tAndV, tOrV, tNotV, tCB, L2.tCons, L2.tNil, tC, tVar, L2.tOp, L2.tUn, tSeq, tAsg, gName, tIfS, tTest, tNext, tAnd, tOr, tNot, L2.tIf, tFld, sFld, sFldAug, tCall, tTup, tB, tAug, tDrop, L2.tSl, tPart, tNoPart, tBM, tBM0, tChain, gTup, gCons, gNil, tPar, tIs, List.set, L2.start, iTup, L2.iList, L2.iRng1, tUn, tLst, tTest, gSub, tCall, L2.tIf, tCB, rRep, List.set, List.cons_append, List.nil_append, cxOf])
abbrev few0 : List Str := ["a", "ab", "b", "f", "docker"]
abbrev vars0 : List Str := ["x", "x", "ax"]
abbrev C0 : List Str := ["a", "ab", "b", "f", "docker", "e", "z"]
abbrev W0 : List Str := ["x", "ax"]
abbrev knowns : List (List Str) := [[], ["f"], ["f", "g"], ["f", "g", "h"]]
section
variable {X : Cx} {P : Program} {w : World} {K : PySem.W.Frag} {mg : Str → Option Value} {base : Heap} {H H1 H2 : Hp} {l : Addr}
theorem known_ne {known : List Str} {kn b : Addr} {Q : VK} (m : known ∈ knowns) (ld : LD K H kn (known.map T.str)) (hb : H b = some (.lst [])) (q0 : known = [] → Q (.bl false) H) (q1 : known ≠ [] → Q (.bl true) H) : rNeD K (.ref kn) (.ref b) H Q := by
  obtain ⟨xs, ex, dx⟩ := ld
  have dp := Dp.lst (.inl (.inl ex)) (dx.im.dp dx.fl)
  have db : Dp K H (.ref b) (.list []) := Dp.lst (.inl (.inl hb)) .nil
  have z : ∀ k ∈ knowns, SeqAt.shaped (.list (toDs (k.map T.str))) = true ∧ (!PyData.eqv (.list (toDs (k.map T.str))) (.list [])) = decide (k ≠ []) := by decide +kernel
  obtain ⟨z1, z2⟩ := z known m
  refine ⟨_, _, dp, db, z1, by decide +kernel, ?_⟩
  rw [z2]
  by_cases c : known = []
  · rw [decide_eq_false (fun n => n c)]
    exact q0 c
  · rw [decide_eq_true c]
    exact q1 c
theorem mem_strs {zs : List Str} {t : T} (h : t ∈ zs.map T.str) : ∃ c, c ∈ zs ∧ t = .str c := by
  obtain ⟨c, m, e⟩ := List.mem_map.mp h
  exact ⟨c, m, e.symm⟩
theorem mem_nums {n : Int} {t : T} (n0 : 0 ≤ n) (n1 : n ≤ 255) (m : t ∈ [.int 0, .int 1, .int 2, .int n]) : ∃ k : Int, t = .int k ∧ 0 ≤ k ∧ k ≤ 255 := by
  rcases List.mem_cons.mp m with rfl | m
  · exact ⟨0, rfl, by decide, by decide⟩
  rcases List.mem_cons.mp m with rfl | m
  · exact ⟨1, rfl, by decide, by decide⟩
  rcases List.mem_cons.mp m with rfl | m
  · exact ⟨2, rfl, by decide, by decide⟩
  · rw [List.mem_singleton.mp m]
    exact ⟨n, rfl, n0, n1⟩
theorem dn {i j : Int} (h : i ≠ j) : decide (V.int i = V.int j) = false := decide_eq_false fun e => h (V.int.inj e)
theorem known_few {known : List Str} (m : known ∈ knowns) : known.length ≤ 1000 := by
  have z : ∀ k ∈ knowns, k.length ≤ 1000 := by decide
  exact z known m
abbrev sSmall : Stmt := topS 64
abbrev NS : List Str := ["_law_source_here", "_law_loops", "_law_within", "_law_known", "_law_way", "_law_number", "_law_one", "_law_some", "_law_mode"]
abbrev PSm : List Str := ["_law_source_here", "_law_loops", "_law_within", "_law_known"]
theorem scSm : FnScope NS PSm (defScope sSmall) := ⟨rfl, rfl, rfl, by decide +kernel, rfl, by decide +kernel, by decide +kernel⟩
def PreS : KSet := fun ts known => known ∈ knowns ∧ ∃ (lp : Nat) (wi : Bool), ts = [.int (lp : Nat), .bl wi] ∧ lp ≤ 100
def PostS : List T → List Str → T → Prop := fun ts known t => ∃ (lp : Nat) (wi : Bool) (tr : Tr), ts = [.int (lp : Nat), .bl wi] ∧ t = enc tr ∧ Okt C0 W0 255 255 known wi lp tr ∧ ht tr = 1
theorem out_s {lp : Nat} {wi : Bool} {known : List Str} {Q : VK} (q : ∀ t v H', PostS [.int (lp : Nat), .bl wi] known t → Dr l H H' → Dat K H' v t → Q v H') (tr : Tr) (o : Okt C0 W0 255 255 known wi lp tr) (h : ht tr = 1) {v : V} (dr : Dr l H H1) (d : Dat K H1 v (enc tr)) : Q v H1 :=
  q _ v H1 ⟨lp, wi, tr, rfl, rfl, o, h⟩ dr d
theorem ok_small {f : Addr} {fd : FuncData} (F : Fun K "_law_jump" "_law_jump" sSmall f fd) (GT : GTk P w K mg base) (GP : GPk P w K mg base) : FnOk P w K mg base CX0 90 f fd PSm (spG K 2 PreS PostS) := by
  refine F.ok scSm (fun vs H Q E h => ?_) (fun cdv A outer s H vs Q E hr h => ?_)
  · obtain ⟨_, us, _, _, _, rfl, ln, _⟩ := h
    show (_ :: (us ++ [_])).length = 4
    rw [List.length_cons, List.length_append, ln]
    rfl
  obtain ⟨l, us, ts, kn, known, rfl, ln, sr, ds, nk, ld, ⟨mk, lp, wi, rfl, few⟩, q⟩ := h
  obtain ⟨v0, us, rfl, d0, ds⟩ := dats_cons ds
  obtain ⟨v1, us, rfl, d1, ds⟩ := dats_cons ds
  cases dats_nil ds
  cases dat_int d0
  cases dat_bl d1
  have hr8 := hr.mono (j := 88) (by decide)
  have hr9 := hr.mono (j := 89) (by decide)
  refine ⟨_, (pss_cons (ps_set (i := 4) scSm.nd rfl (.inl rfl) (pe_r (pr_take (l := l) GT hr8 rfl (pv 0) pr_int))) (pss_cons (ps_if (pt_cmpR op_lt (pv 4) pe_int rfl) (pss_one (ps_ret (pe_r (pr_tup (l := l) (prs_cons pr_str (prs_cons (pr_pick GP hr9 rfl (pv 0) (prl_disp (prs_cons pr_str (prs_cons pr_str (prs_cons pr_str (prs_cons pr_str (prs_cons pr_str prs_nil))))))) prs_nil)))))) pss_nil) (pss_cons (ps_set (i := 5) scSm.nd rfl (.inl rfl) (pe_r (pr_atL (l := l) (prl_disp (prs_cons pr_int (prs_cons pr_int (prs_cons pr_int (prs_cons (pr_take GT hr8 rfl (pv 0) pr_int) prs_nil))))) (pr_take GT hr8 rfl (pv 0) pr_int) fun _ _ => rfl))) (pss_cons (ps_if (PW.pt (pw_and (pt_cmpR op_lt (pv 4) pe_int rfl) (pw_and1 (pt_cmpR op_gt (pv 1) pe_int rfl)))) (pss_one (ps_ret (pe_r (pr_tup (l := l) (prs_cons (pr_pick GP hr9 rfl (pv 0) (prl_disp (prs_cons pr_str (prs_cons pr_str prs_nil)))) (prs_cons (pr_bin op_add pr_int (pr_take GT hr8 rfl (pv 0) (pr_var 1 (pv 1)))) prs_nil)))))) pss_nil) (pss_cons (ps_if (PW.pt (pw_and (pt_cmpR op_eq (pv 4) pe_int rfl) (pw_and1 (pt_val (pv 2))))) (pss_one (ps_ret (pe_r (pr_tup (l := l) (prs_cons pr_str (prs_cons (pr_pick GP hr9 rfl (pv 0) (prl_disp (prs_cons pr_non (prs_cons (pr_var 5 (pv 5)) prs_nil)))) prs_nil)))))) pss_nil) (pss_cons (ps_if (pt_cmpR op_eq (pv 4) pe_int rfl) (pss_one (ps_ret (pe_r (pr_tup (l := l) (prs_cons pr_str (prs_cons (pr_pick GP hr9 rfl (pv 0) (prl_disp (prs_cons pr_non (prs_cons (pr_var 5 (pv 5)) prs_nil)))) prs_nil)))))) pss_nil) (pss_cons (ps_if (PW.pt (pw_and (pt_cmpR op_lt (pv 4) pe_int rfl) (pw_and1 (pt_cmpR (op_neD hr8.units) (pv 3) (pe_lst pa_nil) rfl)))) (pss_one (ps_ret (pe_r (pr_tup (l := l) (prs_cons pr_str (prs_cons (pr_pick GP hr9 rfl (pv 0) (prl_var 3 (pv 3))) prs_nil)))))) pss_nil) (pss_cons (ps_set (i := 6) scSm.nd rfl (.inl rfl) (pe_r (pr_pick (l := l) GP hr9 rfl (pv 0) (prl_disp (prs_cons pr_str (prs_cons pr_str (prs_cons pr_str prs_nil))))))) (pss_cons (ps_set (i := 7) scSm.nd rfl (.inl rfl) (pe_rl (prl_disp (l := l) (prs_cons (pr_tup (prs_cons pr_str (prs_cons (pr_var 5 (pv 5)) prs_nil))) (prs_cons (pr_tup (prs_cons pr_str (prs_cons (pr_var 6 (pv 6)) prs_nil))) (prs_cons (pr_tup (prs_cons pr_str (prs_cons (pr_var 6 (pv 6)) prs_nil))) (prs_cons (pr_tup (prs_cons pr_str (prs_cons (pr_var 6 (pv 6)) (prs_cons (pr_var 5 (pv 5)) prs_nil)))) (prs_cons (pr_tup (prs_cons pr_str (prs_cons (pr_var 6 (pv 6)) prs_nil))) prs_nil)))))))) (pss_cons (ps_set (i := 8) scSm.nd rfl (.inl rfl) (pe_r (pr_pick (l := l) GP hr9 rfl (pv 0) (prl_disp (prs_cons pr_str (prs_cons pr_str (prs_cons pr_str prs_nil))))))) (pss_one (ps_ret (pe_r (pr_pick (l := l) GP hr9 rfl (pv 0) (prl_cat (prl_var 7 (pv 7)) (prl_disp (prs_cons (pr_tup (prs_cons pr_str (prs_cons (pr_var 8 (pv 8)) (prs_cons pr_bool prs_nil)))) (prs_cons (pr_tup (prs_cons pr_str (prs_cons (pr_var 8 (pv 8)) (prs_cons pr_bool prs_nil)))) prs_nil)))))))))))))))))), ?_⟩
  bv_omega
  refine' Exists.intro _ ⟨?_, by assumption, ?_⟩
  rotate_left 1
  · (repeat' (first | rfl | exact Dat.int _ | exact Dat.bl _ | (refine (?_ : Dat _ _ _ _); assumption) | (refine (?_ : LD _ _ _ _); assumption) | (refine (?_ : _ ≠ _); assumption) | refine' Exists.intro _ ?_ | refine And.intro ?_ ?_))
    all_goals (first | (first | (rintro _ rfl; exact ⟨_, rfl, by decide, by decide⟩) | (intro ts h; (repeat (obtain ⟨_, _, rfl, _, h⟩ := h)); (try cases h); exact Nat.le_of_ble_eq_true rfl) | (intro ts h; (repeat (obtain ⟨_, _, rfl, _, h⟩ := h)); (try cases h); exact ⟨List.cons_ne_nil _ _, Nat.le_of_ble_eq_true rfl⟩) | (rintro _ _ rfl rfl; exact ⟨_, _, rfl, rfl⟩)))
  rintro _ v4 H2 ⟨_, r, ⟨⟩, r0, rb, rfl⟩ r2 dv
  cases dat_int dv
  obtain ⟨k, rfl⟩ := Int.eq_ofNat_of_zero_le r0
  have sr2 := r2.sr
  have ld2 := ld.dr r2 nk
  bv_omega
  refine ⟨_, rfl, _, _, rfl, rfl, _, rfl, ?_⟩
  by_cases c6 : (k : Int) < 6
  · refine if_yes (decide_eq_true c6) ?_
    refine' Exists.intro _ ⟨?_, by assumption, ?_⟩
    rotate_left 1
    · (repeat' (first | rfl | exact Dat.int _ | exact Dat.bl _ | (refine (?_ : Dat _ _ _ _); assumption) | (refine (?_ : LD _ _ _ _); assumption) | (refine (?_ : _ ≠ _); assumption) | refine' Exists.intro _ ?_ | refine And.intro ?_ ?_))
      all_goals (first | (first | (rintro _ rfl; exact ⟨_, rfl, by decide, by decide⟩) | (intro ts h; (repeat (obtain ⟨_, _, rfl, _, h⟩ := h)); (try cases h); exact Nat.le_of_ble_eq_true rfl) | (intro ts h; (repeat (obtain ⟨_, _, rfl, _, h⟩ := h)); (try cases h); exact ⟨List.cons_ne_nil _ _, Nat.le_of_ble_eq_true rfl⟩) | (rintro _ _ rfl rfl; exact ⟨_, _, rfl, rfl⟩)))
    rintro u v H3 ⟨_, rfl, _, _, rfl, rfl, _, _, rfl, ⟨_, ⟨_, _, rfl, rfl, _, _, rfl, rfl, _, _, rfl, rfl, _, _, rfl, rfl, _, _, rfl, rfl, rfl⟩, m⟩, rfl⟩ r3 dv
    obtain ⟨c, cm, rfl⟩ := mem_strs (zs := few0) m
    exact out_s q (.mk false "run" [.str c] [] []) (.run ((by decide : ∀ c ∈ few0, c ∈ C0) c cm)) rfl (r2.trans r3) dv
  refine if_no (decide_eq_false c6) ?_
  bv_omega
  refine' Exists.intro _ ⟨?_, by assumption, ?_⟩
  rotate_left 1
  · (repeat' (first | rfl | exact Dat.int _ | exact Dat.bl _ | (refine (?_ : Dat _ _ _ _); assumption) | (refine (?_ : LD _ _ _ _); assumption) | (refine (?_ : _ ≠ _); assumption) | refine' Exists.intro _ ?_ | refine And.intro ?_ ?_))
    all_goals (first | (first | (rintro _ rfl; exact ⟨_, rfl, by decide, by decide⟩) | (intro ts h; (repeat (obtain ⟨_, _, rfl, _, h⟩ := h)); (try cases h); exact Nat.le_of_ble_eq_true rfl) | (intro ts h; (repeat (obtain ⟨_, _, rfl, _, h⟩ := h)); (try cases h); exact ⟨List.cons_ne_nil _ _, Nat.le_of_ble_eq_true rfl⟩) | (rintro _ _ rfl rfl; exact ⟨_, _, rfl, rfl⟩)) | (rintro _ _ ⟨_, _, rfl, rfl, _, _, rfl, rfl, _, _, rfl, rfl, _, _, rfl, ⟨_, n, ⟨⟩, n0, n1, rfl⟩, rfl⟩ ⟨_, j, ⟨⟩, j0, j1, rfl⟩; obtain rfl | rfl | rfl | rfl : j = 0 ∨ j = 1 ∨ j = 2 ∨ j = 3 := (by omega); exact ⟨0, _, rfl, rfl⟩; exact ⟨1, _, rfl, rfl⟩; exact ⟨2, _, rfl, rfl⟩; exact ⟨3, _, rfl, rfl⟩))
  rintro _ v5 H3 ⟨_, jj, ⟨_, _, rfl, rfl, _, _, rfl, rfl, _, _, rfl, rfl, _, _, rfl, ⟨_, n, ⟨⟩, n0, n1, rfl⟩, rfl⟩, _, eu⟩ r3 d5
  obtain ⟨num, rfl, m0, m1⟩ := mem_nums n0 (by omega) (List.mem_of_getElem? eu)
  cases dat_int d5
  have sr3 := r3.sr
  have ld3 := ld2.dr r3 nk
  have r13 := r2.trans r3
  bv_omega
  obtain rfl | rfl | rfl | rfl | rfl | rfl | rfl | rfl | rfl | rfl : k = 6 ∨ k = 7 ∨ k = 8 ∨ k = 9 ∨ k = 10 ∨ k = 11 ∨ k = 12 ∨ k = 13 ∨ k = 14 ∨ k = 15 := by omega
  · refine ⟨_, rfl, _, _, rfl, rfl, _, rfl, ?_⟩
    refine if_yes (decide_eq_true (by decide)) ?_
    bv_omega
    refine ⟨_, rfl, _, _, rfl, rfl, _, rfl, ?_⟩
    by_cases l0 : (lp : Int) > 0
    · refine if_yes (decide_eq_true l0) ?_
      bv_omega
      refine' Exists.intro _ ⟨?_, by assumption, ?_⟩
      rotate_left 1
      · (repeat' (first | rfl | exact Dat.int _ | exact Dat.bl _ | (refine (?_ : Dat _ _ _ _); assumption) | (refine (?_ : LD _ _ _ _); assumption) | (refine (?_ : _ ≠ _); assumption) | refine' Exists.intro _ ?_ | refine And.intro ?_ ?_))
        all_goals (first | (first | (rintro _ rfl; exact ⟨_, rfl, by decide, by decide⟩) | (intro ts h; (repeat (obtain ⟨_, _, rfl, _, h⟩ := h)); (try cases h); exact Nat.le_of_ble_eq_true rfl) | (intro ts h; (repeat (obtain ⟨_, _, rfl, _, h⟩ := h)); (try cases h); exact ⟨List.cons_ne_nil _ _, Nat.le_of_ble_eq_true rfl⟩) | (rintro _ _ rfl rfl; exact ⟨_, _, rfl, rfl⟩)) | (rintro _ rfl; exact ⟨_, rfl, by omega, by omega⟩) | (rintro _ _ rfl ⟨_, _, _, _, _, rfl⟩; exact ⟨_, _, rfl, rfl⟩))
      rintro u v H4 ⟨_, rfl, _, _, rfl, ⟨_, ⟨_, _, rfl, rfl, _, _, rfl, rfl, rfl⟩, m9⟩, _, _, rfl, ⟨_, r, ⟨⟩, ⟨_, _, ⟨⟩, q0, q1, ⟨⟩⟩, rfl⟩, rfl⟩ r4 dv
      obtain ⟨wj, wm, rfl⟩ := mem_strs (zs := ["break", "next"]) m9
      refine out_s q (.mk false wj [.int (1 + r)] [] []) (.jump ?_ (by omega) (by omega)) rfl (r13.trans r4) dv
      rcases List.mem_cons.mp wm with e | e
      · exact .inl e
      · exact .inr (List.mem_singleton.mp e)
    · refine if_no (decide_eq_false l0) ?_
      bv_omega
      refine ⟨_, rfl, rfl, _, rfl, ?_⟩
      refine if_no (dn (by decide)) ?_
      bv_omega
      refine ⟨_, rfl, rfl, _, rfl, ?_⟩
      refine if_no (dn (by decide)) ?_
      bv_omega
      refine ⟨_, rfl, _, _, rfl, rfl, _, rfl, ?_⟩
      refine if_yes (decide_eq_true (by decide)) ?_
      bv_omega
      refine ⟨_, rfl, sl (Nat.zero_le _), fun b nb => ?_⟩
      have rb := (Dr.refl sr3).new (o := .lst []) nb
      have srb := rb.sr
      have ldb := ld3.dr rb nk
      refine known_ne mk ldb upd_same (fun e => ⟨_, rfl, if_no rfl ?_⟩) fun ne => ⟨_, rfl, if_yes rfl ?_⟩
      · bv_omega
        have r13b := r13.trans rb
        have d5 := d5.up rb.st
        have ld3 := ldb
        have sr3 := srb
        refine' Exists.intro _ ⟨?_, by assumption, ?_⟩
        rotate_left 1
        · (repeat' (first | rfl | exact Dat.int _ | exact Dat.bl _ | (refine (?_ : Dat _ _ _ _); assumption) | (refine (?_ : LD _ _ _ _); assumption) | (refine (?_ : _ ≠ _); assumption) | refine' Exists.intro _ ?_ | refine And.intro ?_ ?_))
          all_goals (first | (first | (rintro _ rfl; exact ⟨_, rfl, by decide, by decide⟩) | (intro ts h; (repeat (obtain ⟨_, _, rfl, _, h⟩ := h)); (try cases h); exact Nat.le_of_ble_eq_true rfl) | (intro ts h; (repeat (obtain ⟨_, _, rfl, _, h⟩ := h)); (try cases h); exact ⟨List.cons_ne_nil _ _, Nat.le_of_ble_eq_true rfl⟩) | (rintro _ _ rfl rfl; exact ⟨_, _, rfl, rfl⟩)))
        rintro u v6 H4 ⟨_, ⟨_, _, rfl, rfl, _, _, rfl, rfl, _, _, rfl, rfl, rfl⟩, m6⟩ r4 d6
        obtain ⟨one, om, rfl⟩ := mem_strs (zs := vars0) m6
        have om := (by decide : ∀ c ∈ vars0, c ∈ W0) one om
        cases dat_str d6
        have sr4 := r4.sr
        have d54 := d5.up r4.st
        bv_omega
        refine' Exists.intro _ ⟨?_, by assumption, ?_⟩
        rotate_left 1
        · (repeat' (first | rfl | exact Dat.int _ | exact Dat.bl _ | (refine (?_ : Dat _ _ _ _); assumption) | (refine (?_ : LD _ _ _ _); assumption) | (refine (?_ : _ ≠ _); assumption) | refine' Exists.intro _ ?_ | refine And.intro ?_ ?_))
          all_goals (first | (first | (rintro _ rfl; exact ⟨_, rfl, by decide, by decide⟩) | (intro ts h; (repeat (obtain ⟨_, _, rfl, _, h⟩ := h)); (try cases h); exact Nat.le_of_ble_eq_true rfl) | (intro ts h; (repeat (obtain ⟨_, _, rfl, _, h⟩ := h)); (try cases h); exact ⟨List.cons_ne_nil _ _, Nat.le_of_ble_eq_true rfl⟩) | (rintro _ _ rfl rfl; exact ⟨_, _, rfl, rfl⟩)))
        rintro _ a7 H5 ⟨_, _, rfl, ⟨_, rfl, _, _, rfl, rfl, _, _, rfl, rfl, rfl⟩, _, _, rfl, ⟨_, rfl, _, _, rfl, rfl, _, _, rfl, rfl, rfl⟩, _, _, rfl, ⟨_, rfl, _, _, rfl, rfl, _, _, rfl, rfl, rfl⟩, _, _, rfl, ⟨_, rfl, _, _, rfl, rfl, _, _, rfl, rfl, _, _, rfl, rfl, rfl⟩, _, _, rfl, ⟨_, rfl, _, _, rfl, rfl, _, _, rfl, rfl, rfl⟩, rfl⟩ r5 na7 ld7
        have sr5 := r5.sr
        bv_omega
        refine' Exists.intro _ ⟨?_, by assumption, ?_⟩
        rotate_left 1
        · (repeat' (first | rfl | exact Dat.int _ | exact Dat.bl _ | (refine (?_ : Dat _ _ _ _); assumption) | (refine (?_ : LD _ _ _ _); assumption) | (refine (?_ : _ ≠ _); assumption) | refine' Exists.intro _ ?_ | refine And.intro ?_ ?_))
          all_goals (first | (first | (rintro _ rfl; exact ⟨_, rfl, by decide, by decide⟩) | (intro ts h; (repeat (obtain ⟨_, _, rfl, _, h⟩ := h)); (try cases h); exact Nat.le_of_ble_eq_true rfl) | (intro ts h; (repeat (obtain ⟨_, _, rfl, _, h⟩ := h)); (try cases h); exact ⟨List.cons_ne_nil _ _, Nat.le_of_ble_eq_true rfl⟩) | (rintro _ _ rfl rfl; exact ⟨_, _, rfl, rfl⟩)))
        rintro u v8 H6 ⟨_, ⟨_, _, rfl, rfl, _, _, rfl, rfl, _, _, rfl, rfl, rfl⟩, m8⟩ r6 d8
        obtain ⟨md, mm, rfl⟩ := mem_strs (zs := ["fail", "fail", "pipes"]) m8
        have mo : md = "fail" ∨ md = "pipes" := by
          rcases List.mem_cons.mp mm with e | mm
          · exact .inl e
          rcases List.mem_cons.mp mm with e | mm
          · exact .inl e
          · exact .inr (List.mem_singleton.mp mm)
        cases dat_str d8
        have sr6 := r6.sr
        have ld76 := ld7.dr r6 na7
        have r16 := ((r13b.trans r4).trans r5).trans r6
        bv_omega
        refine' Exists.intro _ ⟨?_, by assumption, ?_⟩
        rotate_left 1
        · (repeat' (first | rfl | exact Dat.int _ | exact Dat.bl _ | (refine (?_ : Dat _ _ _ _); assumption) | (refine (?_ : LD _ _ _ _); assumption) | (refine (?_ : _ ≠ _); assumption) | refine' Exists.intro _ ?_ | refine And.intro ?_ ?_))
          all_goals (first | (first | (rintro _ rfl; exact ⟨_, rfl, by decide, by decide⟩) | (intro ts h; (repeat (obtain ⟨_, _, rfl, _, h⟩ := h)); (try cases h); exact Nat.le_of_ble_eq_true rfl) | (intro ts h; (repeat (obtain ⟨_, _, rfl, _, h⟩ := h)); (try cases h); exact ⟨List.cons_ne_nil _ _, Nat.le_of_ble_eq_true rfl⟩) | (rintro _ _ rfl rfl; exact ⟨_, _, rfl, rfl⟩)) | (rintro _ _ rfl ⟨_, _, rfl, ⟨_, rfl, _⟩, _, _, rfl, ⟨_, rfl, _⟩, rfl⟩; exact Nat.le_of_ble_eq_true rfl) | (rintro _ ⟨_, _, rfl, ⟨_, _, rfl, ⟨_, rfl, _⟩, _, _, rfl, ⟨_, rfl, _⟩, rfl⟩, rfl⟩; exact ⟨List.cons_ne_nil _ _, Nat.le_of_ble_eq_true rfl⟩))
        rintro u v H7 ⟨_, ⟨_, _, rfl, ⟨_, _, rfl, ⟨_, rfl, _, _, rfl, rfl, _, _, rfl, rfl, _, _, rfl, rfl, rfl⟩, _, _, rfl, ⟨_, rfl, _, _, rfl, rfl, _, _, rfl, rfl, _, _, rfl, rfl, rfl⟩, rfl⟩, rfl⟩, m10⟩ r7 dv
        have r17 := r16.trans r7
        rcases List.mem_append.mp m10 with m10 | m10
        · rcases List.mem_cons.mp m10 with rfl | m10
          · exact out_s q (.mk false "status" [.int num] [] []) (.status m0 m1) rfl r17 dv
          rcases List.mem_cons.mp m10 with rfl | m10
          · exact out_s q (.mk false "keep" [.str one] [] []) (.var (by decide) om) rfl r17 dv
          rcases List.mem_cons.mp m10 with rfl | m10
          · exact out_s q (.mk false "give" [.str one] [] []) (.var (by decide) om) rfl r17 dv
          rcases List.mem_cons.mp m10 with rfl | m10
          · exact out_s q (.mk false "put" [.str one, .int num] [] []) (.put om m0 m1) rfl r17 dv
          · rw [List.mem_singleton.mp m10] at dv
            exact out_s q (.mk false "zero" [.str one] [] []) (.var (by decide) om) rfl r17 dv
        · rcases List.mem_cons.mp m10 with rfl | m10
          · exact out_s q (.mk false "option" [.str md, .bl true] [] []) (.option mo) rfl r17 dv
          · rw [List.mem_singleton.mp m10] at dv
            exact out_s q (.mk false "option" [.str md, .bl false] [] []) (.option mo) rfl r17 dv
      · bv_omega
        refine' Exists.intro _ ⟨?_, by assumption, ?_⟩
        rotate_left 1
        · (repeat' (first | rfl | exact Dat.int _ | exact Dat.bl _ | (refine (?_ : Dat _ _ _ _); assumption) | (refine (?_ : LD _ _ _ _); assumption) | (refine (?_ : _ ≠ _); assumption) | refine' Exists.intro _ ?_ | refine And.intro ?_ ?_))
          all_goals (first | (first | (rintro _ rfl; exact ⟨_, rfl, by decide, by decide⟩) | (intro ts h; (repeat (obtain ⟨_, _, rfl, _, h⟩ := h)); (try cases h); exact Nat.le_of_ble_eq_true rfl) | (intro ts h; (repeat (obtain ⟨_, _, rfl, _, h⟩ := h)); (try cases h); exact ⟨List.cons_ne_nil _ _, Nat.le_of_ble_eq_true rfl⟩) | (rintro _ _ rfl rfl; exact ⟨_, _, rfl, rfl⟩)) | (rintro _ rfl; exact ⟨fun z => ne (List.map_eq_nil_iff.mp z), by rw [List.length_map]; exact known_few mk⟩))
        rintro u v H7 ⟨_, rfl, _, _, rfl, rfl, _, _, rfl, ⟨_, rfl, m9⟩, rfl⟩ r7 dv
        obtain ⟨fn, fm, rfl⟩ := mem_strs m9
        exact out_s q (.mk false "call" [.str fn] [] []) (.call fm) rfl ((r13.trans rb).trans r7) dv
  · refine ⟨_, rfl, _, _, rfl, rfl, _, rfl, ?_⟩
    refine if_yes (decide_eq_true (by decide)) ?_
    bv_omega
    refine ⟨_, rfl, _, _, rfl, rfl, _, rfl, ?_⟩
    by_cases l0 : (lp : Int) > 0
    · refine if_yes (decide_eq_true l0) ?_
      bv_omega
      refine' Exists.intro _ ⟨?_, by assumption, ?_⟩
      rotate_left 1
      · (repeat' (first | rfl | exact Dat.int _ | exact Dat.bl _ | (refine (?_ : Dat _ _ _ _); assumption) | (refine (?_ : LD _ _ _ _); assumption) | (refine (?_ : _ ≠ _); assumption) | refine' Exists.intro _ ?_ | refine And.intro ?_ ?_))
        all_goals (first | (first | (rintro _ rfl; exact ⟨_, rfl, by decide, by decide⟩) | (intro ts h; (repeat (obtain ⟨_, _, rfl, _, h⟩ := h)); (try cases h); exact Nat.le_of_ble_eq_true rfl) | (intro ts h; (repeat (obtain ⟨_, _, rfl, _, h⟩ := h)); (try cases h); exact ⟨List.cons_ne_nil _ _, Nat.le_of_ble_eq_true rfl⟩) | (rintro _ _ rfl rfl; exact ⟨_, _, rfl, rfl⟩)) | (rintro _ rfl; exact ⟨_, rfl, by omega, by omega⟩) | (rintro _ _ rfl ⟨_, _, _, _, _, rfl⟩; exact ⟨_, _, rfl, rfl⟩))
      rintro u v H4 ⟨_, rfl, _, _, rfl, ⟨_, ⟨_, _, rfl, rfl, _, _, rfl, rfl, rfl⟩, m9⟩, _, _, rfl, ⟨_, r, ⟨⟩, ⟨_, _, ⟨⟩, q0, q1, ⟨⟩⟩, rfl⟩, rfl⟩ r4 dv
      obtain ⟨wj, wm, rfl⟩ := mem_strs (zs := ["break", "next"]) m9
      refine out_s q (.mk false wj [.int (1 + r)] [] []) (.jump ?_ (by omega) (by omega)) rfl (r13.trans r4) dv
      rcases List.mem_cons.mp wm with e | e
      · exact .inl e
      · exact .inr (List.mem_singleton.mp e)
    · refine if_no (decide_eq_false l0) ?_
      bv_omega
      refine ⟨_, rfl, rfl, _, rfl, ?_⟩
      refine if_no (dn (by decide)) ?_
      bv_omega
      refine ⟨_, rfl, rfl, _, rfl, ?_⟩
      refine if_no (dn (by decide)) ?_
      bv_omega
      refine ⟨_, rfl, _, _, rfl, rfl, _, rfl, ?_⟩
      refine if_yes (decide_eq_true (by decide)) ?_
      bv_omega
      refine ⟨_, rfl, sl (Nat.zero_le _), fun b nb => ?_⟩
      have rb := (Dr.refl sr3).new (o := .lst []) nb
      have srb := rb.sr
      have ldb := ld3.dr rb nk
      refine known_ne mk ldb upd_same (fun e => ⟨_, rfl, if_no rfl ?_⟩) fun ne => ⟨_, rfl, if_yes rfl ?_⟩
      · bv_omega
        have r13b := r13.trans rb
        have d5 := d5.up rb.st
        have ld3 := ldb
        have sr3 := srb
        refine' Exists.intro _ ⟨?_, by assumption, ?_⟩
        rotate_left 1
        · (repeat' (first | rfl | exact Dat.int _ | exact Dat.bl _ | (refine (?_ : Dat _ _ _ _); assumption) | (refine (?_ : LD _ _ _ _); assumption) | (refine (?_ : _ ≠ _); assumption) | refine' Exists.intro _ ?_ | refine And.intro ?_ ?_))
          all_goals (first | (first | (rintro _ rfl; exact ⟨_, rfl, by decide, by decide⟩) | (intro ts h; (repeat (obtain ⟨_, _, rfl, _, h⟩ := h)); (try cases h); exact Nat.le_of_ble_eq_true rfl) | (intro ts h; (repeat (obtain ⟨_, _, rfl, _, h⟩ := h)); (try cases h); exact ⟨List.cons_ne_nil _ _, Nat.le_of_ble_eq_true rfl⟩) | (rintro _ _ rfl rfl; exact ⟨_, _, rfl, rfl⟩)))
        rintro u v6 H4 ⟨_, ⟨_, _, rfl, rfl, _, _, rfl, rfl, _, _, rfl, rfl, rfl⟩, m6⟩ r4 d6
        obtain ⟨one, om, rfl⟩ := mem_strs (zs := vars0) m6
        have om := (by decide : ∀ c ∈ vars0, c ∈ W0) one om
        cases dat_str d6
        have sr4 := r4.sr
        have d54 := d5.up r4.st
        bv_omega
        refine' Exists.intro _ ⟨?_, by assumption, ?_⟩
        rotate_left 1
        · (repeat' (first | rfl | exact Dat.int _ | exact Dat.bl _ | (refine (?_ : Dat _ _ _ _); assumption) | (refine (?_ : LD _ _ _ _); assumption) | (refine (?_ : _ ≠ _); assumption) | refine' Exists.intro _ ?_ | refine And.intro ?_ ?_))
          all_goals (first | (first | (rintro _ rfl; exact ⟨_, rfl, by decide, by decide⟩) | (intro ts h; (repeat (obtain ⟨_, _, rfl, _, h⟩ := h)); (try cases h); exact Nat.le_of_ble_eq_true rfl) | (intro ts h; (repeat (obtain ⟨_, _, rfl, _, h⟩ := h)); (try cases h); exact ⟨List.cons_ne_nil _ _, Nat.le_of_ble_eq_true rfl⟩) | (rintro _ _ rfl rfl; exact ⟨_, _, rfl, rfl⟩)))
        rintro _ a7 H5 ⟨_, _, rfl, ⟨_, rfl, _, _, rfl, rfl, _, _, rfl, rfl, rfl⟩, _, _, rfl, ⟨_, rfl, _, _, rfl, rfl, _, _, rfl, rfl, rfl⟩, _, _, rfl, ⟨_, rfl, _, _, rfl, rfl, _, _, rfl, rfl, rfl⟩, _, _, rfl, ⟨_, rfl, _, _, rfl, rfl, _, _, rfl, rfl, _, _, rfl, rfl, rfl⟩, _, _, rfl, ⟨_, rfl, _, _, rfl, rfl, _, _, rfl, rfl, rfl⟩, rfl⟩ r5 na7 ld7
        have sr5 := r5.sr
        bv_omega
        refine' Exists.intro _ ⟨?_, by assumption, ?_⟩
        rotate_left 1
        · (repeat' (first | rfl | exact Dat.int _ | exact Dat.bl _ | (refine (?_ : Dat _ _ _ _); assumption) | (refine (?_ : LD _ _ _ _); assumption) | (refine (?_ : _ ≠ _); assumption) | refine' Exists.intro _ ?_ | refine And.intro ?_ ?_))
          all_goals (first | (first | (rintro _ rfl; exact ⟨_, rfl, by decide, by decide⟩) | (intro ts h; (repeat (obtain ⟨_, _, rfl, _, h⟩ := h)); (try cases h); exact Nat.le_of_ble_eq_true rfl) | (intro ts h; (repeat (obtain ⟨_, _, rfl, _, h⟩ := h)); (try cases h); exact ⟨List.cons_ne_nil _ _, Nat.le_of_ble_eq_true rfl⟩) | (rintro _ _ rfl rfl; exact ⟨_, _, rfl, rfl⟩)))
        rintro u v8 H6 ⟨_, ⟨_, _, rfl, rfl, _, _, rfl, rfl, _, _, rfl, rfl, rfl⟩, m8⟩ r6 d8
        obtain ⟨md, mm, rfl⟩ := mem_strs (zs := ["fail", "fail", "pipes"]) m8
        have mo : md = "fail" ∨ md = "pipes" := by
          rcases List.mem_cons.mp mm with e | mm
          · exact .inl e
          rcases List.mem_cons.mp mm with e | mm
          · exact .inl e
          · exact .inr (List.mem_singleton.mp mm)
        cases dat_str d8
        have sr6 := r6.sr
        have ld76 := ld7.dr r6 na7
        have r16 := ((r13b.trans r4).trans r5).trans r6
        bv_omega
        refine' Exists.intro _ ⟨?_, by assumption, ?_⟩
        rotate_left 1
        · (repeat' (first | rfl | exact Dat.int _ | exact Dat.bl _ | (refine (?_ : Dat _ _ _ _); assumption) | (refine (?_ : LD _ _ _ _); assumption) | (refine (?_ : _ ≠ _); assumption) | refine' Exists.intro _ ?_ | refine And.intro ?_ ?_))
          all_goals (first | (first | (rintro _ rfl; exact ⟨_, rfl, by decide, by decide⟩) | (intro ts h; (repeat (obtain ⟨_, _, rfl, _, h⟩ := h)); (try cases h); exact Nat.le_of_ble_eq_true rfl) | (intro ts h; (repeat (obtain ⟨_, _, rfl, _, h⟩ := h)); (try cases h); exact ⟨List.cons_ne_nil _ _, Nat.le_of_ble_eq_true rfl⟩) | (rintro _ _ rfl rfl; exact ⟨_, _, rfl, rfl⟩)) | (rintro _ _ rfl ⟨_, _, rfl, ⟨_, rfl, _⟩, _, _, rfl, ⟨_, rfl, _⟩, rfl⟩; exact Nat.le_of_ble_eq_true rfl) | (rintro _ ⟨_, _, rfl, ⟨_, _, rfl, ⟨_, rfl, _⟩, _, _, rfl, ⟨_, rfl, _⟩, rfl⟩, rfl⟩; exact ⟨List.cons_ne_nil _ _, Nat.le_of_ble_eq_true rfl⟩))
        rintro u v H7 ⟨_, ⟨_, _, rfl, ⟨_, _, rfl, ⟨_, rfl, _, _, rfl, rfl, _, _, rfl, rfl, _, _, rfl, rfl, rfl⟩, _, _, rfl, ⟨_, rfl, _, _, rfl, rfl, _, _, rfl, rfl, _, _, rfl, rfl, rfl⟩, rfl⟩, rfl⟩, m10⟩ r7 dv
        have r17 := r16.trans r7
        rcases List.mem_append.mp m10 with m10 | m10
        · rcases List.mem_cons.mp m10 with rfl | m10
          · exact out_s q (.mk false "status" [.int num] [] []) (.status m0 m1) rfl r17 dv
          rcases List.mem_cons.mp m10 with rfl | m10
          · exact out_s q (.mk false "keep" [.str one] [] []) (.var (by decide) om) rfl r17 dv
          rcases List.mem_cons.mp m10 with rfl | m10
          · exact out_s q (.mk false "give" [.str one] [] []) (.var (by decide) om) rfl r17 dv
          rcases List.mem_cons.mp m10 with rfl | m10
          · exact out_s q (.mk false "put" [.str one, .int num] [] []) (.put om m0 m1) rfl r17 dv
          · rw [List.mem_singleton.mp m10] at dv
            exact out_s q (.mk false "zero" [.str one] [] []) (.var (by decide) om) rfl r17 dv
        · rcases List.mem_cons.mp m10 with rfl | m10
          · exact out_s q (.mk false "option" [.str md, .bl true] [] []) (.option mo) rfl r17 dv
          · rw [List.mem_singleton.mp m10] at dv
            exact out_s q (.mk false "option" [.str md, .bl false] [] []) (.option mo) rfl r17 dv
      · bv_omega
        refine' Exists.intro _ ⟨?_, by assumption, ?_⟩
        rotate_left 1
        · (repeat' (first | rfl | exact Dat.int _ | exact Dat.bl _ | (refine (?_ : Dat _ _ _ _); assumption) | (refine (?_ : LD _ _ _ _); assumption) | (refine (?_ : _ ≠ _); assumption) | refine' Exists.intro _ ?_ | refine And.intro ?_ ?_))
          all_goals (first | (first | (rintro _ rfl; exact ⟨_, rfl, by decide, by decide⟩) | (intro ts h; (repeat (obtain ⟨_, _, rfl, _, h⟩ := h)); (try cases h); exact Nat.le_of_ble_eq_true rfl) | (intro ts h; (repeat (obtain ⟨_, _, rfl, _, h⟩ := h)); (try cases h); exact ⟨List.cons_ne_nil _ _, Nat.le_of_ble_eq_true rfl⟩) | (rintro _ _ rfl rfl; exact ⟨_, _, rfl, rfl⟩)) | (rintro _ rfl; exact ⟨fun z => ne (List.map_eq_nil_iff.mp z), by rw [List.length_map]; exact known_few mk⟩))
        rintro u v H7 ⟨_, rfl, _, _, rfl, rfl, _, _, rfl, ⟨_, rfl, m9⟩, rfl⟩ r7 dv
        obtain ⟨fn, fm, rfl⟩ := mem_strs m9
        exact out_s q (.mk false "call" [.str fn] [] []) (.call fm) rfl ((r13.trans rb).trans r7) dv
  · refine ⟨_, rfl, _, _, rfl, rfl, _, rfl, ?_⟩
    refine if_yes (decide_eq_true (by decide)) ?_
    bv_omega
    refine ⟨_, rfl, _, _, rfl, rfl, _, rfl, ?_⟩
    by_cases l0 : (lp : Int) > 0
    · refine if_yes (decide_eq_true l0) ?_
      bv_omega
      refine' Exists.intro _ ⟨?_, by assumption, ?_⟩
      rotate_left 1
      · (repeat' (first | rfl | exact Dat.int _ | exact Dat.bl _ | (refine (?_ : Dat _ _ _ _); assumption) | (refine (?_ : LD _ _ _ _); assumption) | (refine (?_ : _ ≠ _); assumption) | refine' Exists.intro _ ?_ | refine And.intro ?_ ?_))
        all_goals (first | (first | (rintro _ rfl; exact ⟨_, rfl, by decide, by decide⟩) | (intro ts h; (repeat (obtain ⟨_, _, rfl, _, h⟩ := h)); (try cases h); exact Nat.le_of_ble_eq_true rfl) | (intro ts h; (repeat (obtain ⟨_, _, rfl, _, h⟩ := h)); (try cases h); exact ⟨List.cons_ne_nil _ _, Nat.le_of_ble_eq_true rfl⟩) | (rintro _ _ rfl rfl; exact ⟨_, _, rfl, rfl⟩)) | (rintro _ rfl; exact ⟨_, rfl, by omega, by omega⟩) | (rintro _ _ rfl ⟨_, _, _, _, _, rfl⟩; exact ⟨_, _, rfl, rfl⟩))
      rintro u v H4 ⟨_, rfl, _, _, rfl, ⟨_, ⟨_, _, rfl, rfl, _, _, rfl, rfl, rfl⟩, m9⟩, _, _, rfl, ⟨_, r, ⟨⟩, ⟨_, _, ⟨⟩, q0, q1, ⟨⟩⟩, rfl⟩, rfl⟩ r4 dv
      obtain ⟨wj, wm, rfl⟩ := mem_strs (zs := ["break", "next"]) m9
      refine out_s q (.mk false wj [.int (1 + r)] [] []) (.jump ?_ (by omega) (by omega)) rfl (r13.trans r4) dv
      rcases List.mem_cons.mp wm with e | e
      · exact .inl e
      · exact .inr (List.mem_singleton.mp e)
    · refine if_no (decide_eq_false l0) ?_
      bv_omega
      refine ⟨_, rfl, rfl, _, rfl, ?_⟩
      refine if_no (dn (by decide)) ?_
      bv_omega
      refine ⟨_, rfl, rfl, _, rfl, ?_⟩
      refine if_no (dn (by decide)) ?_
      bv_omega
      refine ⟨_, rfl, _, _, rfl, rfl, _, rfl, ?_⟩
      refine if_yes (decide_eq_true (by decide)) ?_
      bv_omega
      refine ⟨_, rfl, sl (Nat.zero_le _), fun b nb => ?_⟩
      have rb := (Dr.refl sr3).new (o := .lst []) nb
      have srb := rb.sr
      have ldb := ld3.dr rb nk
      refine known_ne mk ldb upd_same (fun e => ⟨_, rfl, if_no rfl ?_⟩) fun ne => ⟨_, rfl, if_yes rfl ?_⟩
      · bv_omega
        have r13b := r13.trans rb
        have d5 := d5.up rb.st
        have ld3 := ldb
        have sr3 := srb
        refine' Exists.intro _ ⟨?_, by assumption, ?_⟩
        rotate_left 1
        · (repeat' (first | rfl | exact Dat.int _ | exact Dat.bl _ | (refine (?_ : Dat _ _ _ _); assumption) | (refine (?_ : LD _ _ _ _); assumption) | (refine (?_ : _ ≠ _); assumption) | refine' Exists.intro _ ?_ | refine And.intro ?_ ?_))
          all_goals (first | (first | (rintro _ rfl; exact ⟨_, rfl, by decide, by decide⟩) | (intro ts h; (repeat (obtain ⟨_, _, rfl, _, h⟩ := h)); (try cases h); exact Nat.le_of_ble_eq_true rfl) | (intro ts h; (repeat (obtain ⟨_, _, rfl, _, h⟩ := h)); (try cases h); exact ⟨List.cons_ne_nil _ _, Nat.le_of_ble_eq_true rfl⟩) | (rintro _ _ rfl rfl; exact ⟨_, _, rfl, rfl⟩)))
        rintro u v6 H4 ⟨_, ⟨_, _, rfl, rfl, _, _, rfl, rfl, _, _, rfl, rfl, rfl⟩, m6⟩ r4 d6
        obtain ⟨one, om, rfl⟩ := mem_strs (zs := vars0) m6
        have om := (by decide : ∀ c ∈ vars0, c ∈ W0) one om
        cases dat_str d6
        have sr4 := r4.sr
        have d54 := d5.up r4.st
        bv_omega
        refine' Exists.intro _ ⟨?_, by assumption, ?_⟩
        rotate_left 1
        · (repeat' (first | rfl | exact Dat.int _ | exact Dat.bl _ | (refine (?_ : Dat _ _ _ _); assumption) | (refine (?_ : LD _ _ _ _); assumption) | (refine (?_ : _ ≠ _); assumption) | refine' Exists.intro _ ?_ | refine And.intro ?_ ?_))
          all_goals (first | (first | (rintro _ rfl; exact ⟨_, rfl, by decide, by decide⟩) | (intro ts h; (repeat (obtain ⟨_, _, rfl, _, h⟩ := h)); (try cases h); exact Nat.le_of_ble_eq_true rfl) | (intro ts h; (repeat (obtain ⟨_, _, rfl, _, h⟩ := h)); (try cases h); exact ⟨List.cons_ne_nil _ _, Nat.le_of_ble_eq_true rfl⟩) | (rintro _ _ rfl rfl; exact ⟨_, _, rfl, rfl⟩)))
        rintro _ a7 H5 ⟨_, _, rfl, ⟨_, rfl, _, _, rfl, rfl, _, _, rfl, rfl, rfl⟩, _, _, rfl, ⟨_, rfl, _, _, rfl, rfl, _, _, rfl, rfl, rfl⟩, _, _, rfl, ⟨_, rfl, _, _, rfl, rfl, _, _, rfl, rfl, rfl⟩, _, _, rfl, ⟨_, rfl, _, _, rfl, rfl, _, _, rfl, rfl, _, _, rfl, rfl, rfl⟩, _, _, rfl, ⟨_, rfl, _, _, rfl, rfl, _, _, rfl, rfl, rfl⟩, rfl⟩ r5 na7 ld7
        have sr5 := r5.sr
        bv_omega
        refine' Exists.intro _ ⟨?_, by assumption, ?_⟩
        rotate_left 1
        · (repeat' (first | rfl | exact Dat.int _ | exact Dat.bl _ | (refine (?_ : Dat _ _ _ _); assumption) | (refine (?_ : LD _ _ _ _); assumption) | (refine (?_ : _ ≠ _); assumption) | refine' Exists.intro _ ?_ | refine And.intro ?_ ?_))
          all_goals (first | (first | (rintro _ rfl; exact ⟨_, rfl, by decide, by decide⟩) | (intro ts h; (repeat (obtain ⟨_, _, rfl, _, h⟩ := h)); (try cases h); exact Nat.le_of_ble_eq_true rfl) | (intro ts h; (repeat (obtain ⟨_, _, rfl, _, h⟩ := h)); (try cases h); exact ⟨List.cons_ne_nil _ _, Nat.le_of_ble_eq_true rfl⟩) | (rintro _ _ rfl rfl; exact ⟨_, _, rfl, rfl⟩)))
        rintro u v8 H6 ⟨_, ⟨_, _, rfl, rfl, _, _, rfl, rfl, _, _, rfl, rfl, rfl⟩, m8⟩ r6 d8
        obtain ⟨md, mm, rfl⟩ := mem_strs (zs := ["fail", "fail", "pipes"]) m8
        have mo : md = "fail" ∨ md = "pipes" := by
          rcases List.mem_cons.mp mm with e | mm
          · exact .inl e
          rcases List.mem_cons.mp mm with e | mm
          · exact .inl e
          · exact .inr (List.mem_singleton.mp mm)
        cases dat_str d8
        have sr6 := r6.sr
        have ld76 := ld7.dr r6 na7
        have r16 := ((r13b.trans r4).trans r5).trans r6
        bv_omega
        refine' Exists.intro _ ⟨?_, by assumption, ?_⟩
        rotate_left 1
        · (repeat' (first | rfl | exact Dat.int _ | exact Dat.bl _ | (refine (?_ : Dat _ _ _ _); assumption) | (refine (?_ : LD _ _ _ _); assumption) | (refine (?_ : _ ≠ _); assumption) | refine' Exists.intro _ ?_ | refine And.intro ?_ ?_))
          all_goals (first | (first | (rintro _ rfl; exact ⟨_, rfl, by decide, by decide⟩) | (intro ts h; (repeat (obtain ⟨_, _, rfl, _, h⟩ := h)); (try cases h); exact Nat.le_of_ble_eq_true rfl) | (intro ts h; (repeat (obtain ⟨_, _, rfl, _, h⟩ := h)); (try cases h); exact ⟨List.cons_ne_nil _ _, Nat.le_of_ble_eq_true rfl⟩) | (rintro _ _ rfl rfl; exact ⟨_, _, rfl, rfl⟩)) | (rintro _ _ rfl ⟨_, _, rfl, ⟨_, rfl, _⟩, _, _, rfl, ⟨_, rfl, _⟩, rfl⟩; exact Nat.le_of_ble_eq_true rfl) | (rintro _ ⟨_, _, rfl, ⟨_, _, rfl, ⟨_, rfl, _⟩, _, _, rfl, ⟨_, rfl, _⟩, rfl⟩, rfl⟩; exact ⟨List.cons_ne_nil _ _, Nat.le_of_ble_eq_true rfl⟩))
        rintro u v H7 ⟨_, ⟨_, _, rfl, ⟨_, _, rfl, ⟨_, rfl, _, _, rfl, rfl, _, _, rfl, rfl, _, _, rfl, rfl, rfl⟩, _, _, rfl, ⟨_, rfl, _, _, rfl, rfl, _, _, rfl, rfl, _, _, rfl, rfl, rfl⟩, rfl⟩, rfl⟩, m10⟩ r7 dv
        have r17 := r16.trans r7
        rcases List.mem_append.mp m10 with m10 | m10
        · rcases List.mem_cons.mp m10 with rfl | m10
          · exact out_s q (.mk false "status" [.int num] [] []) (.status m0 m1) rfl r17 dv
          rcases List.mem_cons.mp m10 with rfl | m10
          · exact out_s q (.mk false "keep" [.str one] [] []) (.var (by decide) om) rfl r17 dv
          rcases List.mem_cons.mp m10 with rfl | m10
          · exact out_s q (.mk false "give" [.str one] [] []) (.var (by decide) om) rfl r17 dv
          rcases List.mem_cons.mp m10 with rfl | m10
          · exact out_s q (.mk false "put" [.str one, .int num] [] []) (.put om m0 m1) rfl r17 dv
          · rw [List.mem_singleton.mp m10] at dv
            exact out_s q (.mk false "zero" [.str one] [] []) (.var (by decide) om) rfl r17 dv
        · rcases List.mem_cons.mp m10 with rfl | m10
          · exact out_s q (.mk false "option" [.str md, .bl true] [] []) (.option mo) rfl r17 dv
          · rw [List.mem_singleton.mp m10] at dv
            exact out_s q (.mk false "option" [.str md, .bl false] [] []) (.option mo) rfl r17 dv
      · bv_omega
        refine' Exists.intro _ ⟨?_, by assumption, ?_⟩
        rotate_left 1
        · (repeat' (first | rfl | exact Dat.int _ | exact Dat.bl _ | (refine (?_ : Dat _ _ _ _); assumption) | (refine (?_ : LD _ _ _ _); assumption) | (refine (?_ : _ ≠ _); assumption) | refine' Exists.intro _ ?_ | refine And.intro ?_ ?_))
          all_goals (first | (first | (rintro _ rfl; exact ⟨_, rfl, by decide, by decide⟩) | (intro ts h; (repeat (obtain ⟨_, _, rfl, _, h⟩ := h)); (try cases h); exact Nat.le_of_ble_eq_true rfl) | (intro ts h; (repeat (obtain ⟨_, _, rfl, _, h⟩ := h)); (try cases h); exact ⟨List.cons_ne_nil _ _, Nat.le_of_ble_eq_true rfl⟩) | (rintro _ _ rfl rfl; exact ⟨_, _, rfl, rfl⟩)) | (rintro _ rfl; exact ⟨fun z => ne (List.map_eq_nil_iff.mp z), by rw [List.length_map]; exact known_few mk⟩))
        rintro u v H7 ⟨_, rfl, _, _, rfl, rfl, _, _, rfl, ⟨_, rfl, m9⟩, rfl⟩ r7 dv
        obtain ⟨fn, fm, rfl⟩ := mem_strs m9
        exact out_s q (.mk false "call" [.str fn] [] []) (.call fm) rfl ((r13.trans rb).trans r7) dv
  · refine ⟨_, rfl, _, _, rfl, rfl, _, rfl, ?_⟩
    refine if_no (decide_eq_false (by decide)) ?_
    bv_omega
    refine ⟨_, rfl, rfl, _, rfl, ?_⟩
    refine if_yes (decide_eq_true rfl) ?_
    bv_omega
    refine ⟨_, rfl, _, rfl, ?_⟩
    cases wi with
    | true =>
      refine if_yes rfl ?_
      bv_omega
      refine' Exists.intro _ ⟨?_, by assumption, ?_⟩
      rotate_left 1
      · (repeat' (first | rfl | exact Dat.int _ | exact Dat.bl _ | (refine (?_ : Dat _ _ _ _); assumption) | (refine (?_ : LD _ _ _ _); assumption) | (refine (?_ : _ ≠ _); assumption) | refine' Exists.intro _ ?_ | refine And.intro ?_ ?_))
        all_goals (first | (first | (rintro _ rfl; exact ⟨_, rfl, by decide, by decide⟩) | (intro ts h; (repeat (obtain ⟨_, _, rfl, _, h⟩ := h)); (try cases h); exact Nat.le_of_ble_eq_true rfl) | (intro ts h; (repeat (obtain ⟨_, _, rfl, _, h⟩ := h)); (try cases h); exact ⟨List.cons_ne_nil _ _, Nat.le_of_ble_eq_true rfl⟩) | (rintro _ _ rfl rfl; exact ⟨_, _, rfl, rfl⟩)))
      rintro u v H4 ⟨_, rfl, _, _, rfl, rfl, _, _, rfl, ⟨_, ⟨_, _, rfl, rfl, _, _, rfl, rfl, rfl⟩, m⟩, rfl⟩ r4 dv
      rcases List.mem_cons.mp m with rfl | m
      · exact out_s q (.mk false "return" [.non] [] []) .ret0 rfl (r13.trans r4) dv
      · rw [List.mem_singleton.mp m] at dv
        exact out_s q (.mk false "return" [.int num] [] []) (.ret m0 m1) rfl (r13.trans r4) dv
    | false =>
      refine if_no rfl ?_
      bv_omega
      refine ⟨_, rfl, rfl, _, rfl, ?_⟩
      refine if_no (dn (by decide)) ?_
      bv_omega
      refine ⟨_, rfl, _, _, rfl, rfl, _, rfl, ?_⟩
      refine if_yes (decide_eq_true (by decide)) ?_
      bv_omega
      refine ⟨_, rfl, sl (Nat.zero_le _), fun b nb => ?_⟩
      have rb := (Dr.refl sr3).new (o := .lst []) nb
      have srb := rb.sr
      have ldb := ld3.dr rb nk
      refine known_ne mk ldb upd_same (fun e => ⟨_, rfl, if_no rfl ?_⟩) fun ne => ⟨_, rfl, if_yes rfl ?_⟩
      · bv_omega
        have r13b := r13.trans rb
        have d5 := d5.up rb.st
        have ld3 := ldb
        have sr3 := srb
        refine' Exists.intro _ ⟨?_, by assumption, ?_⟩
        rotate_left 1
        · (repeat' (first | rfl | exact Dat.int _ | exact Dat.bl _ | (refine (?_ : Dat _ _ _ _); assumption) | (refine (?_ : LD _ _ _ _); assumption) | (refine (?_ : _ ≠ _); assumption) | refine' Exists.intro _ ?_ | refine And.intro ?_ ?_))
          all_goals (first | (first | (rintro _ rfl; exact ⟨_, rfl, by decide, by decide⟩) | (intro ts h; (repeat (obtain ⟨_, _, rfl, _, h⟩ := h)); (try cases h); exact Nat.le_of_ble_eq_true rfl) | (intro ts h; (repeat (obtain ⟨_, _, rfl, _, h⟩ := h)); (try cases h); exact ⟨List.cons_ne_nil _ _, Nat.le_of_ble_eq_true rfl⟩) | (rintro _ _ rfl rfl; exact ⟨_, _, rfl, rfl⟩)))
        rintro u v6 H4 ⟨_, ⟨_, _, rfl, rfl, _, _, rfl, rfl, _, _, rfl, rfl, rfl⟩, m6⟩ r4 d6
        obtain ⟨one, om, rfl⟩ := mem_strs (zs := vars0) m6
        have om := (by decide : ∀ c ∈ vars0, c ∈ W0) one om
        cases dat_str d6
        have sr4 := r4.sr
        have d54 := d5.up r4.st
        bv_omega
        refine' Exists.intro _ ⟨?_, by assumption, ?_⟩
        rotate_left 1
        · (repeat' (first | rfl | exact Dat.int _ | exact Dat.bl _ | (refine (?_ : Dat _ _ _ _); assumption) | (refine (?_ : LD _ _ _ _); assumption) | (refine (?_ : _ ≠ _); assumption) | refine' Exists.intro _ ?_ | refine And.intro ?_ ?_))
          all_goals (first | (first | (rintro _ rfl; exact ⟨_, rfl, by decide, by decide⟩) | (intro ts h; (repeat (obtain ⟨_, _, rfl, _, h⟩ := h)); (try cases h); exact Nat.le_of_ble_eq_true rfl) | (intro ts h; (repeat (obtain ⟨_, _, rfl, _, h⟩ := h)); (try cases h); exact ⟨List.cons_ne_nil _ _, Nat.le_of_ble_eq_true rfl⟩) | (rintro _ _ rfl rfl; exact ⟨_, _, rfl, rfl⟩)))
        rintro _ a7 H5 ⟨_, _, rfl, ⟨_, rfl, _, _, rfl, rfl, _, _, rfl, rfl, rfl⟩, _, _, rfl, ⟨_, rfl, _, _, rfl, rfl, _, _, rfl, rfl, rfl⟩, _, _, rfl, ⟨_, rfl, _, _, rfl, rfl, _, _, rfl, rfl, rfl⟩, _, _, rfl, ⟨_, rfl, _, _, rfl, rfl, _, _, rfl, rfl, _, _, rfl, rfl, rfl⟩, _, _, rfl, ⟨_, rfl, _, _, rfl, rfl, _, _, rfl, rfl, rfl⟩, rfl⟩ r5 na7 ld7
        have sr5 := r5.sr
        bv_omega
        refine' Exists.intro _ ⟨?_, by assumption, ?_⟩
        rotate_left 1
        · (repeat' (first | rfl | exact Dat.int _ | exact Dat.bl _ | (refine (?_ : Dat _ _ _ _); assumption) | (refine (?_ : LD _ _ _ _); assumption) | (refine (?_ : _ ≠ _); assumption) | refine' Exists.intro _ ?_ | refine And.intro ?_ ?_))
          all_goals (first | (first | (rintro _ rfl; exact ⟨_, rfl, by decide, by decide⟩) | (intro ts h; (repeat (obtain ⟨_, _, rfl, _, h⟩ := h)); (try cases h); exact Nat.le_of_ble_eq_true rfl) | (intro ts h; (repeat (obtain ⟨_, _, rfl, _, h⟩ := h)); (try cases h); exact ⟨List.cons_ne_nil _ _, Nat.le_of_ble_eq_true rfl⟩) | (rintro _ _ rfl rfl; exact ⟨_, _, rfl, rfl⟩)))
        rintro u v8 H6 ⟨_, ⟨_, _, rfl, rfl, _, _, rfl, rfl, _, _, rfl, rfl, rfl⟩, m8⟩ r6 d8
        obtain ⟨md, mm, rfl⟩ := mem_strs (zs := ["fail", "fail", "pipes"]) m8
        have mo : md = "fail" ∨ md = "pipes" := by
          rcases List.mem_cons.mp mm with e | mm
          · exact .inl e
          rcases List.mem_cons.mp mm with e | mm
          · exact .inl e
          · exact .inr (List.mem_singleton.mp mm)
        cases dat_str d8
        have sr6 := r6.sr
        have ld76 := ld7.dr r6 na7
        have r16 := ((r13b.trans r4).trans r5).trans r6
        bv_omega
        refine' Exists.intro _ ⟨?_, by assumption, ?_⟩
        rotate_left 1
        · (repeat' (first | rfl | exact Dat.int _ | exact Dat.bl _ | (refine (?_ : Dat _ _ _ _); assumption) | (refine (?_ : LD _ _ _ _); assumption) | (refine (?_ : _ ≠ _); assumption) | refine' Exists.intro _ ?_ | refine And.intro ?_ ?_))
          all_goals (first | (first | (rintro _ rfl; exact ⟨_, rfl, by decide, by decide⟩) | (intro ts h; (repeat (obtain ⟨_, _, rfl, _, h⟩ := h)); (try cases h); exact Nat.le_of_ble_eq_true rfl) | (intro ts h; (repeat (obtain ⟨_, _, rfl, _, h⟩ := h)); (try cases h); exact ⟨List.cons_ne_nil _ _, Nat.le_of_ble_eq_true rfl⟩) | (rintro _ _ rfl rfl; exact ⟨_, _, rfl, rfl⟩)) | (rintro _ _ rfl ⟨_, _, rfl, ⟨_, rfl, _⟩, _, _, rfl, ⟨_, rfl, _⟩, rfl⟩; exact Nat.le_of_ble_eq_true rfl) | (rintro _ ⟨_, _, rfl, ⟨_, _, rfl, ⟨_, rfl, _⟩, _, _, rfl, ⟨_, rfl, _⟩, rfl⟩, rfl⟩; exact ⟨List.cons_ne_nil _ _, Nat.le_of_ble_eq_true rfl⟩))
        rintro u v H7 ⟨_, ⟨_, _, rfl, ⟨_, _, rfl, ⟨_, rfl, _, _, rfl, rfl, _, _, rfl, rfl, _, _, rfl, rfl, rfl⟩, _, _, rfl, ⟨_, rfl, _, _, rfl, rfl, _, _, rfl, rfl, _, _, rfl, rfl, rfl⟩, rfl⟩, rfl⟩, m10⟩ r7 dv
        have r17 := r16.trans r7
        rcases List.mem_append.mp m10 with m10 | m10
        · rcases List.mem_cons.mp m10 with rfl | m10
          · exact out_s q (.mk false "status" [.int num] [] []) (.status m0 m1) rfl r17 dv
          rcases List.mem_cons.mp m10 with rfl | m10
          · exact out_s q (.mk false "keep" [.str one] [] []) (.var (by decide) om) rfl r17 dv
          rcases List.mem_cons.mp m10 with rfl | m10
          · exact out_s q (.mk false "give" [.str one] [] []) (.var (by decide) om) rfl r17 dv
          rcases List.mem_cons.mp m10 with rfl | m10
          · exact out_s q (.mk false "put" [.str one, .int num] [] []) (.put om m0 m1) rfl r17 dv
          · rw [List.mem_singleton.mp m10] at dv
            exact out_s q (.mk false "zero" [.str one] [] []) (.var (by decide) om) rfl r17 dv
        · rcases List.mem_cons.mp m10 with rfl | m10
          · exact out_s q (.mk false "option" [.str md, .bl true] [] []) (.option mo) rfl r17 dv
          · rw [List.mem_singleton.mp m10] at dv
            exact out_s q (.mk false "option" [.str md, .bl false] [] []) (.option mo) rfl r17 dv
      · bv_omega
        refine' Exists.intro _ ⟨?_, by assumption, ?_⟩
        rotate_left 1
        · (repeat' (first | rfl | exact Dat.int _ | exact Dat.bl _ | (refine (?_ : Dat _ _ _ _); assumption) | (refine (?_ : LD _ _ _ _); assumption) | (refine (?_ : _ ≠ _); assumption) | refine' Exists.intro _ ?_ | refine And.intro ?_ ?_))
          all_goals (first | (first | (rintro _ rfl; exact ⟨_, rfl, by decide, by decide⟩) | (intro ts h; (repeat (obtain ⟨_, _, rfl, _, h⟩ := h)); (try cases h); exact Nat.le_of_ble_eq_true rfl) | (intro ts h; (repeat (obtain ⟨_, _, rfl, _, h⟩ := h)); (try cases h); exact ⟨List.cons_ne_nil _ _, Nat.le_of_ble_eq_true rfl⟩) | (rintro _ _ rfl rfl; exact ⟨_, _, rfl, rfl⟩)) | (rintro _ rfl; exact ⟨fun z => ne (List.map_eq_nil_iff.mp z), by rw [List.length_map]; exact known_few mk⟩))
        rintro u v H7 ⟨_, rfl, _, _, rfl, rfl, _, _, rfl, ⟨_, rfl, m9⟩, rfl⟩ r7 dv
        obtain ⟨fn, fm, rfl⟩ := mem_strs m9
        exact out_s q (.mk false "call" [.str fn] [] []) (.call fm) rfl ((r13.trans rb).trans r7) dv
  · refine ⟨_, rfl, _, _, rfl, rfl, _, rfl, ?_⟩
    refine if_no (decide_eq_false (by decide)) ?_
    bv_omega
    refine ⟨_, rfl, rfl, _, rfl, ?_⟩
    refine if_no (dn (by decide)) ?_
    bv_omega
    refine ⟨_, rfl, rfl, _, rfl, ?_⟩
    refine if_yes (decide_eq_true rfl) ?_
    bv_omega
    refine' Exists.intro _ ⟨?_, by assumption, ?_⟩
    rotate_left 1
    · (repeat' (first | rfl | exact Dat.int _ | exact Dat.bl _ | (refine (?_ : Dat _ _ _ _); assumption) | (refine (?_ : LD _ _ _ _); assumption) | (refine (?_ : _ ≠ _); assumption) | refine' Exists.intro _ ?_ | refine And.intro ?_ ?_))
      all_goals (first | (first | (rintro _ rfl; exact ⟨_, rfl, by decide, by decide⟩) | (intro ts h; (repeat (obtain ⟨_, _, rfl, _, h⟩ := h)); (try cases h); exact Nat.le_of_ble_eq_true rfl) | (intro ts h; (repeat (obtain ⟨_, _, rfl, _, h⟩ := h)); (try cases h); exact ⟨List.cons_ne_nil _ _, Nat.le_of_ble_eq_true rfl⟩) | (rintro _ _ rfl rfl; exact ⟨_, _, rfl, rfl⟩)))
    rintro u v H4 ⟨_, rfl, _, _, rfl, rfl, _, _, rfl, ⟨_, ⟨_, _, rfl, rfl, _, _, rfl, rfl, rfl⟩, m⟩, rfl⟩ r4 dv
    rcases List.mem_cons.mp m with rfl | m
    · exact out_s q (.mk false "exit" [.non] [] []) .exit0 rfl (r13.trans r4) dv
    · rw [List.mem_singleton.mp m] at dv
      exact out_s q (.mk false "exit" [.int num] [] []) (.exit m0 m1) rfl (r13.trans r4) dv
  · refine ⟨_, rfl, _, _, rfl, rfl, _, rfl, ?_⟩
    refine if_no (decide_eq_false (by decide)) ?_
    bv_omega
    refine ⟨_, rfl, rfl, _, rfl, ?_⟩
    refine if_no (dn (by decide)) ?_
    bv_omega
    refine ⟨_, rfl, rfl, _, rfl, ?_⟩
    refine if_no (dn (by decide)) ?_
    bv_omega
    refine ⟨_, rfl, _, _, rfl, rfl, _, rfl, ?_⟩
    refine if_yes (decide_eq_true (by decide)) ?_
    bv_omega
    refine ⟨_, rfl, sl (Nat.zero_le _), fun b nb => ?_⟩
    have rb := (Dr.refl sr3).new (o := .lst []) nb
    have srb := rb.sr
    have ldb := ld3.dr rb nk
    refine known_ne mk ldb upd_same (fun e => ⟨_, rfl, if_no rfl ?_⟩) fun ne => ⟨_, rfl, if_yes rfl ?_⟩
    · bv_omega
      have r13b := r13.trans rb
      have d5 := d5.up rb.st
      have ld3 := ldb
      have sr3 := srb
      refine' Exists.intro _ ⟨?_, by assumption, ?_⟩
      rotate_left 1
      · (repeat' (first | rfl | exact Dat.int _ | exact Dat.bl _ | (refine (?_ : Dat _ _ _ _); assumption) | (refine (?_ : LD _ _ _ _); assumption) | (refine (?_ : _ ≠ _); assumption) | refine' Exists.intro _ ?_ | refine And.intro ?_ ?_))
        all_goals (first | (first | (rintro _ rfl; exact ⟨_, rfl, by decide, by decide⟩) | (intro ts h; (repeat (obtain ⟨_, _, rfl, _, h⟩ := h)); (try cases h); exact Nat.le_of_ble_eq_true rfl) | (intro ts h; (repeat (obtain ⟨_, _, rfl, _, h⟩ := h)); (try cases h); exact ⟨List.cons_ne_nil _ _, Nat.le_of_ble_eq_true rfl⟩) | (rintro _ _ rfl rfl; exact ⟨_, _, rfl, rfl⟩)))
      rintro u v6 H4 ⟨_, ⟨_, _, rfl, rfl, _, _, rfl, rfl, _, _, rfl, rfl, rfl⟩, m6⟩ r4 d6
      obtain ⟨one, om, rfl⟩ := mem_strs (zs := vars0) m6
      have om := (by decide : ∀ c ∈ vars0, c ∈ W0) one om
      cases dat_str d6
      have sr4 := r4.sr
      have d54 := d5.up r4.st
      bv_omega
      refine' Exists.intro _ ⟨?_, by assumption, ?_⟩
      rotate_left 1
      · (repeat' (first | rfl | exact Dat.int _ | exact Dat.bl _ | (refine (?_ : Dat _ _ _ _); assumption) | (refine (?_ : LD _ _ _ _); assumption) | (refine (?_ : _ ≠ _); assumption) | refine' Exists.intro _ ?_ | refine And.intro ?_ ?_))
        all_goals (first | (first | (rintro _ rfl; exact ⟨_, rfl, by decide, by decide⟩) | (intro ts h; (repeat (obtain ⟨_, _, rfl, _, h⟩ := h)); (try cases h); exact Nat.le_of_ble_eq_true rfl) | (intro ts h; (repeat (obtain ⟨_, _, rfl, _, h⟩ := h)); (try cases h); exact ⟨List.cons_ne_nil _ _, Nat.le_of_ble_eq_true rfl⟩) | (rintro _ _ rfl rfl; exact ⟨_, _, rfl, rfl⟩)))
      rintro _ a7 H5 ⟨_, _, rfl, ⟨_, rfl, _, _, rfl, rfl, _, _, rfl, rfl, rfl⟩, _, _, rfl, ⟨_, rfl, _, _, rfl, rfl, _, _, rfl, rfl, rfl⟩, _, _, rfl, ⟨_, rfl, _, _, rfl, rfl, _, _, rfl, rfl, rfl⟩, _, _, rfl, ⟨_, rfl, _, _, rfl, rfl, _, _, rfl, rfl, _, _, rfl, rfl, rfl⟩, _, _, rfl, ⟨_, rfl, _, _, rfl, rfl, _, _, rfl, rfl, rfl⟩, rfl⟩ r5 na7 ld7
      have sr5 := r5.sr
      bv_omega
      refine' Exists.intro _ ⟨?_, by assumption, ?_⟩
      rotate_left 1
      · (repeat' (first | rfl | exact Dat.int _ | exact Dat.bl _ | (refine (?_ : Dat _ _ _ _); assumption) | (refine (?_ : LD _ _ _ _); assumption) | (refine (?_ : _ ≠ _); assumption) | refine' Exists.intro _ ?_ | refine And.intro ?_ ?_))
        all_goals (first | (first | (rintro _ rfl; exact ⟨_, rfl, by decide, by decide⟩) | (intro ts h; (repeat (obtain ⟨_, _, rfl, _, h⟩ := h)); (try cases h); exact Nat.le_of_ble_eq_true rfl) | (intro ts h; (repeat (obtain ⟨_, _, rfl, _, h⟩ := h)); (try cases h); exact ⟨List.cons_ne_nil _ _, Nat.le_of_ble_eq_true rfl⟩) | (rintro _ _ rfl rfl; exact ⟨_, _, rfl, rfl⟩)))
      rintro u v8 H6 ⟨_, ⟨_, _, rfl, rfl, _, _, rfl, rfl, _, _, rfl, rfl, rfl⟩, m8⟩ r6 d8
      obtain ⟨md, mm, rfl⟩ := mem_strs (zs := ["fail", "fail", "pipes"]) m8
      have mo : md = "fail" ∨ md = "pipes" := by
        rcases List.mem_cons.mp mm with e | mm
        · exact .inl e
        rcases List.mem_cons.mp mm with e | mm
        · exact .inl e
        · exact .inr (List.mem_singleton.mp mm)
      cases dat_str d8
      have sr6 := r6.sr
      have ld76 := ld7.dr r6 na7
      have r16 := ((r13b.trans r4).trans r5).trans r6
      bv_omega
      refine' Exists.intro _ ⟨?_, by assumption, ?_⟩
      rotate_left 1
      · (repeat' (first | rfl | exact Dat.int _ | exact Dat.bl _ | (refine (?_ : Dat _ _ _ _); assumption) | (refine (?_ : LD _ _ _ _); assumption) | (refine (?_ : _ ≠ _); assumption) | refine' Exists.intro _ ?_ | refine And.intro ?_ ?_))
        all_goals (first | (first | (rintro _ rfl; exact ⟨_, rfl, by decide, by decide⟩) | (intro ts h; (repeat (obtain ⟨_, _, rfl, _, h⟩ := h)); (try cases h); exact Nat.le_of_ble_eq_true rfl) | (intro ts h; (repeat (obtain ⟨_, _, rfl, _, h⟩ := h)); (try cases h); exact ⟨List.cons_ne_nil _ _, Nat.le_of_ble_eq_true rfl⟩) | (rintro _ _ rfl rfl; exact ⟨_, _, rfl, rfl⟩)) | (rintro _ _ rfl ⟨_, _, rfl, ⟨_, rfl, _⟩, _, _, rfl, ⟨_, rfl, _⟩, rfl⟩; exact Nat.le_of_ble_eq_true rfl) | (rintro _ ⟨_, _, rfl, ⟨_, _, rfl, ⟨_, rfl, _⟩, _, _, rfl, ⟨_, rfl, _⟩, rfl⟩, rfl⟩; exact ⟨List.cons_ne_nil _ _, Nat.le_of_ble_eq_true rfl⟩))
      rintro u v H7 ⟨_, ⟨_, _, rfl, ⟨_, _, rfl, ⟨_, rfl, _, _, rfl, rfl, _, _, rfl, rfl, _, _, rfl, rfl, rfl⟩, _, _, rfl, ⟨_, rfl, _, _, rfl, rfl, _, _, rfl, rfl, _, _, rfl, rfl, rfl⟩, rfl⟩, rfl⟩, m10⟩ r7 dv
      have r17 := r16.trans r7
      rcases List.mem_append.mp m10 with m10 | m10
      · rcases List.mem_cons.mp m10 with rfl | m10
        · exact out_s q (.mk false "status" [.int num] [] []) (.status m0 m1) rfl r17 dv
        rcases List.mem_cons.mp m10 with rfl | m10
        · exact out_s q (.mk false "keep" [.str one] [] []) (.var (by decide) om) rfl r17 dv
        rcases List.mem_cons.mp m10 with rfl | m10
        · exact out_s q (.mk false "give" [.str one] [] []) (.var (by decide) om) rfl r17 dv
        rcases List.mem_cons.mp m10 with rfl | m10
        · exact out_s q (.mk false "put" [.str one, .int num] [] []) (.put om m0 m1) rfl r17 dv
        · rw [List.mem_singleton.mp m10] at dv
          exact out_s q (.mk false "zero" [.str one] [] []) (.var (by decide) om) rfl r17 dv
      · rcases List.mem_cons.mp m10 with rfl | m10
        · exact out_s q (.mk false "option" [.str md, .bl true] [] []) (.option mo) rfl r17 dv
        · rw [List.mem_singleton.mp m10] at dv
          exact out_s q (.mk false "option" [.str md, .bl false] [] []) (.option mo) rfl r17 dv
    · bv_omega
      refine' Exists.intro _ ⟨?_, by assumption, ?_⟩
      rotate_left 1
      · (repeat' (first | rfl | exact Dat.int _ | exact Dat.bl _ | (refine (?_ : Dat _ _ _ _); assumption) | (refine (?_ : LD _ _ _ _); assumption) | (refine (?_ : _ ≠ _); assumption) | refine' Exists.intro _ ?_ | refine And.intro ?_ ?_))
        all_goals (first | (first | (rintro _ rfl; exact ⟨_, rfl, by decide, by decide⟩) | (intro ts h; (repeat (obtain ⟨_, _, rfl, _, h⟩ := h)); (try cases h); exact Nat.le_of_ble_eq_true rfl) | (intro ts h; (repeat (obtain ⟨_, _, rfl, _, h⟩ := h)); (try cases h); exact ⟨List.cons_ne_nil _ _, Nat.le_of_ble_eq_true rfl⟩) | (rintro _ _ rfl rfl; exact ⟨_, _, rfl, rfl⟩)) | (rintro _ rfl; exact ⟨fun z => ne (List.map_eq_nil_iff.mp z), by rw [List.length_map]; exact known_few mk⟩))
      rintro u v H7 ⟨_, rfl, _, _, rfl, rfl, _, _, rfl, ⟨_, rfl, m9⟩, rfl⟩ r7 dv
      obtain ⟨fn, fm, rfl⟩ := mem_strs m9
      exact out_s q (.mk false "call" [.str fn] [] []) (.call fm) rfl ((r13.trans rb).trans r7) dv
  · refine ⟨_, rfl, _, _, rfl, rfl, _, rfl, ?_⟩
    refine if_no (decide_eq_false (by decide)) ?_
    bv_omega
    refine ⟨_, rfl, rfl, _, rfl, ?_⟩
    refine if_no (dn (by decide)) ?_
    bv_omega
    refine ⟨_, rfl, rfl, _, rfl, ?_⟩
    refine if_no (dn (by decide)) ?_
    bv_omega
    refine ⟨_, rfl, _, _, rfl, rfl, _, rfl, ?_⟩
    refine if_yes (decide_eq_true (by decide)) ?_
    bv_omega
    refine ⟨_, rfl, sl (Nat.zero_le _), fun b nb => ?_⟩
    have rb := (Dr.refl sr3).new (o := .lst []) nb
    have srb := rb.sr
    have ldb := ld3.dr rb nk
    refine known_ne mk ldb upd_same (fun e => ⟨_, rfl, if_no rfl ?_⟩) fun ne => ⟨_, rfl, if_yes rfl ?_⟩
    · bv_omega
      have r13b := r13.trans rb
      have d5 := d5.up rb.st
      have ld3 := ldb
      have sr3 := srb
      refine' Exists.intro _ ⟨?_, by assumption, ?_⟩
      rotate_left 1
      · (repeat' (first | rfl | exact Dat.int _ | exact Dat.bl _ | (refine (?_ : Dat _ _ _ _); assumption) | (refine (?_ : LD _ _ _ _); assumption) | (refine (?_ : _ ≠ _); assumption) | refine' Exists.intro _ ?_ | refine And.intro ?_ ?_))
        all_goals (first | (first | (rintro _ rfl; exact ⟨_, rfl, by decide, by decide⟩) | (intro ts h; (repeat (obtain ⟨_, _, rfl, _, h⟩ := h)); (try cases h); exact Nat.le_of_ble_eq_true rfl) | (intro ts h; (repeat (obtain ⟨_, _, rfl, _, h⟩ := h)); (try cases h); exact ⟨List.cons_ne_nil _ _, Nat.le_of_ble_eq_true rfl⟩) | (rintro _ _ rfl rfl; exact ⟨_, _, rfl, rfl⟩)))
      rintro u v6 H4 ⟨_, ⟨_, _, rfl, rfl, _, _, rfl, rfl, _, _, rfl, rfl, rfl⟩, m6⟩ r4 d6
      obtain ⟨one, om, rfl⟩ := mem_strs (zs := vars0) m6
      have om := (by decide : ∀ c ∈ vars0, c ∈ W0) one om
      cases dat_str d6
      have sr4 := r4.sr
      have d54 := d5.up r4.st
      bv_omega
      refine' Exists.intro _ ⟨?_, by assumption, ?_⟩
      rotate_left 1
      · (repeat' (first | rfl | exact Dat.int _ | exact Dat.bl _ | (refine (?_ : Dat _ _ _ _); assumption) | (refine (?_ : LD _ _ _ _); assumption) | (refine (?_ : _ ≠ _); assumption) | refine' Exists.intro _ ?_ | refine And.intro ?_ ?_))
        all_goals (first | (first | (rintro _ rfl; exact ⟨_, rfl, by decide, by decide⟩) | (intro ts h; (repeat (obtain ⟨_, _, rfl, _, h⟩ := h)); (try cases h); exact Nat.le_of_ble_eq_true rfl) | (intro ts h; (repeat (obtain ⟨_, _, rfl, _, h⟩ := h)); (try cases h); exact ⟨List.cons_ne_nil _ _, Nat.le_of_ble_eq_true rfl⟩) | (rintro _ _ rfl rfl; exact ⟨_, _, rfl, rfl⟩)))
      rintro _ a7 H5 ⟨_, _, rfl, ⟨_, rfl, _, _, rfl, rfl, _, _, rfl, rfl, rfl⟩, _, _, rfl, ⟨_, rfl, _, _, rfl, rfl, _, _, rfl, rfl, rfl⟩, _, _, rfl, ⟨_, rfl, _, _, rfl, rfl, _, _, rfl, rfl, rfl⟩, _, _, rfl, ⟨_, rfl, _, _, rfl, rfl, _, _, rfl, rfl, _, _, rfl, rfl, rfl⟩, _, _, rfl, ⟨_, rfl, _, _, rfl, rfl, _, _, rfl, rfl, rfl⟩, rfl⟩ r5 na7 ld7
      have sr5 := r5.sr
      bv_omega
      refine' Exists.intro _ ⟨?_, by assumption, ?_⟩
      rotate_left 1
      · (repeat' (first | rfl | exact Dat.int _ | exact Dat.bl _ | (refine (?_ : Dat _ _ _ _); assumption) | (refine (?_ : LD _ _ _ _); assumption) | (refine (?_ : _ ≠ _); assumption) | refine' Exists.intro _ ?_ | refine And.intro ?_ ?_))
        all_goals (first | (first | (rintro _ rfl; exact ⟨_, rfl, by decide, by decide⟩) | (intro ts h; (repeat (obtain ⟨_, _, rfl, _, h⟩ := h)); (try cases h); exact Nat.le_of_ble_eq_true rfl) | (intro ts h; (repeat (obtain ⟨_, _, rfl, _, h⟩ := h)); (try cases h); exact ⟨List.cons_ne_nil _ _, Nat.le_of_ble_eq_true rfl⟩) | (rintro _ _ rfl rfl; exact ⟨_, _, rfl, rfl⟩)))
      rintro u v8 H6 ⟨_, ⟨_, _, rfl, rfl, _, _, rfl, rfl, _, _, rfl, rfl, rfl⟩, m8⟩ r6 d8
      obtain ⟨md, mm, rfl⟩ := mem_strs (zs := ["fail", "fail", "pipes"]) m8
      have mo : md = "fail" ∨ md = "pipes" := by
        rcases List.mem_cons.mp mm with e | mm
        · exact .inl e
        rcases List.mem_cons.mp mm with e | mm
        · exact .inl e
        · exact .inr (List.mem_singleton.mp mm)
      cases dat_str d8
      have sr6 := r6.sr
      have ld76 := ld7.dr r6 na7
      have r16 := ((r13b.trans r4).trans r5).trans r6
      bv_omega
      refine' Exists.intro _ ⟨?_, by assumption, ?_⟩
      rotate_left 1
      · (repeat' (first | rfl | exact Dat.int _ | exact Dat.bl _ | (refine (?_ : Dat _ _ _ _); assumption) | (refine (?_ : LD _ _ _ _); assumption) | (refine (?_ : _ ≠ _); assumption) | refine' Exists.intro _ ?_ | refine And.intro ?_ ?_))
        all_goals (first | (first | (rintro _ rfl; exact ⟨_, rfl, by decide, by decide⟩) | (intro ts h; (repeat (obtain ⟨_, _, rfl, _, h⟩ := h)); (try cases h); exact Nat.le_of_ble_eq_true rfl) | (intro ts h; (repeat (obtain ⟨_, _, rfl, _, h⟩ := h)); (try cases h); exact ⟨List.cons_ne_nil _ _, Nat.le_of_ble_eq_true rfl⟩) | (rintro _ _ rfl rfl; exact ⟨_, _, rfl, rfl⟩)) | (rintro _ _ rfl ⟨_, _, rfl, ⟨_, rfl, _⟩, _, _, rfl, ⟨_, rfl, _⟩, rfl⟩; exact Nat.le_of_ble_eq_true rfl) | (rintro _ ⟨_, _, rfl, ⟨_, _, rfl, ⟨_, rfl, _⟩, _, _, rfl, ⟨_, rfl, _⟩, rfl⟩, rfl⟩; exact ⟨List.cons_ne_nil _ _, Nat.le_of_ble_eq_true rfl⟩))
      rintro u v H7 ⟨_, ⟨_, _, rfl, ⟨_, _, rfl, ⟨_, rfl, _, _, rfl, rfl, _, _, rfl, rfl, _, _, rfl, rfl, rfl⟩, _, _, rfl, ⟨_, rfl, _, _, rfl, rfl, _, _, rfl, rfl, _, _, rfl, rfl, rfl⟩, rfl⟩, rfl⟩, m10⟩ r7 dv
      have r17 := r16.trans r7
      rcases List.mem_append.mp m10 with m10 | m10
      · rcases List.mem_cons.mp m10 with rfl | m10
        · exact out_s q (.mk false "status" [.int num] [] []) (.status m0 m1) rfl r17 dv
        rcases List.mem_cons.mp m10 with rfl | m10
        · exact out_s q (.mk false "keep" [.str one] [] []) (.var (by decide) om) rfl r17 dv
        rcases List.mem_cons.mp m10 with rfl | m10
        · exact out_s q (.mk false "give" [.str one] [] []) (.var (by decide) om) rfl r17 dv
        rcases List.mem_cons.mp m10 with rfl | m10
        · exact out_s q (.mk false "put" [.str one, .int num] [] []) (.put om m0 m1) rfl r17 dv
        · rw [List.mem_singleton.mp m10] at dv
          exact out_s q (.mk false "zero" [.str one] [] []) (.var (by decide) om) rfl r17 dv
      · rcases List.mem_cons.mp m10 with rfl | m10
        · exact out_s q (.mk false "option" [.str md, .bl true] [] []) (.option mo) rfl r17 dv
        · rw [List.mem_singleton.mp m10] at dv
          exact out_s q (.mk false "option" [.str md, .bl false] [] []) (.option mo) rfl r17 dv
    · bv_omega
      refine' Exists.intro _ ⟨?_, by assumption, ?_⟩
      rotate_left 1
      · (repeat' (first | rfl | exact Dat.int _ | exact Dat.bl _ | (refine (?_ : Dat _ _ _ _); assumption) | (refine (?_ : LD _ _ _ _); assumption) | (refine (?_ : _ ≠ _); assumption) | refine' Exists.intro _ ?_ | refine And.intro ?_ ?_))
        all_goals (first | (first | (rintro _ rfl; exact ⟨_, rfl, by decide, by decide⟩) | (intro ts h; (repeat (obtain ⟨_, _, rfl, _, h⟩ := h)); (try cases h); exact Nat.le_of_ble_eq_true rfl) | (intro ts h; (repeat (obtain ⟨_, _, rfl, _, h⟩ := h)); (try cases h); exact ⟨List.cons_ne_nil _ _, Nat.le_of_ble_eq_true rfl⟩) | (rintro _ _ rfl rfl; exact ⟨_, _, rfl, rfl⟩)) | (rintro _ rfl; exact ⟨fun z => ne (List.map_eq_nil_iff.mp z), by rw [List.length_map]; exact known_few mk⟩))
      rintro u v H7 ⟨_, rfl, _, _, rfl, rfl, _, _, rfl, ⟨_, rfl, m9⟩, rfl⟩ r7 dv
      obtain ⟨fn, fm, rfl⟩ := mem_strs m9
      exact out_s q (.mk false "call" [.str fn] [] []) (.call fm) rfl ((r13.trans rb).trans r7) dv
  · refine ⟨_, rfl, _, _, rfl, rfl, _, rfl, ?_⟩
    refine if_no (decide_eq_false (by decide)) ?_
    bv_omega
    refine ⟨_, rfl, rfl, _, rfl, ?_⟩
    refine if_no (dn (by decide)) ?_
    bv_omega
    refine ⟨_, rfl, rfl, _, rfl, ?_⟩
    refine if_no (dn (by decide)) ?_
    bv_omega
    refine ⟨_, rfl, _, _, rfl, rfl, _, rfl, ?_⟩
    refine if_no (decide_eq_false (by decide)) ?_
    bv_omega
    refine' Exists.intro _ ⟨?_, by assumption, ?_⟩
    rotate_left 1
    · (repeat' (first | rfl | exact Dat.int _ | exact Dat.bl _ | (refine (?_ : Dat _ _ _ _); assumption) | (refine (?_ : LD _ _ _ _); assumption) | (refine (?_ : _ ≠ _); assumption) | refine' Exists.intro _ ?_ | refine And.intro ?_ ?_))
      all_goals (first | (first | (rintro _ rfl; exact ⟨_, rfl, by decide, by decide⟩) | (intro ts h; (repeat (obtain ⟨_, _, rfl, _, h⟩ := h)); (try cases h); exact Nat.le_of_ble_eq_true rfl) | (intro ts h; (repeat (obtain ⟨_, _, rfl, _, h⟩ := h)); (try cases h); exact ⟨List.cons_ne_nil _ _, Nat.le_of_ble_eq_true rfl⟩) | (rintro _ _ rfl rfl; exact ⟨_, _, rfl, rfl⟩)))
    rintro u v6 H4 ⟨_, ⟨_, _, rfl, rfl, _, _, rfl, rfl, _, _, rfl, rfl, rfl⟩, m6⟩ r4 d6
    obtain ⟨one, om, rfl⟩ := mem_strs (zs := vars0) m6
    have om := (by decide : ∀ c ∈ vars0, c ∈ W0) one om
    cases dat_str d6
    have sr4 := r4.sr
    have d54 := d5.up r4.st
    bv_omega
    refine' Exists.intro _ ⟨?_, by assumption, ?_⟩
    rotate_left 1
    · (repeat' (first | rfl | exact Dat.int _ | exact Dat.bl _ | (refine (?_ : Dat _ _ _ _); assumption) | (refine (?_ : LD _ _ _ _); assumption) | (refine (?_ : _ ≠ _); assumption) | refine' Exists.intro _ ?_ | refine And.intro ?_ ?_))
      all_goals (first | (first | (rintro _ rfl; exact ⟨_, rfl, by decide, by decide⟩) | (intro ts h; (repeat (obtain ⟨_, _, rfl, _, h⟩ := h)); (try cases h); exact Nat.le_of_ble_eq_true rfl) | (intro ts h; (repeat (obtain ⟨_, _, rfl, _, h⟩ := h)); (try cases h); exact ⟨List.cons_ne_nil _ _, Nat.le_of_ble_eq_true rfl⟩) | (rintro _ _ rfl rfl; exact ⟨_, _, rfl, rfl⟩)))
    rintro _ a7 H5 ⟨_, _, rfl, ⟨_, rfl, _, _, rfl, rfl, _, _, rfl, rfl, rfl⟩, _, _, rfl, ⟨_, rfl, _, _, rfl, rfl, _, _, rfl, rfl, rfl⟩, _, _, rfl, ⟨_, rfl, _, _, rfl, rfl, _, _, rfl, rfl, rfl⟩, _, _, rfl, ⟨_, rfl, _, _, rfl, rfl, _, _, rfl, rfl, _, _, rfl, rfl, rfl⟩, _, _, rfl, ⟨_, rfl, _, _, rfl, rfl, _, _, rfl, rfl, rfl⟩, rfl⟩ r5 na7 ld7
    have sr5 := r5.sr
    bv_omega
    refine' Exists.intro _ ⟨?_, by assumption, ?_⟩
    rotate_left 1
    · (repeat' (first | rfl | exact Dat.int _ | exact Dat.bl _ | (refine (?_ : Dat _ _ _ _); assumption) | (refine (?_ : LD _ _ _ _); assumption) | (refine (?_ : _ ≠ _); assumption) | refine' Exists.intro _ ?_ | refine And.intro ?_ ?_))
      all_goals (first | (first | (rintro _ rfl; exact ⟨_, rfl, by decide, by decide⟩) | (intro ts h; (repeat (obtain ⟨_, _, rfl, _, h⟩ := h)); (try cases h); exact Nat.le_of_ble_eq_true rfl) | (intro ts h; (repeat (obtain ⟨_, _, rfl, _, h⟩ := h)); (try cases h); exact ⟨List.cons_ne_nil _ _, Nat.le_of_ble_eq_true rfl⟩) | (rintro _ _ rfl rfl; exact ⟨_, _, rfl, rfl⟩)))
    rintro u v8 H6 ⟨_, ⟨_, _, rfl, rfl, _, _, rfl, rfl, _, _, rfl, rfl, rfl⟩, m8⟩ r6 d8
    obtain ⟨md, mm, rfl⟩ := mem_strs (zs := ["fail", "fail", "pipes"]) m8
    have mo : md = "fail" ∨ md = "pipes" := by
      rcases List.mem_cons.mp mm with e | mm
      · exact .inl e
      rcases List.mem_cons.mp mm with e | mm
      · exact .inl e
      · exact .inr (List.mem_singleton.mp mm)
    cases dat_str d8
    have sr6 := r6.sr
    have ld76 := ld7.dr r6 na7
    have r16 := ((r13.trans r4).trans r5).trans r6
    bv_omega
    refine' Exists.intro _ ⟨?_, by assumption, ?_⟩
    rotate_left 1
    · (repeat' (first | rfl | exact Dat.int _ | exact Dat.bl _ | (refine (?_ : Dat _ _ _ _); assumption) | (refine (?_ : LD _ _ _ _); assumption) | (refine (?_ : _ ≠ _); assumption) | refine' Exists.intro _ ?_ | refine And.intro ?_ ?_))
      all_goals (first | (first | (rintro _ rfl; exact ⟨_, rfl, by decide, by decide⟩) | (intro ts h; (repeat (obtain ⟨_, _, rfl, _, h⟩ := h)); (try cases h); exact Nat.le_of_ble_eq_true rfl) | (intro ts h; (repeat (obtain ⟨_, _, rfl, _, h⟩ := h)); (try cases h); exact ⟨List.cons_ne_nil _ _, Nat.le_of_ble_eq_true rfl⟩) | (rintro _ _ rfl rfl; exact ⟨_, _, rfl, rfl⟩)) | (rintro _ _ rfl ⟨_, _, rfl, ⟨_, rfl, _⟩, _, _, rfl, ⟨_, rfl, _⟩, rfl⟩; exact Nat.le_of_ble_eq_true rfl) | (rintro _ ⟨_, _, rfl, ⟨_, _, rfl, ⟨_, rfl, _⟩, _, _, rfl, ⟨_, rfl, _⟩, rfl⟩, rfl⟩; exact ⟨List.cons_ne_nil _ _, Nat.le_of_ble_eq_true rfl⟩))
    rintro u v H7 ⟨_, ⟨_, _, rfl, ⟨_, _, rfl, ⟨_, rfl, _, _, rfl, rfl, _, _, rfl, rfl, _, _, rfl, rfl, rfl⟩, _, _, rfl, ⟨_, rfl, _, _, rfl, rfl, _, _, rfl, rfl, _, _, rfl, rfl, rfl⟩, rfl⟩, rfl⟩, m10⟩ r7 dv
    have r17 := r16.trans r7
    rcases List.mem_append.mp m10 with m10 | m10
    · rcases List.mem_cons.mp m10 with rfl | m10
      · exact out_s q (.mk false "status" [.int num] [] []) (.status m0 m1) rfl r17 dv
      rcases List.mem_cons.mp m10 with rfl | m10
      · exact out_s q (.mk false "keep" [.str one] [] []) (.var (by decide) om) rfl r17 dv
      rcases List.mem_cons.mp m10 with rfl | m10
      · exact out_s q (.mk false "give" [.str one] [] []) (.var (by decide) om) rfl r17 dv
      rcases List.mem_cons.mp m10 with rfl | m10
      · exact out_s q (.mk false "put" [.str one, .int num] [] []) (.put om m0 m1) rfl r17 dv
      · rw [List.mem_singleton.mp m10] at dv
        exact out_s q (.mk false "zero" [.str one] [] []) (.var (by decide) om) rfl r17 dv
    · rcases List.mem_cons.mp m10 with rfl | m10
      · exact out_s q (.mk false "option" [.str md, .bl true] [] []) (.option mo) rfl r17 dv
      · rw [List.mem_singleton.mp m10] at dv
        exact out_s q (.mk false "option" [.str md, .bl false] [] []) (.option mo) rfl r17 dv
  · refine ⟨_, rfl, _, _, rfl, rfl, _, rfl, ?_⟩
    refine if_no (decide_eq_false (by decide)) ?_
    bv_omega
    refine ⟨_, rfl, rfl, _, rfl, ?_⟩
    refine if_no (dn (by decide)) ?_
    bv_omega
    refine ⟨_, rfl, rfl, _, rfl, ?_⟩
    refine if_no (dn (by decide)) ?_
    bv_omega
    refine ⟨_, rfl, _, _, rfl, rfl, _, rfl, ?_⟩
    refine if_no (decide_eq_false (by decide)) ?_
    bv_omega
    refine' Exists.intro _ ⟨?_, by assumption, ?_⟩
    rotate_left 1
    · (repeat' (first | rfl | exact Dat.int _ | exact Dat.bl _ | (refine (?_ : Dat _ _ _ _); assumption) | (refine (?_ : LD _ _ _ _); assumption) | (refine (?_ : _ ≠ _); assumption) | refine' Exists.intro _ ?_ | refine And.intro ?_ ?_))
      all_goals (first | (first | (rintro _ rfl; exact ⟨_, rfl, by decide, by decide⟩) | (intro ts h; (repeat (obtain ⟨_, _, rfl, _, h⟩ := h)); (try cases h); exact Nat.le_of_ble_eq_true rfl) | (intro ts h; (repeat (obtain ⟨_, _, rfl, _, h⟩ := h)); (try cases h); exact ⟨List.cons_ne_nil _ _, Nat.le_of_ble_eq_true rfl⟩) | (rintro _ _ rfl rfl; exact ⟨_, _, rfl, rfl⟩)))
    rintro u v6 H4 ⟨_, ⟨_, _, rfl, rfl, _, _, rfl, rfl, _, _, rfl, rfl, rfl⟩, m6⟩ r4 d6
    obtain ⟨one, om, rfl⟩ := mem_strs (zs := vars0) m6
    have om := (by decide : ∀ c ∈ vars0, c ∈ W0) one om
    cases dat_str d6
    have sr4 := r4.sr
    have d54 := d5.up r4.st
    bv_omega
    refine' Exists.intro _ ⟨?_, by assumption, ?_⟩
    rotate_left 1
    · (repeat' (first | rfl | exact Dat.int _ | exact Dat.bl _ | (refine (?_ : Dat _ _ _ _); assumption) | (refine (?_ : LD _ _ _ _); assumption) | (refine (?_ : _ ≠ _); assumption) | refine' Exists.intro _ ?_ | refine And.intro ?_ ?_))
      all_goals (first | (first | (rintro _ rfl; exact ⟨_, rfl, by decide, by decide⟩) | (intro ts h; (repeat (obtain ⟨_, _, rfl, _, h⟩ := h)); (try cases h); exact Nat.le_of_ble_eq_true rfl) | (intro ts h; (repeat (obtain ⟨_, _, rfl, _, h⟩ := h)); (try cases h); exact ⟨List.cons_ne_nil _ _, Nat.le_of_ble_eq_true rfl⟩) | (rintro _ _ rfl rfl; exact ⟨_, _, rfl, rfl⟩)))
    rintro _ a7 H5 ⟨_, _, rfl, ⟨_, rfl, _, _, rfl, rfl, _, _, rfl, rfl, rfl⟩, _, _, rfl, ⟨_, rfl, _, _, rfl, rfl, _, _, rfl, rfl, rfl⟩, _, _, rfl, ⟨_, rfl, _, _, rfl, rfl, _, _, rfl, rfl, rfl⟩, _, _, rfl, ⟨_, rfl, _, _, rfl, rfl, _, _, rfl, rfl, _, _, rfl, rfl, rfl⟩, _, _, rfl, ⟨_, rfl, _, _, rfl, rfl, _, _, rfl, rfl, rfl⟩, rfl⟩ r5 na7 ld7
    have sr5 := r5.sr
    bv_omega
    refine' Exists.intro _ ⟨?_, by assumption, ?_⟩
    rotate_left 1
    · (repeat' (first | rfl | exact Dat.int _ | exact Dat.bl _ | (refine (?_ : Dat _ _ _ _); assumption) | (refine (?_ : LD _ _ _ _); assumption) | (refine (?_ : _ ≠ _); assumption) | refine' Exists.intro _ ?_ | refine And.intro ?_ ?_))
      all_goals (first | (first | (rintro _ rfl; exact ⟨_, rfl, by decide, by decide⟩) | (intro ts h; (repeat (obtain ⟨_, _, rfl, _, h⟩ := h)); (try cases h); exact Nat.le_of_ble_eq_true rfl) | (intro ts h; (repeat (obtain ⟨_, _, rfl, _, h⟩ := h)); (try cases h); exact ⟨List.cons_ne_nil _ _, Nat.le_of_ble_eq_true rfl⟩) | (rintro _ _ rfl rfl; exact ⟨_, _, rfl, rfl⟩)))
    rintro u v8 H6 ⟨_, ⟨_, _, rfl, rfl, _, _, rfl, rfl, _, _, rfl, rfl, rfl⟩, m8⟩ r6 d8
    obtain ⟨md, mm, rfl⟩ := mem_strs (zs := ["fail", "fail", "pipes"]) m8
    have mo : md = "fail" ∨ md = "pipes" := by
      rcases List.mem_cons.mp mm with e | mm
      · exact .inl e
      rcases List.mem_cons.mp mm with e | mm
      · exact .inl e
      · exact .inr (List.mem_singleton.mp mm)
    cases dat_str d8
    have sr6 := r6.sr
    have ld76 := ld7.dr r6 na7
    have r16 := ((r13.trans r4).trans r5).trans r6
    bv_omega
    refine' Exists.intro _ ⟨?_, by assumption, ?_⟩
    rotate_left 1
    · (repeat' (first | rfl | exact Dat.int _ | exact Dat.bl _ | (refine (?_ : Dat _ _ _ _); assumption) | (refine (?_ : LD _ _ _ _); assumption) | (refine (?_ : _ ≠ _); assumption) | refine' Exists.intro _ ?_ | refine And.intro ?_ ?_))
      all_goals (first | (first | (rintro _ rfl; exact ⟨_, rfl, by decide, by decide⟩) | (intro ts h; (repeat (obtain ⟨_, _, rfl, _, h⟩ := h)); (try cases h); exact Nat.le_of_ble_eq_true rfl) | (intro ts h; (repeat (obtain ⟨_, _, rfl, _, h⟩ := h)); (try cases h); exact ⟨List.cons_ne_nil _ _, Nat.le_of_ble_eq_true rfl⟩) | (rintro _ _ rfl rfl; exact ⟨_, _, rfl, rfl⟩)) | (rintro _ _ rfl ⟨_, _, rfl, ⟨_, rfl, _⟩, _, _, rfl, ⟨_, rfl, _⟩, rfl⟩; exact Nat.le_of_ble_eq_true rfl) | (rintro _ ⟨_, _, rfl, ⟨_, _, rfl, ⟨_, rfl, _⟩, _, _, rfl, ⟨_, rfl, _⟩, rfl⟩, rfl⟩; exact ⟨List.cons_ne_nil _ _, Nat.le_of_ble_eq_true rfl⟩))
    rintro u v H7 ⟨_, ⟨_, _, rfl, ⟨_, _, rfl, ⟨_, rfl, _, _, rfl, rfl, _, _, rfl, rfl, _, _, rfl, rfl, rfl⟩, _, _, rfl, ⟨_, rfl, _, _, rfl, rfl, _, _, rfl, rfl, _, _, rfl, rfl, rfl⟩, rfl⟩, rfl⟩, m10⟩ r7 dv
    have r17 := r16.trans r7
    rcases List.mem_append.mp m10 with m10 | m10
    · rcases List.mem_cons.mp m10 with rfl | m10
      · exact out_s q (.mk false "status" [.int num] [] []) (.status m0 m1) rfl r17 dv
      rcases List.mem_cons.mp m10 with rfl | m10
      · exact out_s q (.mk false "keep" [.str one] [] []) (.var (by decide) om) rfl r17 dv
      rcases List.mem_cons.mp m10 with rfl | m10
      · exact out_s q (.mk false "give" [.str one] [] []) (.var (by decide) om) rfl r17 dv
      rcases List.mem_cons.mp m10 with rfl | m10
      · exact out_s q (.mk false "put" [.str one, .int num] [] []) (.put om m0 m1) rfl r17 dv
      · rw [List.mem_singleton.mp m10] at dv
        exact out_s q (.mk false "zero" [.str one] [] []) (.var (by decide) om) rfl r17 dv
    · rcases List.mem_cons.mp m10 with rfl | m10
      · exact out_s q (.mk false "option" [.str md, .bl true] [] []) (.option mo) rfl r17 dv
      · rw [List.mem_singleton.mp m10] at dv
        exact out_s q (.mk false "option" [.str md, .bl false] [] []) (.option mo) rfl r17 dv
  · refine ⟨_, rfl, _, _, rfl, rfl, _, rfl, ?_⟩
    refine if_no (decide_eq_false (by decide)) ?_
    bv_omega
    refine ⟨_, rfl, rfl, _, rfl, ?_⟩
    refine if_no (dn (by decide)) ?_
    bv_omega
    refine ⟨_, rfl, rfl, _, rfl, ?_⟩
    refine if_no (dn (by decide)) ?_
    bv_omega
    refine ⟨_, rfl, _, _, rfl, rfl, _, rfl, ?_⟩
    refine if_no (decide_eq_false (by decide)) ?_
    bv_omega
    refine' Exists.intro _ ⟨?_, by assumption, ?_⟩
    rotate_left 1
    · (repeat' (first | rfl | exact Dat.int _ | exact Dat.bl _ | (refine (?_ : Dat _ _ _ _); assumption) | (refine (?_ : LD _ _ _ _); assumption) | (refine (?_ : _ ≠ _); assumption) | refine' Exists.intro _ ?_ | refine And.intro ?_ ?_))
      all_goals (first | (first | (rintro _ rfl; exact ⟨_, rfl, by decide, by decide⟩) | (intro ts h; (repeat (obtain ⟨_, _, rfl, _, h⟩ := h)); (try cases h); exact Nat.le_of_ble_eq_true rfl) | (intro ts h; (repeat (obtain ⟨_, _, rfl, _, h⟩ := h)); (try cases h); exact ⟨List.cons_ne_nil _ _, Nat.le_of_ble_eq_true rfl⟩) | (rintro _ _ rfl rfl; exact ⟨_, _, rfl, rfl⟩)))
    rintro u v6 H4 ⟨_, ⟨_, _, rfl, rfl, _, _, rfl, rfl, _, _, rfl, rfl, rfl⟩, m6⟩ r4 d6
    obtain ⟨one, om, rfl⟩ := mem_strs (zs := vars0) m6
    have om := (by decide : ∀ c ∈ vars0, c ∈ W0) one om
    cases dat_str d6
    have sr4 := r4.sr
    have d54 := d5.up r4.st
    bv_omega
    refine' Exists.intro _ ⟨?_, by assumption, ?_⟩
    rotate_left 1
    · (repeat' (first | rfl | exact Dat.int _ | exact Dat.bl _ | (refine (?_ : Dat _ _ _ _); assumption) | (refine (?_ : LD _ _ _ _); assumption) | (refine (?_ : _ ≠ _); assumption) | refine' Exists.intro _ ?_ | refine And.intro ?_ ?_))
      all_goals (first | (first | (rintro _ rfl; exact ⟨_, rfl, by decide, by decide⟩) | (intro ts h; (repeat (obtain ⟨_, _, rfl, _, h⟩ := h)); (try cases h); exact Nat.le_of_ble_eq_true rfl) | (intro ts h; (repeat (obtain ⟨_, _, rfl, _, h⟩ := h)); (try cases h); exact ⟨List.cons_ne_nil _ _, Nat.le_of_ble_eq_true rfl⟩) | (rintro _ _ rfl rfl; exact ⟨_, _, rfl, rfl⟩)))
    rintro _ a7 H5 ⟨_, _, rfl, ⟨_, rfl, _, _, rfl, rfl, _, _, rfl, rfl, rfl⟩, _, _, rfl, ⟨_, rfl, _, _, rfl, rfl, _, _, rfl, rfl, rfl⟩, _, _, rfl, ⟨_, rfl, _, _, rfl, rfl, _, _, rfl, rfl, rfl⟩, _, _, rfl, ⟨_, rfl, _, _, rfl, rfl, _, _, rfl, rfl, _, _, rfl, rfl, rfl⟩, _, _, rfl, ⟨_, rfl, _, _, rfl, rfl, _, _, rfl, rfl, rfl⟩, rfl⟩ r5 na7 ld7
    have sr5 := r5.sr
    bv_omega
    refine' Exists.intro _ ⟨?_, by assumption, ?_⟩
    rotate_left 1
    · (repeat' (first | rfl | exact Dat.int _ | exact Dat.bl _ | (refine (?_ : Dat _ _ _ _); assumption) | (refine (?_ : LD _ _ _ _); assumption) | (refine (?_ : _ ≠ _); assumption) | refine' Exists.intro _ ?_ | refine And.intro ?_ ?_))
      all_goals (first | (first | (rintro _ rfl; exact ⟨_, rfl, by decide, by decide⟩) | (intro ts h; (repeat (obtain ⟨_, _, rfl, _, h⟩ := h)); (try cases h); exact Nat.le_of_ble_eq_true rfl) | (intro ts h; (repeat (obtain ⟨_, _, rfl, _, h⟩ := h)); (try cases h); exact ⟨List.cons_ne_nil _ _, Nat.le_of_ble_eq_true rfl⟩) | (rintro _ _ rfl rfl; exact ⟨_, _, rfl, rfl⟩)))
    rintro u v8 H6 ⟨_, ⟨_, _, rfl, rfl, _, _, rfl, rfl, _, _, rfl, rfl, rfl⟩, m8⟩ r6 d8
    obtain ⟨md, mm, rfl⟩ := mem_strs (zs := ["fail", "fail", "pipes"]) m8
    have mo : md = "fail" ∨ md = "pipes" := by
      rcases List.mem_cons.mp mm with e | mm
      · exact .inl e
      rcases List.mem_cons.mp mm with e | mm
      · exact .inl e
      · exact .inr (List.mem_singleton.mp mm)
    cases dat_str d8
    have sr6 := r6.sr
    have ld76 := ld7.dr r6 na7
    have r16 := ((r13.trans r4).trans r5).trans r6
    bv_omega
    refine' Exists.intro _ ⟨?_, by assumption, ?_⟩
    rotate_left 1
    · (repeat' (first | rfl | exact Dat.int _ | exact Dat.bl _ | (refine (?_ : Dat _ _ _ _); assumption) | (refine (?_ : LD _ _ _ _); assumption) | (refine (?_ : _ ≠ _); assumption) | refine' Exists.intro _ ?_ | refine And.intro ?_ ?_))
      all_goals (first | (first | (rintro _ rfl; exact ⟨_, rfl, by decide, by decide⟩) | (intro ts h; (repeat (obtain ⟨_, _, rfl, _, h⟩ := h)); (try cases h); exact Nat.le_of_ble_eq_true rfl) | (intro ts h; (repeat (obtain ⟨_, _, rfl, _, h⟩ := h)); (try cases h); exact ⟨List.cons_ne_nil _ _, Nat.le_of_ble_eq_true rfl⟩) | (rintro _ _ rfl rfl; exact ⟨_, _, rfl, rfl⟩)) | (rintro _ _ rfl ⟨_, _, rfl, ⟨_, rfl, _⟩, _, _, rfl, ⟨_, rfl, _⟩, rfl⟩; exact Nat.le_of_ble_eq_true rfl) | (rintro _ ⟨_, _, rfl, ⟨_, _, rfl, ⟨_, rfl, _⟩, _, _, rfl, ⟨_, rfl, _⟩, rfl⟩, rfl⟩; exact ⟨List.cons_ne_nil _ _, Nat.le_of_ble_eq_true rfl⟩))
    rintro u v H7 ⟨_, ⟨_, _, rfl, ⟨_, _, rfl, ⟨_, rfl, _, _, rfl, rfl, _, _, rfl, rfl, _, _, rfl, rfl, rfl⟩, _, _, rfl, ⟨_, rfl, _, _, rfl, rfl, _, _, rfl, rfl, _, _, rfl, rfl, rfl⟩, rfl⟩, rfl⟩, m10⟩ r7 dv
    have r17 := r16.trans r7
    rcases List.mem_append.mp m10 with m10 | m10
    · rcases List.mem_cons.mp m10 with rfl | m10
      · exact out_s q (.mk false "status" [.int num] [] []) (.status m0 m1) rfl r17 dv
      rcases List.mem_cons.mp m10 with rfl | m10
      · exact out_s q (.mk false "keep" [.str one] [] []) (.var (by decide) om) rfl r17 dv
      rcases List.mem_cons.mp m10 with rfl | m10
      · exact out_s q (.mk false "give" [.str one] [] []) (.var (by decide) om) rfl r17 dv
      rcases List.mem_cons.mp m10 with rfl | m10
      · exact out_s q (.mk false "put" [.str one, .int num] [] []) (.put om m0 m1) rfl r17 dv
      · rw [List.mem_singleton.mp m10] at dv
        exact out_s q (.mk false "zero" [.str one] [] []) (.var (by decide) om) rfl r17 dv
    · rcases List.mem_cons.mp m10 with rfl | m10
      · exact out_s q (.mk false "option" [.str md, .bl true] [] []) (.option mo) rfl r17 dv
      · rw [List.mem_singleton.mp m10] at dv
        exact out_s q (.mk false "option" [.str md, .bl false] [] []) (.option mo) rfl r17 dv
end
end Ck

/-! Trees side by side. -/
namespace Ck
open PySem PySem.Spec PyProof.Rows L2
section
variable {X : Cx} {P : Program} {w : World} {K : PySem.W.Frag} {mg : Str → Option Value} {base : Heap} {H H1 H2 : Hp} {l : Addr}
theorem Dr.put {D : Addr} {o : HO} (d : Dr l H H1) (n : H D = none) (ne : D ≠ l) (t : ∀ xs, H1 D ≠ some (.tup xs)) : Dr l H (upd H1 D o) := by
  refine ⟨fun p o q z => ?_, fun b xs z => ?_, ?_⟩
  · rw [upd_ne (by rintro rfl; rw [n] at z; cases z)]
    exact d.keep p o q z
  · rw [upd_ne (by rintro rfl; rw [n] at z; cases z)]
    exact d.st b xs z
  · obtain ⟨a, c, k, e⟩ := d.sr
    exact ⟨a, c, k, by rw [upd_ne (Ne.symm ne)]; exact e⟩
def Good (known : List Str) (wi : Bool) (lp : Nat) (h : Nat) (tr : Tr) : Prop := Okt C0 W0 255 255 known wi lp tr ∧ ht tr ≤ h
abbrev GoodW (known : List Str) (wi : Bool) (lp d : Nat) (tr : Tr) : Prop := Good known wi lp (2 * d + 1) tr
def PreT (d : Nat) : KSet := fun ts known => known ∈ knowns ∧ ∃ (deep : Int) (lp : Nat) (wi : Bool), ts = [.int deep, .int (lp : Nat), .bl wi] ∧ lp + d ≤ 100 ∧ deep ≤ d
def PostT (d : Nat) : List T → List Str → T → Prop := fun ts known t => ∃ (deep : Int) (lp : Nat) (wi : Bool) (tr : Tr), ts = [.int deep, .int (lp : Nat), .bl wi] ∧ t = enc tr ∧ GoodW known wi lp d tr
abbrev PTr : List Str := ["_law_source_here", "_law_deep", "_law_loops", "_law_within", "_law_known"]
abbrev GTr (P : Program) (w : World) (K : PySem.W.Frag) (mg : Str → Option Value) (base : Heap) (d : Nat) : Prop := Go P w K mg base CX0 (91 + d) "_law_form" PTr (spG K 3 (PreT d) (PostT d))
theorem map_str : ∀ {a b : List Str}, a.map T.str = b.map T.str → a = b
  | [], [], _ => rfl
  | [], _ :: _, h => by cases h
  | _ :: _, [], h => by cases h
  | x :: a, y :: b, h => by
    injection h with h1 h2
    injection h1 with h1
    rw [h1, map_str h2]
theorem encs_app : ∀ a b : List Tr, encs (a ++ b) = encs a ++ encs b
  | [], b => rfl
  | x :: a, b => by
    show enc x :: encs (a ++ b) = enc x :: (encs a ++ encs b)
    rw [encs_app a b]
end
end Ck

/-! Calls of the defs that draw. -/
namespace Ck
open PySem PySem.Spec PyProof.Rows L2
abbrev CR := L2.St → Hp → TSet → Prop
abbrev CL := L2.St → Hp → TsSet → Prop
section
variable {X : Cx} {P : Program} {w : World} {K : PySem.W.Frag} {mg : Str → Option Value} {base : Heap} {H H1 H2 : Hp} {l : Addr}
theorem pr_imp {e : Expr} {C C' : CR} (p : PR X l e C) (h : ∀ σ H D, C' σ H D → ∃ D1, C σ H D1 ∧ ∀ t, D1 t → D t) (up : ∀ σ H H' D, Dr l H H' → C' σ H D → C' σ H' D) : PR X l e C' :=
  ⟨pe_imp p.pe fun σ H Q ⟨D, c, s, q⟩ => by
    obtain ⟨D1, c1, m⟩ := h σ H D c
    exact ⟨D1, c1, s, fun t v H' d1 r d => q t v H' (m t d1) r d⟩, up⟩
theorem pr_binD {a b : Expr} {pos : Pos} {op : Operator} {f : Int → Int → Int} {C1 C2 : CR} (o : OpR X (binaryOp op) (rI0 fun i j => .int (f i j))) (ha : PR X l a C1) (hb : PR X l b C2) :
    PR X l (.BinOp a op b pos) fun σ H D => ∃ i j, C1 σ H (fun t => t = .int i) ∧ C2 σ H (fun t => t = .int j) ∧ D = fun t => t = .int (f i j) :=
  pr_imp (pr_bin o ha hb) (fun σ H D ⟨i, j, c1, c2, e⟩ => by
    subst e
    refine ⟨_, ⟨_, _, c1, c2, fun t u h1 h2 => ⟨i, j, h1, h2⟩, rfl⟩, ?_⟩
    rintro t ⟨i2, j2, h1, h2, e⟩
    cases h1
    cases h2
    exact e) fun σ H H' D r ⟨i, j, c1, c2, e⟩ => ⟨i, j, ha.up _ _ _ _ r c1, hb.up _ _ _ _ r c2, e⟩
abbrev GSm (P : Program) (w : World) (K : PySem.W.Frag) (mg : Str → Option Value) (base : Heap) : Prop := Go P w K mg base CX0 90 "_law_jump" PSm (spG K 2 PreS PostS)
section
variable {x : Str} {p p2 pos : Pos} {i : Nat}
theorem pr_small {b c k : Expr} {Cb Cc : CR} {Cq : CL} (G : GSm X.prog X.w X.K X.mg X.base) (hr : Room 90 X.A) (hg : Gl X "_law_jump") (hx : PE X (.Name x p2) (tVar i)) (hb : PR X l b Cb) (hc : PR X l c Cc) (hk : PRl X l k Cq)
    (h1 : starEach [Expr.Name x p2, b, c, k] X.env = (false, eval (Expr.Name x p2) X.env) :: starEach [b, c, k] X.env := by rfl) (h2 : starEach [b, c, k] X.env = (false, eval b X.env) :: starEach [c, k] X.env := by rfl) (h3 : starEach [c, k] X.env = (false, eval c X.env) :: starEach [k] X.env := by rfl) (h4 : starEach [k] X.env = (false, eval k X.env) :: starEach [] X.env := by rfl) (hpl : (backTo pos (starEach [b, c, k] X.env)).any (·.1) = false := by rfl) :
    PR X l (.Call (.Name "_law_jump" p) [.Name x p2, b, c, k] [] pos) fun σ H D => σ[i]? = some (some (.ref l)) ∧ ∃ (lp : Nat) (wi : Bool) (known : List Str), Cb σ H (fun t => t = .int (lp : Nat)) ∧ Cc σ H (fun t => t = .bl wi) ∧ Cq σ H (fun ts => ts = known.map T.str) ∧ known ∈ knowns ∧ lp ≤ 100 ∧ D = fun t => ∃ tr, t = enc tr ∧ Okt C0 W0 255 255 known wi lp tr ∧ ht tr = 1 :=
  pr_imp (pr_gen (n := 2) G hr hg hx (pgs_cons hb (pgs_cons hc (pgs_last hk h4) h3) h2) (by decide) h1 hpl) (fun σ H D ⟨el, lp, wi, known, cb, cc, ck, mk, lb, e⟩ => by
    subst e
    refine ⟨_, ⟨el, _, ⟨_, _, cb, ⟨_, _, cc, ⟨_, ck, fun ts h => ⟨known, h⟩, rfl⟩, rfl⟩, rfl⟩, ?_, rfl⟩, ?_⟩
    · rintro _ ks ⟨_, _, rfl, rfl, _, _, rfl, rfl, rfl, ek⟩
      cases map_str ek
      exact ⟨rfl, mk, _, _, rfl, lb⟩
    · rintro t ⟨_, ks, ⟨_, _, rfl, rfl, _, _, rfl, rfl, rfl, ek⟩, lp2, wi2, tr, et, e2, o, h⟩
      cases map_str ek
      injection et with e3 et
      injection et with e4 et
      cases e3
      cases e4
      exact ⟨tr, e2, o, h⟩) fun σ H H' D r ⟨el, lp, wi, known, cb, cc, ck, mk, lb, e⟩ => ⟨el, lp, wi, known, hb.up _ _ _ _ r cb, hc.up _ _ _ _ r cc, hk.up _ _ _ _ r ck, mk, lb, e⟩
theorem pr_tree {a b c k : Expr} {Ca Cb Cc : CR} {Cq : CL} {d : Nat} (G : GTr X.prog X.w X.K X.mg X.base d) (hr : Room (91 + d) X.A) (hg : Gl X "_law_form") (hx : PE X (.Name x p2) (tVar i)) (ha : PR X l a Ca) (hb : PR X l b Cb) (hc : PR X l c Cc) (hk : PRl X l k Cq)
    (h1 : starEach [Expr.Name x p2, a, b, c, k] X.env = (false, eval (Expr.Name x p2) X.env) :: starEach [a, b, c, k] X.env := by rfl) (h0 : starEach [a, b, c, k] X.env = (false, eval a X.env) :: starEach [b, c, k] X.env := by rfl) (h2 : starEach [b, c, k] X.env = (false, eval b X.env) :: starEach [c, k] X.env := by rfl) (h3 : starEach [c, k] X.env = (false, eval c X.env) :: starEach [k] X.env := by rfl) (h4 : starEach [k] X.env = (false, eval k X.env) :: starEach [] X.env := by rfl) (hpl : (backTo pos (starEach [a, b, c, k] X.env)).any (·.1) = false := by rfl) :
    PR X l (.Call (.Name "_law_form" p) [.Name x p2, a, b, c, k] [] pos) fun σ H D => σ[i]? = some (some (.ref l)) ∧ ∃ (deep : Int) (lp : Nat) (wi : Bool) (known : List Str), Ca σ H (fun t => t = .int deep) ∧ Cb σ H (fun t => t = .int (lp : Nat)) ∧ Cc σ H (fun t => t = .bl wi) ∧ Cq σ H (fun ts => ts = known.map T.str) ∧ known ∈ knowns ∧ lp + d ≤ 100 ∧ deep ≤ d ∧ D = fun t => ∃ tr, t = enc tr ∧ GoodW known wi lp d tr :=
  pr_imp (pr_gen (n := 3) G hr hg hx (pgs_cons ha (pgs_cons hb (pgs_cons hc (pgs_last hk h4) h3) h2) h0) (by decide) h1 hpl) (fun σ H D ⟨el, deep, lp, wi, known, ca, cb, cc, ck, mk, lb, db, e⟩ => by
    subst e
    refine ⟨_, ⟨el, _, ⟨_, _, ca, ⟨_, _, cb, ⟨_, _, cc, ⟨_, ck, fun ts h => ⟨known, h⟩, rfl⟩, rfl⟩, rfl⟩, rfl⟩, ?_, rfl⟩, ?_⟩
    · rintro _ ks ⟨_, _, rfl, rfl, _, _, rfl, rfl, _, _, rfl, rfl, rfl, ek⟩
      cases map_str ek
      exact ⟨rfl, mk, _, _, _, rfl, lb, db⟩
    · rintro t ⟨_, ks, ⟨_, _, rfl, rfl, _, _, rfl, rfl, _, _, rfl, rfl, rfl, ek⟩, d2, lp2, wi2, tr, et, e2, g⟩
      cases map_str ek
      injection et with _ et
      injection et with e3 et
      injection et with e4 et
      cases e3
      cases e4
      exact ⟨tr, e2, g⟩) fun σ H H' D r ⟨el, deep, lp, wi, known, ca, cb, cc, ck, mk, lb, db, e⟩ => ⟨el, deep, lp, wi, known, ha.up _ _ _ _ r ca, hb.up _ _ _ _ r cb, hc.up _ _ _ _ r cc, hk.up _ _ _ _ r ck, mk, lb, db, e⟩
end
end
end Ck

/-! One of some values. -/
namespace Ck
open PySem PySem.Spec PyProof.Rows L2
local macro_rules | `(tactic| bv_omega) => `(tactic| try dsimp only [L2.tRet, L2.tRetN, tAndV, tOrV, tNotV, tCB, L2.tCons, L2.tNil, tC, tVar, L2.tOp, L2.tUn, tSeq, tAsg, gName, tIfS, tTest, tNext, tAnd, tOr, tNot, L2.tIf, tFld, sFld, sFldAug, tCall, tTup, tB, tAug, tDrop, L2.tSl, tPart, tNoPart, tBM, tBM0, tChain, gTup, gCons, gNil, tPar, tIs, List.set, L2.start, iTup, L2.iList, L2.iRng1, tUn, tLst, tTest, gSub, tCall, L2.tIf, tCB, rRep, List.set, List.cons_append, List.nil_append, cxOf])
section
variable {X : Cx} {P : Program} {w : World} {K : PySem.W.Frag} {mg : Str → Option Value} {base : Heap} {H H1 H2 : Hp} {l : Addr}
def spPickV : Sp := fun vs H Q _ => ∃ l a xs, vs = [.ref l, .ref a] ∧ Sr l H ∧ a ≠ l ∧ H a = some (.lst xs) ∧ xs ≠ [] ∧ xs.length ≤ 1000 ∧ ∀ v H', v ∈ xs → Dr l H H' → Q v H'
abbrev GPv (P : Program) (w : World) (K : PySem.W.Frag) (mg : Str → Option Value) (base : Heap) : Prop := Go P w K mg base CX0 89 "_law_pick" ["_law_source_here", "_law_options"] spPickV
theorem ok_pickV {f : Addr} {fd : FuncData} (F : Fun K "_law_pick" "_law_pick" sPick f fd) (GT : GTk P w K mg base) (ml : mg "len" = none) : FnOk P w K mg base CX0 89 f fd ["_law_source_here", "_law_options"] spPickV := by
  refine F.ok scPk (fun vs H Q E h => ?_) (fun cdv A outer s H vs Q E hr h => ?_)
  · obtain ⟨_, _, _, rfl, _⟩ := h
    rfl
  obtain ⟨l, a, xs, rfl, sr, na, ex, ne, few, q⟩ := h
  refine ⟨_, pss_one (ps_ret (pe_ix ix_list (pv 1) (pe_go GT hr pass0 rfl (pa_cons (pv 0) (pa_cons (pe_callB call_len_seq rfl ml PySem.boot_len (pa_cons (pv 1) pa_nil)) pa_nil))) fun _ _ => rfl)), ?_⟩
  bv_omega
  have l0 : 0 < xs.length := List.length_pos_iff.mpr ne
  refine ⟨_, rfl, _, rfl, _, rfl, a, xs, rfl, .inl (.inl (.inl ex)), ?_⟩
  refine take_use sr (by omega) (by omega) fun r H1 r0 r1 st keep sr1 => ?_
  obtain ⟨k, rfl⟩ := Int.eq_ofNat_of_zero_le r0
  have kl : k < xs.length := by omega
  have dr : Dr l H H1 := ⟨fun p o n z => (keep p n).trans z, st, sr1⟩
  exact ⟨a, xs, _, _, rfl, rfl, .inl (.inl (dr.keep _ _ na ex)), atI_nat (List.getElem?_eq_getElem kl), q _ _ (List.getElem_mem kl) dr⟩
theorem fr2 {H : Hp} {a b : Addr} {o : HO} (h : upd H a o b = none) : b ≠ a ∧ H b = none := by
  by_cases c : b = a
  · subst c
    rw [upd_same] at h
    cases h
  · rw [upd_ne c] at h
    exact ⟨c, h⟩
end
end Ck

/-! A tree. -/
namespace Ck
open PySem PySem.Spec PyProof.Rows L2
local macro_rules | `(tactic| bv_omega) => `(tactic| try dsimp only [L2.tRet, L2.tRetN, tAndV, tOrV, tNotV, tCB, L2.tCons, L2.tNil, tC, tVar, L2.tOp, L2.tUn, tSeq, tAsg, gName, tIfS, tTest, tNext, tAnd, tOr, tNot, L2.tIf, tFld, sFld, sFldAug, tCall, tTup, tB, tAug, tDrop, L2.tSl, tPart, tNoPart, tBM, tBM0, tChain, gTup, gCons, gNil, tPar, tIs, List.set, L2.start, iTup, L2.iList, L2.iRng1, tUn, tLst, tTest, gSub, tCall, L2.tIf, tCB, rRep, List.set, List.cons_append, List.nil_append, cxOf])
theorem hts_le {n : Nat} : ∀ {ks : List Tr}, (∀ k ∈ ks, ht k ≤ n) → hts ks ≤ n
  | [], _ => Nat.zero_le _
  | k :: ks, h => by
    have a := h k List.mem_cons_self
    have b := hts_le (ks := ks) fun k m => h k (List.mem_cons_of_mem _ m)
    show max (ht k) (hts ks) ≤ n
    omega
section
variable {X : Cx} {P : Program} {w : World} {K : PySem.W.Frag} {mg : Str → Option Value} {base : Heap} {H H1 H2 : Hp} {l : Addr}
theorem pss_false {ss : List Stmt} : PSs X ss (fun _ _ _ => False) := ⟨fun _ _ _ _ _ _ h => h.elim⟩
theorem out_t {d : Nat} {deep : Int} {lp : Nat} {wi : Bool} {known : List Str} {Q : VK} (q : ∀ t v H', PostT d [.int deep, .int (lp : Nat), .bl wi] known t → Dr l H H' → Dat K H' v t → Q v H') (tr : Tr) (o : Okt C0 W0 255 255 known wi lp tr) (h : ht tr ≤ 2 * d + 1) {v : V} (dr : Dr l H H1) (dt : Dat K H1 v (enc tr)) : Q v H1 :=
  q _ v H1 ⟨deep, lp, wi, tr, rfl, rfl, o, h⟩ dr dt
abbrev sTree : Stmt := topS 65
abbrev NTr : List Str := ["_law_source_here", "_law_deep", "_law_loops", "_law_within", "_law_known", "_law_way", "_law_parts", "_law_one", "_law_other", "_law_third", "_law_first", "_law_body", "_law_inner", "_law_k"]
theorem scTr : FnScope NTr PTr (defScope sTree) := ⟨rfl, rfl, rfl, by decide +kernel, rfl, by decide +kernel, by decide +kernel⟩
theorem ok_tree0 {f : Addr} {fd : FuncData} (F : Fun K "_law_form" "_law_form" sTree f fd) (GT : GTk P w K mg base) (GS : GSm P w K mg base) : FnOk P w K mg base CX0 91 f fd PTr (spG K 3 (PreT 0) (PostT 0)) := by
  refine F.ok scTr (fun vs H Q E h => ?_) (fun cdv A outer s H vs Q E hr h => ?_)
  · obtain ⟨_, us, _, _, _, rfl, ln, _⟩ := h
    show (_ :: (us ++ [_])).length = 5
    rw [List.length_cons, List.length_append, ln]
    rfl
  obtain ⟨l, us, ts, kn, known, rfl, ln, sr, ds, nk, ld, ⟨mk, deep, lp, wi, rfl, lb, db⟩, q⟩ := h
  obtain ⟨v0, us, rfl, d0, ds⟩ := dats_cons ds
  obtain ⟨v1, us, rfl, d1, ds⟩ := dats_cons ds
  obtain ⟨v2, us, rfl, d2, ds⟩ := dats_cons ds
  cases dats_nil ds
  cases dat_int d0
  cases dat_int d1
  cases dat_bl d2
  have hr8 := hr.mono (j := 88) (by decide)
  have hr0 := hr.mono (j := 90) (by decide)
  refine ⟨_, (pss_cons (ps_set (i := 5) scTr.nd rfl (.inl rfl) (pe_r (pr_take (l := l) GT hr8 rfl (pv 0) pr_int))) (pss_cons (ps_if (PW.pt (pw_or (pt_cmpR op_le (pv 1) pe_int rfl) (pw_or1 (pt_cmpR op_eq (pv 5) pe_int rfl)))) (pss_one (ps_ret (pe_r (pr_small (l := l) GS hr0 rfl (pv 0) (pr_var 2 (pv 2)) (pr_var 3 (pv 3)) (prl_var 4 (pv 4)))))) pss_nil) pss_false)), ?_⟩
  bv_omega
  refine' Exists.intro _ ⟨?_, by assumption, ?_⟩
  rotate_left 1
  · (repeat' (first | rfl | exact Dat.int _ | exact Dat.bl _ | (refine (?_ : Dat _ _ _ _); assumption) | (refine (?_ : LD _ _ _ _); assumption) | (refine (?_ : _ ≠ _); assumption) | refine' Exists.intro _ ?_ | refine And.intro ?_ ?_))
    all_goals (first | (first | (rintro _ rfl; exact ⟨_, rfl, by decide, by decide⟩) | (intro ts h; (repeat (obtain ⟨_, _, rfl, _, h⟩ := h)); (try cases h); exact Nat.le_of_ble_eq_true rfl) | (intro ts h; (repeat (obtain ⟨_, _, rfl, _, h⟩ := h)); (try cases h); exact ⟨List.cons_ne_nil _ _, Nat.le_of_ble_eq_true rfl⟩) | (rintro _ _ rfl rfl; exact ⟨_, _, rfl, rfl⟩)))
  rintro _ v5 H2 ⟨_, r, ⟨⟩, r0, rb, rfl⟩ r2 dv
  cases dat_int dv
  obtain ⟨k, rfl⟩ := Int.eq_ofNat_of_zero_le r0
  have sr2 := r2.sr
  have ld2 := ld.dr r2 nk
  bv_omega
  refine ⟨_, rfl, _, _, rfl, rfl, _, rfl, ?_⟩
  refine if_yes (decide_eq_true (by omega)) ?_
  bv_omega
  refine' Exists.intro _ ⟨?_, by assumption, ?_⟩
  rotate_left 1
  · (repeat' (first | rfl | exact Dat.int _ | exact Dat.bl _ | (refine (?_ : Dat _ _ _ _); assumption) | (refine (?_ : LD _ _ _ _); assumption) | (refine (?_ : _ ≠ _); assumption) | refine' Exists.intro _ ?_ | refine And.intro ?_ ?_))
    all_goals (first | (first | (rintro _ rfl; exact ⟨_, rfl, by decide, by decide⟩) | (intro ts h; (repeat (obtain ⟨_, _, rfl, _, h⟩ := h)); (try cases h); exact Nat.le_of_ble_eq_true rfl) | (intro ts h; (repeat (obtain ⟨_, _, rfl, _, h⟩ := h)); (try cases h); exact ⟨List.cons_ne_nil _ _, Nat.le_of_ble_eq_true rfl⟩) | (rintro _ _ rfl rfl; exact ⟨_, _, rfl, rfl⟩)) | (exact mk) | (omega))
  rintro _ v H3 ⟨tr, rfl, o, h1⟩ r3 dv
  exact out_t q tr o (by omega) (r2.trans r3) dv
theorem Dr.none_of {D : Addr} (d : Dr l H H1) (ne : D ≠ l) (n : H1 D = none) : H D = none := by
  cases e : H D with
  | none => rfl
  | some o =>
    rw [d.keep D o ne e] at n
    cases n
def tOneF (K : PySem.W.Frag) (l kn : Addr) (known : List Str) (d : Nat) (lp : Nat) (wi : Bool) : TE := fun σ H Q => ∃ deep : Int, σ[0]? = some (some (.ref l)) ∧ σ[1]? = some (some (.int deep)) ∧ σ[2]? = some (some (.int (lp : Nat))) ∧ σ[3]? = some (some (.bl wi)) ∧ σ[4]? = some (some (.ref kn)) ∧ Sr l H ∧ known ∈ knowns ∧ kn ≠ l ∧ LD K H kn (known.map T.str) ∧ deep - 1 ≤ d ∧ lp + d ≤ 100 ∧
  ∀ tr v H', GoodW known wi lp d tr → Dr l H H' → Dat K H' v (enc tr) → Q v H'
theorem ok_tree {f : Addr} {fd : FuncData} {d : Nat} (F : Fun K "_law_form" "_law_form" sTree f fd) (GT : GTk P w K mg base) (GP : GPk P w K mg base) (GV : GPv P w K mg base) (GS : GSm P w K mg base) (GR : GTr P w K mg base d) (mr : mg "range" = none) (mt : mg "tuple" = none) : FnOk P w K mg base CX0 (91 + (d + 1)) f fd PTr (spG K 3 (PreT (d + 1)) (PostT (d + 1))) := by
  refine F.ok scTr (fun vs H Q E h => ?_) (fun cdv A outer s H vs Q E hr h => ?_)
  · obtain ⟨_, us, _, _, _, rfl, ln, _⟩ := h
    show (_ :: (us ++ [_])).length = 5
    rw [List.length_cons, List.length_append, ln]
    rfl
  obtain ⟨l, us, ts, kn, known, rfl, ln, sr, ds, nk, ld, ⟨mk, deep, lp, wi, rfl, lb, db⟩, q⟩ := h
  obtain ⟨v0, us, rfl, d0, ds⟩ := dats_cons ds
  obtain ⟨v1, us, rfl, d1, ds⟩ := dats_cons ds
  obtain ⟨v2, us, rfl, d2, ds⟩ := dats_cons ds
  cases dats_nil ds
  cases dat_int d0
  cases dat_int d1
  cases dat_bl d2
  have hr8 := hr.mono (j := 88) (by show 88 ≤ 91 + d; omega)
  have hr9 := hr.mono (j := 89) (by show 89 ≤ 91 + d; omega)
  have hr0 := hr.mono (j := 90) (by show 90 ≤ 91 + d; omega)
  have hr2 := hr.mono (j := 91 + d) (by show 91 + d ≤ 91 + d; omega)
  refine ⟨_, (pss_cons (ps_set (i := 5) scTr.nd rfl (.inl rfl) (pe_r (pr_take (l := l) GT hr8 rfl (pv 0) pr_int))) (pss_cons (ps_if (PW.pt (pw_or (pt_cmpR op_le (pv 1) pe_int rfl) (pw_or1 (pt_cmpR op_eq (pv 5) pe_int rfl)))) (pss_one (ps_ret (pe_r (pr_small (l := l) GS hr0 rfl (pv 0) (pr_var 2 (pv 2)) (pr_var 3 (pv 3)) (prl_var 4 (pv 4)))))) pss_nil) (pss_cons (ps_if (pt_cmpR op_lt (pv 5) pe_int rfl) (pss_cons (ps_setLc (i := 6) (te := tOneF K l kn known d lp wi) (own := [("_law_k", 13)]) (g := gName 13) (tt := tYes) rfl scTr.nd rfl rfl (sw_true rfl rfl rfl (by decide +kernel)) (pi_range1 rfl mr (pa_cons (pe_r (pr_bin (l := l) op_add pr_int (pr_take GT hr8 rfl (pv 0) pr_int))) pa_nil)) (blkOk_by (N := NTr) (sc := defScope sTree) (by decide +kernel)) (fun _ _ _ _ _ => pg_name (i := 13) scTr.nd rfl (.inl rfl)) (fun _ _ _ _ _ => pts_nil)
        (fun _ _ _ _ _ => pe_imp (pe_r (pr_tree (l := l) GR hr2 rfl (pv 0) (pr_binD op_sub (pr_var 1 (pv 1)) pr_int) (pr_var 2 (pv 2)) (pr_var 3 (pv 3)) (prl_var 4 (pv 4)))) ?te)) (pss_one (ps_ret (pe_r (pr_tup (l := l) (prs_cons pr_str (prs_cons (pr_tuple mt rfl (prl_var 6 (pv 6))) prs_nil))))))) pss_nil) (pss_cons (ps_if (pt_cmpR op_lt (pv 5) pe_int rfl) (pss_cons (ps_set (i := 7) scTr.nd rfl (.inl rfl) (pe_r (pr_tree (l := l) GR hr2 rfl (pv 0) (pr_binD op_sub (pr_var 1 (pv 1)) pr_int) (pr_var 2 (pv 2)) (pr_var 3 (pv 3)) (prl_var 4 (pv 4))))) (pss_cons (ps_set (i := 8) scTr.nd rfl (.inl rfl) (pe_r (pr_tree (l := l) GR hr2 rfl (pv 0) (pr_binD op_sub (pr_var 1 (pv 1)) pr_int) (pr_var 2 (pv 2)) (pr_var 3 (pv 3)) (prl_var 4 (pv 4))))) (pss_cons (ps_set (i := 9) scTr.nd rfl (.inl rfl) (pe_ifExp (PW.pt (pw_and (pt_cmpR op_eq (pv 5) pe_int rfl) (pw_and1 (pt_cmpR op_eq (pe_r (pr_take (l := l) GT hr8 rfl (pv 0) pr_int)) pe_int rfl)))) (pe_r (pr_tree (l := l) GR hr2 rfl (pv 0) (pr_binD op_sub (pr_var 1 (pv 1)) pr_int) (pr_var 2 (pv 2)) (pr_var 3 (pv 3)) (prl_var 4 (pv 4)))) pe_non)) (pss_one (ps_ret (pe_r (pr_atL (l := l) (prl_disp (prs_cons (pr_tup (prs_cons pr_str (prs_cons (pr_var 7 (pv 7)) (prs_cons (pr_var 8 (pv 8)) prs_nil)))) (prs_cons (pr_tup (prs_cons pr_str (prs_cons (pr_var 7 (pv 7)) (prs_cons (pr_var 8 (pv 8)) prs_nil)))) (prs_cons (pr_tup (prs_cons pr_str (prs_cons (pr_var 7 (pv 7)) (prs_cons (pr_var 8 (pv 8)) (prs_cons (pr_var 9 (pv 9)) prs_nil))))) (prs_cons (pr_tup (prs_cons pr_str (prs_cons (pr_var 7 (pv 7)) prs_nil))) prs_nil))))) (pr_binD op_sub (pr_var 5 (pv 5)) pr_int) fun _ _ => rfl))))))) pss_nil) (pss_cons (ps_if (pt_cmpR op_lt (pv 5) pe_int rfl) (pss_cons (ps_set (i := 10) scTr.nd rfl (.inl rfl) (pe_r (pr_tree (l := l) GR hr2 rfl (pv 0) (pr_binD op_sub (pr_var 1 (pv 1)) pr_int) (pr_binD op_add (pr_var 2 (pv 2)) pr_int) (pr_var 3 (pv 3)) (prl_var 4 (pv 4))))) (pss_cons (ps_if (pt_cmpR op_gt (pe_r (pr_take (l := l) GT hr8 rfl (pv 0) pr_int)) pe_int rfl) (pss_one (ps_set (i := 10) scTr.nd rfl (.inl rfl) (pe_r (pr_tup (l := l) (prs_cons pr_str (prs_cons (pr_tup (prs_cons (pr_var 10 (pv 10)) (prs_cons (pr_tup (prs_cons pr_str (prs_cons (pr_pick GP hr9 rfl (pv 0) (prl_disp (prs_cons pr_str (prs_cons pr_str prs_nil)))) prs_nil))) prs_nil))) prs_nil)))))) pss_nil) (pss_cons (ps_set (i := 11) scTr.nd rfl (.inl rfl) (pe_r (pr_tree (l := l) GR hr2 rfl (pv 0) (pr_binD op_sub (pr_var 1 (pv 1)) pr_int) (pr_binD op_add (pr_var 2 (pv 2)) pr_int) (pr_var 3 (pv 3)) (prl_var 4 (pv 4))))) (pss_one (ps_ret (pe_r (pr_tup (l := l) (prs_cons (pr_pick GP hr9 rfl (pv 0) (prl_disp (prs_cons pr_str (prs_cons pr_str prs_nil)))) (prs_cons (pr_var 10 (pv 10)) (prs_cons (pr_var 11 (pv 11)) prs_nil)))))))))) pss_nil) (pss_cons (ps_if (pt_cmpR op_eq (pv 5) pe_int rfl) (pss_one (ps_ret (pe_r (pr_tup (l := l) (prs_cons pr_str (prs_cons (pr_take GT hr8 rfl (pv 0) pr_int) (prs_cons (pr_tree (l := l) GR hr2 rfl (pv 0) (pr_binD op_sub (pr_var 1 (pv 1)) pr_int) (pr_binD op_add (pr_var 2 (pv 2)) pr_int) (pr_var 3 (pv 3)) (prl_var 4 (pv 4))) prs_nil))))))) pss_nil) (pss_cons (ps_set (i := 12) scTr.nd rfl (.inl rfl) (pe_r (pr_tree (l := l) GR hr2 rfl (pv 0) (pr_binD op_sub (pr_var 1 (pv 1)) pr_int) pr_int pr_bool (prl_var 4 (pv 4))))) (pss_cons (ps_if (pt_cmpR op_eq (pv 5) pe_int rfl) (pss_cons (ps_set (i := 6) scTr.nd rfl (.inl rfl) (pe_rl (prl_disp (l := l) (prs_cons (pr_var 12 (pv 12)) (prs_cons (pr_pick GP hr9 rfl (pv 0) (prl_disp (prs_cons (pr_tup (prs_cons pr_str (prs_cons pr_str prs_nil))) (prs_cons (pr_tree GR hr2 rfl (pv 0) (pr_binD op_sub (pr_var 1 (pv 1)) pr_int) pr_int pr_bool (prl_var 4 (pv 4))) prs_nil)))) prs_nil))))) (pss_cons (ps_set (i := 6) scTr.nd rfl (.inl rfl) (pe_go (E := fun _ _ _ => False) GV hr9 pass0 rfl (pa_cons (pv 0) (pa_cons (pe_lst (pa_cons (pv 6) (pa_cons (pe_revL (pv 6)) (pa_cons (pe_op op_catL (pe_lst (pa_cons (pe_tup (pa_cons pe_str (pa_cons pe_str pa_nil))) pa_nil)) (pv 6)) pa_nil)))) pa_nil)))) (pss_one (ps_ret (pe_r (pr_pick (l := l) GP hr9 rfl (pv 0) (prl_disp (prs_cons (pr_tup (prs_cons pr_str (prs_cons (pr_var 12 (pv 12)) prs_nil))) (prs_cons (pr_tup (prs_cons pr_str (prs_cons (pr_tuple mt rfl (prl_var 6 (pv 6))) prs_nil))) prs_nil))))))))) pss_nil) (pss_one (ps_ret (pe_r (pr_tup (l := l) (prs_cons pr_str (prs_cons (pr_pick GP hr9 rfl (pv 0) (prl_disp (prs_cons pr_str (prs_cons pr_str prs_nil)))) (prs_cons (pr_pick GP hr9 rfl (pv 0) (prl_disp (prs_cons (pr_var 12 (pv 12)) (prs_cons (pr_tup (prs_cons pr_str (prs_cons pr_str prs_nil))) (prs_cons pr_non prs_nil))))) prs_nil))))))))))))))), ?_⟩
  case te =>
    rintro σ H Q ⟨deep, s0, s2, s3, s4, s5, sr, mk, nk, ld, db, lb, q⟩
    exact ⟨_, ⟨s0, deep - 1, lp, wi, known, ⟨_, _, ⟨_, _, s2, Dat.int _, rfl⟩, rfl, rfl⟩, ⟨_, _, s3, Dat.int _, rfl⟩, ⟨_, _, s4, Dat.bl _, rfl⟩, ⟨_, _, s5, nk, ld, rfl⟩, mk, lb, db, rfl⟩, sr, fun t v H' ⟨tr, e, g⟩ dr dv => by subst e; exact q tr v H' g dr dv⟩
  bv_omega
  refine' Exists.intro _ ⟨?_, by assumption, ?_⟩
  rotate_left 1
  · (repeat' (first | rfl | exact Dat.int _ | exact Dat.bl _ | (refine (?_ : Dat _ _ _ _); assumption) | (refine (?_ : LD _ _ _ _); assumption) | (refine (?_ : _ ≠ _); assumption) | refine' Exists.intro _ ?_ | refine And.intro ?_ ?_))
    all_goals (first | (first | (rintro _ rfl; exact ⟨_, rfl, by decide, by decide⟩) | (intro ts h; (repeat (obtain ⟨_, _, rfl, _, h⟩ := h)); (try cases h); exact Nat.le_of_ble_eq_true rfl) | (intro ts h; (repeat (obtain ⟨_, _, rfl, _, h⟩ := h)); (try cases h); exact ⟨List.cons_ne_nil _ _, Nat.le_of_ble_eq_true rfl⟩) | (rintro _ _ rfl rfl; exact ⟨_, _, rfl, rfl⟩)))
  rintro _ v5 H2 ⟨_, r, ⟨⟩, r0, rb, rfl⟩ r2 dv
  cases dat_int dv
  obtain ⟨k, rfl⟩ := Int.eq_ofNat_of_zero_le r0
  have sr2 := r2.sr
  have ld2 := ld.dr r2 nk
  bv_omega
  refine ⟨_, rfl, _, _, rfl, rfl, _, rfl, ?_⟩
  by_cases cd : deep ≤ 0
  · refine if_yes (decide_eq_true cd) ?_
    bv_omega
    refine' Exists.intro _ ⟨?_, by assumption, ?_⟩
    rotate_left 1
    · (repeat' (first | rfl | exact Dat.int _ | exact Dat.bl _ | (refine (?_ : Dat _ _ _ _); assumption) | (refine (?_ : LD _ _ _ _); assumption) | (refine (?_ : _ ≠ _); assumption) | refine' Exists.intro _ ?_ | refine And.intro ?_ ?_))
      all_goals (first | (first | (rintro _ rfl; exact ⟨_, rfl, by decide, by decide⟩) | (intro ts h; (repeat (obtain ⟨_, _, rfl, _, h⟩ := h)); (try cases h); exact Nat.le_of_ble_eq_true rfl) | (intro ts h; (repeat (obtain ⟨_, _, rfl, _, h⟩ := h)); (try cases h); exact ⟨List.cons_ne_nil _ _, Nat.le_of_ble_eq_true rfl⟩) | (rintro _ _ rfl rfl; exact ⟨_, _, rfl, rfl⟩)) | (exact mk) | (omega))
    rintro _ v H3 ⟨tr, rfl, o, h1⟩ r3 dv
    exact out_t q tr o (by omega) (r2.trans r3) dv
  refine if_no (decide_eq_false cd) ?_
  bv_omega
  refine ⟨_, rfl, rfl, _, rfl, ?_⟩
  by_cases c0 : k = 0
  · subst c0
    refine if_yes (decide_eq_true rfl) ?_
    bv_omega
    refine' Exists.intro _ ⟨?_, by assumption, ?_⟩
    rotate_left 1
    · (repeat' (first | rfl | exact Dat.int _ | exact Dat.bl _ | (refine (?_ : Dat _ _ _ _); assumption) | (refine (?_ : LD _ _ _ _); assumption) | (refine (?_ : _ ≠ _); assumption) | refine' Exists.intro _ ?_ | refine And.intro ?_ ?_))
      all_goals (first | (first | (rintro _ rfl; exact ⟨_, rfl, by decide, by decide⟩) | (intro ts h; (repeat (obtain ⟨_, _, rfl, _, h⟩ := h)); (try cases h); exact Nat.le_of_ble_eq_true rfl) | (intro ts h; (repeat (obtain ⟨_, _, rfl, _, h⟩ := h)); (try cases h); exact ⟨List.cons_ne_nil _ _, Nat.le_of_ble_eq_true rfl⟩) | (rintro _ _ rfl rfl; exact ⟨_, _, rfl, rfl⟩)) | (exact mk) | (omega))
    rintro _ v H3 ⟨tr, rfl, o, h1⟩ r3 dv
    exact out_t q tr o (by omega) (r2.trans r3) dv
  refine if_no (dn (by omega)) ?_
  bv_omega
  refine ⟨_, rfl, _, _, rfl, rfl, _, rfl, ?_⟩
  have lb2 : lp + d ≤ 100 := by omega
  have lb3 : lp + 1 + d ≤ 100 := by omega
  have db2 : deep - 1 ≤ d := by omega
  by_cases c4 : (k : Int) < 4
  · refine if_yes (decide_eq_true c4) ?_
    bv_omega
    refine lc_in ?_
    bv_omega
    refine' Exists.intro _ ⟨?_, by assumption, ?_⟩
    rotate_left 1
    · (repeat' (first | rfl | exact Dat.int _ | exact Dat.bl _ | (refine (?_ : Dat _ _ _ _); assumption) | (refine (?_ : LD _ _ _ _); assumption) | (refine (?_ : _ ≠ _); assumption) | refine' Exists.intro _ ?_ | refine And.intro ?_ ?_))
      all_goals (first | (first | (rintro _ rfl; exact ⟨_, rfl, by decide, by decide⟩) | (intro ts h; (repeat (obtain ⟨_, _, rfl, _, h⟩ := h)); (try cases h); exact Nat.le_of_ble_eq_true rfl) | (intro ts h; (repeat (obtain ⟨_, _, rfl, _, h⟩ := h)); (try cases h); exact ⟨List.cons_ne_nil _ _, Nat.le_of_ble_eq_true rfl⟩) | (rintro _ _ rfl rfl; exact ⟨_, _, rfl, rfl⟩)) | (exact mk) | (exact lb2) | (exact lb3) | (exact lb) | (exact db2) | omega | (show (0 : Nat) + d ≤ 100; omega) | (rintro _ _ rfl ⟨_, _, ⟨⟩, _, _, rfl⟩; exact ⟨_, _, rfl, rfl⟩) | (rintro _ _ rfl ⟨_, _, ⟨⟩, _, _, rfl⟩; exact ⟨_, _, rfl, rfl⟩))
    rintro _ vm H3 ⟨_, j, ⟨⟩, ⟨_, _, ⟨⟩, q0, q1, ⟨⟩⟩, rfl⟩ r3 dv
    cases dat_int dv
    obtain ⟨m, em⟩ := Int.eq_ofNat_of_zero_le (show 0 ≤ 2 + j by omega)
    rw [em]
    refine ⟨_, rfl, by omega, by omega, lcl_range (lo := 0) (n := m) (fun D i H' => ∃ ks, LD K H' D (encs ks) ∧ ks.length = i ∧ (∀ k ∈ ks, GoodW known wi lp d k) ∧ Dr l H H' ∧ D ≠ l) (fun D nD => ⟨[], ⟨[], upd_same, .nil⟩, rfl, (fun k h => by cases h), (r2.trans r3).new nD, r3.sr.ne nD⟩) ?hs ?hd⟩
    case hs =>
      rintro D nD i H4 li ⟨ks, ld4, ln2, gs, dr, ne⟩
      bv_omega
      refine ⟨rfl, ?_⟩
      dsimp only [tYes]
      refine if_yes rfl ?_
      refine ⟨deep, rfl, rfl, rfl, rfl, rfl, dr.sr, mk, nk, ld.dr dr nk, db2, lb2, fun tr v H5 g dr3 dv => ?_⟩
      obtain ⟨acc, ha, ds2⟩ := ld4.dr dr3 ne
      have len : acc.length = i := by rw [ds2.len, encs_len, ln2]
      refine ⟨acc, ha, Nat.lt_of_lt_of_le (show acc.length < 1000 by omega) (sl (by decide)), ks ++ [tr], ⟨_, upd_same, ?_⟩, by rw [List.length_append, ln2]; rfl, fun k h => ?_, (dr.trans dr3).put (Dr.none_of (r2.trans r3) (r3.sr.ne nD) nD) ne (fun xs z => by rw [ha] at z; cases z), ne⟩
      · rw [encs_app]
        exact (ds2.app (.cons dv .nil)).up (stay_lst ha)
      · rcases List.mem_append.mp h with h | h
        · exact gs k h
        · rw [List.mem_singleton] at h
          exact h ▸ g
    case hd =>
      rintro D nD H4 ⟨ks, ldD, ln2, gs, dr, ne⟩
      have sr4 := dr.sr
      bv_omega
      refine' Exists.intro _ ⟨?_, by assumption, ?_⟩
      rotate_left 1
      · (repeat' (first | rfl | exact Dat.int _ | exact Dat.bl _ | (refine (?_ : Dat _ _ _ _); assumption) | (refine (?_ : LD _ _ _ _); assumption) | (refine (?_ : _ ≠ _); assumption) | refine' Exists.intro _ ?_ | refine And.intro ?_ ?_))
        all_goals (first | (first | (rintro _ rfl; exact ⟨_, rfl, by decide, by decide⟩) | (intro ts h; (repeat (obtain ⟨_, _, rfl, _, h⟩ := h)); (try cases h); exact Nat.le_of_ble_eq_true rfl) | (intro ts h; (repeat (obtain ⟨_, _, rfl, _, h⟩ := h)); (try cases h); exact ⟨List.cons_ne_nil _ _, Nat.le_of_ble_eq_true rfl⟩) | (rintro _ _ rfl rfl; exact ⟨_, _, rfl, rfl⟩)) | (exact mk) | (exact lb2) | (exact lb3) | (exact lb) | (exact db2) | omega | (show (0 : Nat) + d ≤ 100; omega) | (rintro _ _ rfl ⟨_, _, ⟨⟩, _, _, rfl⟩; exact ⟨_, _, rfl, rfl⟩))
      rintro _ v H5 ⟨_, rfl, _, _, rfl, rfl, _, _, rfl, ⟨_, rfl, rfl⟩, rfl⟩ r5 dv
      exact out_t q (.mk true "seq" [] ks []) (.seq ⟨by omega, by omega⟩ fun k h => (gs k h).1) (by show 1 + hts ks ≤ _; have := hts_le fun k h => (gs k h).2; omega) (dr.trans r5) dv
  refine if_no (decide_eq_false c4) ?_
  bv_omega
  refine ⟨_, rfl, _, _, rfl, rfl, _, rfl, ?_⟩
  by_cases c8 : (k : Int) < 8
  · refine if_yes (decide_eq_true c8) ?_
    bv_omega
    refine' Exists.intro _ ⟨?_, by assumption, ?_⟩
    rotate_left 1
    · (repeat' (first | rfl | exact Dat.int _ | exact Dat.bl _ | (refine (?_ : Dat _ _ _ _); assumption) | (refine (?_ : LD _ _ _ _); assumption) | (refine (?_ : _ ≠ _); assumption) | refine' Exists.intro _ ?_ | refine And.intro ?_ ?_))
      all_goals (first | (first | (rintro _ rfl; exact ⟨_, rfl, by decide, by decide⟩) | (intro ts h; (repeat (obtain ⟨_, _, rfl, _, h⟩ := h)); (try cases h); exact Nat.le_of_ble_eq_true rfl) | (intro ts h; (repeat (obtain ⟨_, _, rfl, _, h⟩ := h)); (try cases h); exact ⟨List.cons_ne_nil _ _, Nat.le_of_ble_eq_true rfl⟩) | (rintro _ _ rfl rfl; exact ⟨_, _, rfl, rfl⟩)) | (exact mk) | (exact lb2) | (exact lb3) | (exact lb) | (exact db2) | omega | (show (0 : Nat) + d ≤ 100; omega) | (rintro _ _ rfl ⟨_, _, ⟨⟩, _, _, rfl⟩; exact ⟨_, _, rfl, rfl⟩))
    rintro _ v7 H3 ⟨tr1, rfl, g1⟩ r3 d7
    have sr3 := r3.sr
    have ld3 := ld2.dr r3 nk
    bv_omega
    refine' Exists.intro _ ⟨?_, by assumption, ?_⟩
    rotate_left 1
    · (repeat' (first | rfl | exact Dat.int _ | exact Dat.bl _ | (refine (?_ : Dat _ _ _ _); assumption) | (refine (?_ : LD _ _ _ _); assumption) | (refine (?_ : _ ≠ _); assumption) | refine' Exists.intro _ ?_ | refine And.intro ?_ ?_))
      all_goals (first | (first | (rintro _ rfl; exact ⟨_, rfl, by decide, by decide⟩) | (intro ts h; (repeat (obtain ⟨_, _, rfl, _, h⟩ := h)); (try cases h); exact Nat.le_of_ble_eq_true rfl) | (intro ts h; (repeat (obtain ⟨_, _, rfl, _, h⟩ := h)); (try cases h); exact ⟨List.cons_ne_nil _ _, Nat.le_of_ble_eq_true rfl⟩) | (rintro _ _ rfl rfl; exact ⟨_, _, rfl, rfl⟩)) | (exact mk) | (exact lb2) | (exact lb3) | (exact lb) | (exact db2) | omega | (show (0 : Nat) + d ≤ 100; omega) | (rintro _ _ rfl ⟨_, _, ⟨⟩, _, _, rfl⟩; exact ⟨_, _, rfl, rfl⟩))
    rintro _ v8 H4 ⟨tr2, rfl, g2⟩ r4 d8
    have sr4 := r4.sr
    have ld4 := ld3.dr r4 nk
    replace d7 := d7.up r4.st
    have r24 := (r2.trans r3).trans r4
    refine ⟨_, rfl, rfl, _, rfl, ?_⟩
    have d9 : Dat K H4 .non .non := Dat.non
    by_cases k6 : k = 6
    · subst k6
      refine if_yes (decide_eq_true rfl) ?_
      bv_omega
      refine' Exists.intro _ ⟨?_, by assumption, ?_⟩
      rotate_left 1
      · (repeat' (first | rfl | exact Dat.int _ | exact Dat.bl _ | (refine (?_ : Dat _ _ _ _); assumption) | (refine (?_ : LD _ _ _ _); assumption) | (refine (?_ : _ ≠ _); assumption) | refine' Exists.intro _ ?_ | refine And.intro ?_ ?_))
        all_goals (first | (first | (rintro _ rfl; exact ⟨_, rfl, by decide, by decide⟩) | (intro ts h; (repeat (obtain ⟨_, _, rfl, _, h⟩ := h)); (try cases h); exact Nat.le_of_ble_eq_true rfl) | (intro ts h; (repeat (obtain ⟨_, _, rfl, _, h⟩ := h)); (try cases h); exact ⟨List.cons_ne_nil _ _, Nat.le_of_ble_eq_true rfl⟩) | (rintro _ _ rfl rfl; exact ⟨_, _, rfl, rfl⟩)) | (exact mk) | (exact lb2) | (exact lb3) | (exact lb) | (exact db2) | omega | (show (0 : Nat) + d ≤ 100; omega) | (rintro _ _ rfl ⟨_, _, ⟨⟩, _, _, rfl⟩; exact ⟨_, _, rfl, rfl⟩))
      rintro _ vt H5 ⟨_, r, ⟨⟩, q0, q1, rfl⟩ r5 dt
      cases dat_int dt
      have sr5 := r5.sr
      have ld5 := ld4.dr r5 nk
      replace d7 := d7.up r5.st
      replace d8 := d8.up r5.st
      refine ⟨rfl, _, rfl, ?_⟩
      by_cases cr : r = 0
      · refine if_yes (decide_eq_true (by rw [cr])) ?_
        bv_omega
        refine' Exists.intro _ ⟨?_, by assumption, ?_⟩
        rotate_left 1
        · (repeat' (first | rfl | exact Dat.int _ | exact Dat.bl _ | (refine (?_ : Dat _ _ _ _); assumption) | (refine (?_ : LD _ _ _ _); assumption) | (refine (?_ : _ ≠ _); assumption) | refine' Exists.intro _ ?_ | refine And.intro ?_ ?_))
          all_goals (first | (first | (rintro _ rfl; exact ⟨_, rfl, by decide, by decide⟩) | (intro ts h; (repeat (obtain ⟨_, _, rfl, _, h⟩ := h)); (try cases h); exact Nat.le_of_ble_eq_true rfl) | (intro ts h; (repeat (obtain ⟨_, _, rfl, _, h⟩ := h)); (try cases h); exact ⟨List.cons_ne_nil _ _, Nat.le_of_ble_eq_true rfl⟩) | (rintro _ _ rfl rfl; exact ⟨_, _, rfl, rfl⟩)) | (exact mk) | (exact lb2) | (exact lb3) | (exact lb) | (exact db2) | omega | (show (0 : Nat) + d ≤ 100; omega) | (rintro _ _ rfl ⟨_, _, ⟨⟩, _, _, rfl⟩; exact ⟨_, _, rfl, rfl⟩))
        rintro _ v9 H6 ⟨tr3, rfl, g3⟩ r6 d9
        have sr6 := r6.sr
        replace d7 := d7.up r6.st
        replace d8 := d8.up r6.st
        bv_omega
        refine' Exists.intro _ ⟨?_, by assumption, ?_⟩
        rotate_left 1
        · (repeat' (first | rfl | exact Dat.int _ | exact Dat.bl _ | (refine (?_ : Dat _ _ _ _); assumption) | (refine (?_ : LD _ _ _ _); assumption) | (refine (?_ : _ ≠ _); assumption) | refine' Exists.intro _ ?_ | refine And.intro ?_ ?_))
          all_goals (first | (first | (rintro _ rfl; exact ⟨_, rfl, by decide, by decide⟩) | (intro ts h; (repeat (obtain ⟨_, _, rfl, _, h⟩ := h)); (try cases h); exact Nat.le_of_ble_eq_true rfl) | (intro ts h; (repeat (obtain ⟨_, _, rfl, _, h⟩ := h)); (try cases h); exact ⟨List.cons_ne_nil _ _, Nat.le_of_ble_eq_true rfl⟩) | (rintro _ _ rfl rfl; exact ⟨_, _, rfl, rfl⟩)) | (exact mk) | (exact lb2) | (exact lb3) | (exact lb) | (exact db2) | omega | (show (0 : Nat) + d ≤ 100; omega) | (rintro _ _ rfl ⟨_, _, ⟨⟩, _, _, rfl⟩; exact ⟨_, _, rfl, rfl⟩) | (rintro _ _ ⟨_, _, rfl, _, _, _, rfl, _, _, _, rfl, _, _, _, rfl, _, rfl⟩ rfl; exact ⟨2, _, rfl, rfl⟩))
        rintro _ v H9 ⟨_, k2, ⟨_, _, rfl, h0, _, _, rfl, h1, _, _, rfl, h2, _, _, rfl, h3, rfl⟩, ek, eu⟩ r9 dv
        have ek2 : k2 = 2 := by
          have := T.int.inj ek
          omega
        subst ek2
        cases eu
        obtain ⟨_, rfl, _, _, rfl, rfl, _, _, rfl, rfl, _, _, rfl, rfl, _, _, rfl, rfl, rfl⟩ := h2
        exact out_t q (.mk false "if" [] [tr1, tr2, tr3] []) (.ife g1.1 g2.1 g3.1) (by show 1 + max (ht tr1) (max (ht tr2) (max (ht tr3) 0)) ≤ _; have := g1.2; have := g2.2; have := g3.2; omega) (((r24.trans r5).trans r6).trans r9) dv
      · refine if_no (dn cr) ?_
        have d9 : Dat K H5 .non .non := Dat.non
        bv_omega
        refine' Exists.intro _ ⟨?_, by assumption, ?_⟩
        rotate_left 1
        · (repeat' (first | rfl | exact Dat.int _ | exact Dat.bl _ | (refine (?_ : Dat _ _ _ _); assumption) | (refine (?_ : LD _ _ _ _); assumption) | (refine (?_ : _ ≠ _); assumption) | refine' Exists.intro _ ?_ | refine And.intro ?_ ?_))
          all_goals (first | (first | (rintro _ rfl; exact ⟨_, rfl, by decide, by decide⟩) | (intro ts h; (repeat (obtain ⟨_, _, rfl, _, h⟩ := h)); (try cases h); exact Nat.le_of_ble_eq_true rfl) | (intro ts h; (repeat (obtain ⟨_, _, rfl, _, h⟩ := h)); (try cases h); exact ⟨List.cons_ne_nil _ _, Nat.le_of_ble_eq_true rfl⟩) | (rintro _ _ rfl rfl; exact ⟨_, _, rfl, rfl⟩)) | (exact mk) | (exact lb2) | (exact lb3) | (exact lb) | (exact db2) | omega | (show (0 : Nat) + d ≤ 100; omega) | (rintro _ _ rfl ⟨_, _, ⟨⟩, _, _, rfl⟩; exact ⟨_, _, rfl, rfl⟩) | (rintro _ _ ⟨_, _, rfl, _, _, _, rfl, _, _, _, rfl, _, _, _, rfl, _, rfl⟩ rfl; exact ⟨2, _, rfl, rfl⟩))
        rintro _ v H9 ⟨_, k2, ⟨_, _, rfl, h0, _, _, rfl, h1, _, _, rfl, h2, _, _, rfl, h3, rfl⟩, ek, eu⟩ r9 dv
        have ek2 : k2 = 2 := by
          have := T.int.inj ek
          omega
        subst ek2
        cases eu
        obtain ⟨_, rfl, _, _, rfl, rfl, _, _, rfl, rfl, _, _, rfl, rfl, _, _, rfl, rfl, rfl⟩ := h2
        exact out_t q (.mk false "if" [] [tr1, tr2] [.non]) (.if1 g1.1 g2.1) (by show 1 + max (ht tr1) (max (ht tr2) 0) ≤ _; have := g1.2; have := g2.2; omega) ((r24.trans r5).trans r9) dv
    refine if_no (dn (by omega)) ?_
    refine if_no rfl ?_
    obtain rfl | rfl | rfl : k = 4 ∨ k = 5 ∨ k = 7 := by omega
    · skip
      bv_omega
      refine' Exists.intro _ ⟨?_, by assumption, ?_⟩
      rotate_left 1
      · (repeat' (first | rfl | exact Dat.int _ | exact Dat.bl _ | (refine (?_ : Dat _ _ _ _); assumption) | (refine (?_ : LD _ _ _ _); assumption) | (refine (?_ : _ ≠ _); assumption) | refine' Exists.intro _ ?_ | refine And.intro ?_ ?_))
        all_goals (first | (first | (rintro _ rfl; exact ⟨_, rfl, by decide, by decide⟩) | (intro ts h; (repeat (obtain ⟨_, _, rfl, _, h⟩ := h)); (try cases h); exact Nat.le_of_ble_eq_true rfl) | (intro ts h; (repeat (obtain ⟨_, _, rfl, _, h⟩ := h)); (try cases h); exact ⟨List.cons_ne_nil _ _, Nat.le_of_ble_eq_true rfl⟩) | (rintro _ _ rfl rfl; exact ⟨_, _, rfl, rfl⟩)) | (exact mk) | (exact lb2) | (exact lb3) | (exact lb) | (exact db2) | omega | (show (0 : Nat) + d ≤ 100; omega) | (rintro _ _ rfl ⟨_, _, ⟨⟩, _, _, rfl⟩; exact ⟨_, _, rfl, rfl⟩) | (rintro _ _ ⟨_, _, rfl, _, _, _, rfl, _, _, _, rfl, _, _, _, rfl, _, rfl⟩ rfl; exact ⟨0, _, rfl, rfl⟩))
      rintro _ v H9 ⟨_, k2, ⟨_, _, rfl, h0, _, _, rfl, h1, _, _, rfl, h2, _, _, rfl, h3, rfl⟩, ek, eu⟩ r9 dv
      have ek2 : k2 = 0 := by
        have := T.int.inj ek
        omega
      subst ek2
      cases eu
      obtain ⟨_, rfl, _, _, rfl, rfl, _, _, rfl, rfl, _, _, rfl, rfl, rfl⟩ := h0
      exact out_t q (.mk false "and" [] [tr1, tr2] []) (.andor (by decide) g1.1 g2.1) (by show 1 + max (ht tr1) (max (ht tr2) 0) ≤ _; have := g1.2; have := g2.2; omega) (r24.trans r9) dv
    · skip
      bv_omega
      refine' Exists.intro _ ⟨?_, by assumption, ?_⟩
      rotate_left 1
      · (repeat' (first | rfl | exact Dat.int _ | exact Dat.bl _ | (refine (?_ : Dat _ _ _ _); assumption) | (refine (?_ : LD _ _ _ _); assumption) | (refine (?_ : _ ≠ _); assumption) | refine' Exists.intro _ ?_ | refine And.intro ?_ ?_))
        all_goals (first | (first | (rintro _ rfl; exact ⟨_, rfl, by decide, by decide⟩) | (intro ts h; (repeat (obtain ⟨_, _, rfl, _, h⟩ := h)); (try cases h); exact Nat.le_of_ble_eq_true rfl) | (intro ts h; (repeat (obtain ⟨_, _, rfl, _, h⟩ := h)); (try cases h); exact ⟨List.cons_ne_nil _ _, Nat.le_of_ble_eq_true rfl⟩) | (rintro _ _ rfl rfl; exact ⟨_, _, rfl, rfl⟩)) | (exact mk) | (exact lb2) | (exact lb3) | (exact lb) | (exact db2) | omega | (show (0 : Nat) + d ≤ 100; omega) | (rintro _ _ rfl ⟨_, _, ⟨⟩, _, _, rfl⟩; exact ⟨_, _, rfl, rfl⟩) | (rintro _ _ ⟨_, _, rfl, _, _, _, rfl, _, _, _, rfl, _, _, _, rfl, _, rfl⟩ rfl; exact ⟨1, _, rfl, rfl⟩))
      rintro _ v H9 ⟨_, k2, ⟨_, _, rfl, h0, _, _, rfl, h1, _, _, rfl, h2, _, _, rfl, h3, rfl⟩, ek, eu⟩ r9 dv
      have ek2 : k2 = 1 := by
        have := T.int.inj ek
        omega
      subst ek2
      cases eu
      obtain ⟨_, rfl, _, _, rfl, rfl, _, _, rfl, rfl, _, _, rfl, rfl, rfl⟩ := h1
      exact out_t q (.mk false "or" [] [tr1, tr2] []) (.andor (by decide) g1.1 g2.1) (by show 1 + max (ht tr1) (max (ht tr2) 0) ≤ _; have := g1.2; have := g2.2; omega) (r24.trans r9) dv
    · skip
      bv_omega
      refine' Exists.intro _ ⟨?_, by assumption, ?_⟩
      rotate_left 1
      · (repeat' (first | rfl | exact Dat.int _ | exact Dat.bl _ | (refine (?_ : Dat _ _ _ _); assumption) | (refine (?_ : LD _ _ _ _); assumption) | (refine (?_ : _ ≠ _); assumption) | refine' Exists.intro _ ?_ | refine And.intro ?_ ?_))
        all_goals (first | (first | (rintro _ rfl; exact ⟨_, rfl, by decide, by decide⟩) | (intro ts h; (repeat (obtain ⟨_, _, rfl, _, h⟩ := h)); (try cases h); exact Nat.le_of_ble_eq_true rfl) | (intro ts h; (repeat (obtain ⟨_, _, rfl, _, h⟩ := h)); (try cases h); exact ⟨List.cons_ne_nil _ _, Nat.le_of_ble_eq_true rfl⟩) | (rintro _ _ rfl rfl; exact ⟨_, _, rfl, rfl⟩)) | (exact mk) | (exact lb2) | (exact lb3) | (exact lb) | (exact db2) | omega | (show (0 : Nat) + d ≤ 100; omega) | (rintro _ _ rfl ⟨_, _, ⟨⟩, _, _, rfl⟩; exact ⟨_, _, rfl, rfl⟩) | (rintro _ _ ⟨_, _, rfl, _, _, _, rfl, _, _, _, rfl, _, _, _, rfl, _, rfl⟩ rfl; exact ⟨3, _, rfl, rfl⟩))
      rintro _ v H9 ⟨_, k2, ⟨_, _, rfl, h0, _, _, rfl, h1, _, _, rfl, h2, _, _, rfl, h3, rfl⟩, ek, eu⟩ r9 dv
      have ek2 : k2 = 3 := by
        have := T.int.inj ek
        omega
      subst ek2
      cases eu
      obtain ⟨_, rfl, _, _, rfl, rfl, _, _, rfl, rfl, rfl⟩ := h3
      exact out_t q (.mk false "not" [] [tr1] []) (.not g1.1) (by show 1 + hts [tr1] ≤ _; have := hts_le (all_one (p := fun k => ht k ≤ 2 * d + 1) g1.2); omega) (r24.trans r9) dv
  refine if_no (decide_eq_false c8) ?_
  bv_omega
  refine ⟨_, rfl, _, _, rfl, rfl, _, rfl, ?_⟩
  by_cases c11 : (k : Int) < 11
  · refine if_yes (decide_eq_true c11) ?_
    bv_omega
    refine' Exists.intro _ ⟨?_, by assumption, ?_⟩
    rotate_left 1
    · (repeat' (first | rfl | exact Dat.int _ | exact Dat.bl _ | (refine (?_ : Dat _ _ _ _); assumption) | (refine (?_ : LD _ _ _ _); assumption) | (refine (?_ : _ ≠ _); assumption) | refine' Exists.intro _ ?_ | refine And.intro ?_ ?_))
      all_goals (first | (first | (rintro _ rfl; exact ⟨_, rfl, by decide, by decide⟩) | (intro ts h; (repeat (obtain ⟨_, _, rfl, _, h⟩ := h)); (try cases h); exact Nat.le_of_ble_eq_true rfl) | (intro ts h; (repeat (obtain ⟨_, _, rfl, _, h⟩ := h)); (try cases h); exact ⟨List.cons_ne_nil _ _, Nat.le_of_ble_eq_true rfl⟩) | (rintro _ _ rfl rfl; exact ⟨_, _, rfl, rfl⟩)) | (exact mk) | (exact lb2) | (exact lb3) | (exact lb) | (exact db2) | omega | (show (0 : Nat) + d ≤ 100; omega) | (rintro _ _ rfl ⟨_, _, ⟨⟩, _, _, rfl⟩; exact ⟨_, _, rfl, rfl⟩))
    rintro _ v7 H3 ⟨tr1, rfl, g1⟩ r3 d7
    have sr3 := r3.sr
    have ld3 := ld2.dr r3 nk
    bv_omega
    refine' Exists.intro _ ⟨?_, by assumption, ?_⟩
    rotate_left 1
    · (repeat' (first | rfl | exact Dat.int _ | exact Dat.bl _ | (refine (?_ : Dat _ _ _ _); assumption) | (refine (?_ : LD _ _ _ _); assumption) | (refine (?_ : _ ≠ _); assumption) | refine' Exists.intro _ ?_ | refine And.intro ?_ ?_))
      all_goals (first | (first | (rintro _ rfl; exact ⟨_, rfl, by decide, by decide⟩) | (intro ts h; (repeat (obtain ⟨_, _, rfl, _, h⟩ := h)); (try cases h); exact Nat.le_of_ble_eq_true rfl) | (intro ts h; (repeat (obtain ⟨_, _, rfl, _, h⟩ := h)); (try cases h); exact ⟨List.cons_ne_nil _ _, Nat.le_of_ble_eq_true rfl⟩) | (rintro _ _ rfl rfl; exact ⟨_, _, rfl, rfl⟩)))
    rintro _ vt H4 ⟨_, r, ⟨⟩, q0, q1, rfl⟩ r4 dt
    cases dat_int dt
    have sr4 := r4.sr
    have ld4 := ld3.dr r4 nk
    have d74 := d7.up r4.st
    refine ⟨_, _, rfl, rfl, _, rfl, ?_⟩
    by_cases cr : r > 0
    · refine if_yes (decide_eq_true cr) ?_
      bv_omega
      refine' Exists.intro _ ⟨?_, by assumption, ?_⟩
      rotate_left 1
      · (repeat' (first | rfl | exact Dat.int _ | exact Dat.bl _ | (refine (?_ : Dat _ _ _ _); assumption) | (refine (?_ : LD _ _ _ _); assumption) | (refine (?_ : _ ≠ _); assumption) | refine' Exists.intro _ ?_ | refine And.intro ?_ ?_))
        all_goals (first | (first | (rintro _ rfl; exact ⟨_, rfl, by decide, by decide⟩) | (intro ts h; (repeat (obtain ⟨_, _, rfl, _, h⟩ := h)); (try cases h); exact Nat.le_of_ble_eq_true rfl) | (intro ts h; (repeat (obtain ⟨_, _, rfl, _, h⟩ := h)); (try cases h); exact ⟨List.cons_ne_nil _ _, Nat.le_of_ble_eq_true rfl⟩) | (rintro _ _ rfl rfl; exact ⟨_, _, rfl, rfl⟩)) | (exact mk) | (exact lb2) | (exact lb3) | (exact lb) | (exact db2) | omega | (show (0 : Nat) + d ≤ 100; omega) | (rintro _ _ rfl ⟨_, _, ⟨⟩, _, _, rfl⟩; exact ⟨_, _, rfl, rfl⟩))
      rintro _ v7 H5 ⟨_, rfl, _, _, rfl, rfl, _, _, rfl, ⟨_, rfl, _, _, rfl, rfl, _, _, rfl, ⟨_, rfl, _, _, rfl, rfl, _, _, rfl, ⟨_, ⟨_, _, rfl, rfl, _, _, rfl, rfl, rfl⟩, mc⟩, rfl⟩, rfl⟩, rfl⟩ r5 d75
      obtain ⟨c, cm, rfl⟩ := mem_strs (zs := ["a", "e"]) mc
      have cm0 : c ∈ C0 := (by decide : ∀ c ∈ (["a", "e"] : List Str), c ∈ C0) c cm
      have sr5 := r5.sr
      have ld5 := ld4.dr r5 nk
      bv_omega
      refine' Exists.intro _ ⟨?_, by assumption, ?_⟩
      rotate_left 1
      · (repeat' (first | rfl | exact Dat.int _ | exact Dat.bl _ | (refine (?_ : Dat _ _ _ _); assumption) | (refine (?_ : LD _ _ _ _); assumption) | (refine (?_ : _ ≠ _); assumption) | refine' Exists.intro _ ?_ | refine And.intro ?_ ?_))
        all_goals (first | (first | (rintro _ rfl; exact ⟨_, rfl, by decide, by decide⟩) | (intro ts h; (repeat (obtain ⟨_, _, rfl, _, h⟩ := h)); (try cases h); exact Nat.le_of_ble_eq_true rfl) | (intro ts h; (repeat (obtain ⟨_, _, rfl, _, h⟩ := h)); (try cases h); exact ⟨List.cons_ne_nil _ _, Nat.le_of_ble_eq_true rfl⟩) | (rintro _ _ rfl rfl; exact ⟨_, _, rfl, rfl⟩)) | (exact mk) | (exact lb2) | (exact lb3) | (exact lb) | (exact db2) | omega | (show (0 : Nat) + d ≤ 100; omega) | (rintro _ _ rfl ⟨_, _, ⟨⟩, _, _, rfl⟩; exact ⟨_, _, rfl, rfl⟩))
      rintro _ v8 H6 ⟨tr2, rfl, g2⟩ r6 d8
      have sr6 := r6.sr
      have d76 := d75.up r6.st
      bv_omega
      refine' Exists.intro _ ⟨?_, by assumption, ?_⟩
      rotate_left 1
      · (repeat' (first | rfl | exact Dat.int _ | exact Dat.bl _ | (refine (?_ : Dat _ _ _ _); assumption) | (refine (?_ : LD _ _ _ _); assumption) | (refine (?_ : _ ≠ _); assumption) | refine' Exists.intro _ ?_ | refine And.intro ?_ ?_))
        all_goals (first | (first | (rintro _ rfl; exact ⟨_, rfl, by decide, by decide⟩) | (intro ts h; (repeat (obtain ⟨_, _, rfl, _, h⟩ := h)); (try cases h); exact Nat.le_of_ble_eq_true rfl) | (intro ts h; (repeat (obtain ⟨_, _, rfl, _, h⟩ := h)); (try cases h); exact ⟨List.cons_ne_nil _ _, Nat.le_of_ble_eq_true rfl⟩) | (rintro _ _ rfl rfl; exact ⟨_, _, rfl, rfl⟩)) | (exact mk) | (exact lb2) | (exact lb3) | (exact lb) | (exact db2) | omega | (show (0 : Nat) + d ≤ 100; omega) | (rintro _ _ rfl ⟨_, _, ⟨⟩, _, _, rfl⟩; exact ⟨_, _, rfl, rfl⟩))
      rintro _ v H7 ⟨_, rfl, _, _, rfl, ⟨_, ⟨_, _, rfl, rfl, _, _, rfl, rfl, rfl⟩, mw⟩, _, _, rfl, rfl, _, _, rfl, rfl, rfl⟩ r7 dv
      obtain ⟨ww, wm, rfl⟩ := mem_strs (zs := ["while", "until"]) mw
      have wo : ww = "while" ∨ ww = "until" := by
        rcases List.mem_cons.mp wm with e | e
        · exact .inl e
        · exact .inr (List.mem_singleton.mp e)
      exact out_t q (.mk false ww [] [(.mk true "seq" [] [tr1, .mk false "run" [.str c] [] []] []), tr2] []) (.whl wo (.seq ⟨by simp, by simp⟩ (all_two g1.1 (.run cm0))) g2.1) (by show 1 + max (ht ((.mk true "seq" [] [tr1, .mk false "run" [.str c] [] []] []))) (max (ht tr2) 0) ≤ _; have h1 : ht ((.mk true "seq" [] [tr1, .mk false "run" [.str c] [] []] [])) ≤ 2 * d + 2 := (by show 1 + max (ht tr1) (max 1 0) ≤ _; have := g1.2; omega); have := g2.2; omega) (((((r2.trans r3).trans r4).trans r5).trans r6).trans r7) dv
    · refine if_no (decide_eq_false cr) ?_
      bv_omega
      refine' Exists.intro _ ⟨?_, by assumption, ?_⟩
      rotate_left 1
      · (repeat' (first | rfl | exact Dat.int _ | exact Dat.bl _ | (refine (?_ : Dat _ _ _ _); assumption) | (refine (?_ : LD _ _ _ _); assumption) | (refine (?_ : _ ≠ _); assumption) | refine' Exists.intro _ ?_ | refine And.intro ?_ ?_))
        all_goals (first | (first | (rintro _ rfl; exact ⟨_, rfl, by decide, by decide⟩) | (intro ts h; (repeat (obtain ⟨_, _, rfl, _, h⟩ := h)); (try cases h); exact Nat.le_of_ble_eq_true rfl) | (intro ts h; (repeat (obtain ⟨_, _, rfl, _, h⟩ := h)); (try cases h); exact ⟨List.cons_ne_nil _ _, Nat.le_of_ble_eq_true rfl⟩) | (rintro _ _ rfl rfl; exact ⟨_, _, rfl, rfl⟩)) | (exact mk) | (exact lb2) | (exact lb3) | (exact lb) | (exact db2) | omega | (show (0 : Nat) + d ≤ 100; omega) | (rintro _ _ rfl ⟨_, _, ⟨⟩, _, _, rfl⟩; exact ⟨_, _, rfl, rfl⟩))
      rintro _ v8 H6 ⟨tr2, rfl, g2⟩ r6 d8
      have sr6 := r6.sr
      have d76 := d74.up r6.st
      bv_omega
      refine' Exists.intro _ ⟨?_, by assumption, ?_⟩
      rotate_left 1
      · (repeat' (first | rfl | exact Dat.int _ | exact Dat.bl _ | (refine (?_ : Dat _ _ _ _); assumption) | (refine (?_ : LD _ _ _ _); assumption) | (refine (?_ : _ ≠ _); assumption) | refine' Exists.intro _ ?_ | refine And.intro ?_ ?_))
        all_goals (first | (first | (rintro _ rfl; exact ⟨_, rfl, by decide, by decide⟩) | (intro ts h; (repeat (obtain ⟨_, _, rfl, _, h⟩ := h)); (try cases h); exact Nat.le_of_ble_eq_true rfl) | (intro ts h; (repeat (obtain ⟨_, _, rfl, _, h⟩ := h)); (try cases h); exact ⟨List.cons_ne_nil _ _, Nat.le_of_ble_eq_true rfl⟩) | (rintro _ _ rfl rfl; exact ⟨_, _, rfl, rfl⟩)) | (exact mk) | (exact lb2) | (exact lb3) | (exact lb) | (exact db2) | omega | (show (0 : Nat) + d ≤ 100; omega) | (rintro _ _ rfl ⟨_, _, ⟨⟩, _, _, rfl⟩; exact ⟨_, _, rfl, rfl⟩))
      rintro _ v H7 ⟨_, rfl, _, _, rfl, ⟨_, ⟨_, _, rfl, rfl, _, _, rfl, rfl, rfl⟩, mw⟩, _, _, rfl, rfl, _, _, rfl, rfl, rfl⟩ r7 dv
      obtain ⟨ww, wm, rfl⟩ := mem_strs (zs := ["while", "until"]) mw
      have wo : ww = "while" ∨ ww = "until" := by
        rcases List.mem_cons.mp wm with e | e
        · exact .inl e
        · exact .inr (List.mem_singleton.mp e)
      exact out_t q (.mk false ww [] [tr1, tr2] []) (.whl wo g1.1 g2.1) (by show 1 + max (ht (tr1)) (max (ht tr2) 0) ≤ _; have := g1.2; have := g2.2; omega) ((((r2.trans r3).trans r4).trans r6).trans r7) dv
  refine if_no (decide_eq_false c11) ?_
  bv_omega
  refine ⟨_, rfl, rfl, _, rfl, ?_⟩
  by_cases k11 : k = 11
  · subst k11
    refine if_yes (decide_eq_true rfl) ?_
    bv_omega
    refine' Exists.intro _ ⟨?_, by assumption, ?_⟩
    rotate_left 1
    · (repeat' (first | rfl | exact Dat.int _ | exact Dat.bl _ | (refine (?_ : Dat _ _ _ _); assumption) | (refine (?_ : LD _ _ _ _); assumption) | (refine (?_ : _ ≠ _); assumption) | refine' Exists.intro _ ?_ | refine And.intro ?_ ?_))
      all_goals (first | (first | (rintro _ rfl; exact ⟨_, rfl, by decide, by decide⟩) | (intro ts h; (repeat (obtain ⟨_, _, rfl, _, h⟩ := h)); (try cases h); exact Nat.le_of_ble_eq_true rfl) | (intro ts h; (repeat (obtain ⟨_, _, rfl, _, h⟩ := h)); (try cases h); exact ⟨List.cons_ne_nil _ _, Nat.le_of_ble_eq_true rfl⟩) | (rintro _ _ rfl rfl; exact ⟨_, _, rfl, rfl⟩)) | (exact mk) | (exact lb2) | (exact lb3) | (exact lb) | (exact db2) | omega | (show (0 : Nat) + d ≤ 100; omega) | (rintro _ _ rfl ⟨_, _, ⟨⟩, _, _, rfl⟩; exact ⟨_, _, rfl, rfl⟩))
    rintro _ v H3 ⟨_, rfl, _, _, rfl, rfl, _, _, rfl, ⟨_, n, ⟨⟩, n0, n1, rfl⟩, _, _, rfl, ⟨tr, rfl, g⟩, rfl⟩ r3 dv
    exact out_t q (.mk false "times" [.int n] [tr] []) (.times n0 (by omega) g.1) (by show 1 + hts [tr] ≤ _; have := hts_le (all_one (p := fun k => ht k ≤ 2 * d + 1) g.2); omega) (r2.trans r3) dv
  refine if_no (dn (by omega)) ?_
  bv_omega
  refine' Exists.intro _ ⟨?_, by assumption, ?_⟩
  rotate_left 1
  · (repeat' (first | rfl | exact Dat.int _ | exact Dat.bl _ | (refine (?_ : Dat _ _ _ _); assumption) | (refine (?_ : LD _ _ _ _); assumption) | (refine (?_ : _ ≠ _); assumption) | refine' Exists.intro _ ?_ | refine And.intro ?_ ?_))
    all_goals (first | (first | (rintro _ rfl; exact ⟨_, rfl, by decide, by decide⟩) | (intro ts h; (repeat (obtain ⟨_, _, rfl, _, h⟩ := h)); (try cases h); exact Nat.le_of_ble_eq_true rfl) | (intro ts h; (repeat (obtain ⟨_, _, rfl, _, h⟩ := h)); (try cases h); exact ⟨List.cons_ne_nil _ _, Nat.le_of_ble_eq_true rfl⟩) | (rintro _ _ rfl rfl; exact ⟨_, _, rfl, rfl⟩)) | (exact mk) | (exact lb2) | (exact lb3) | (exact lb) | (exact db2) | omega | (show (0 : Nat) + d ≤ 100; omega) | (rintro _ _ rfl ⟨_, _, ⟨⟩, _, _, rfl⟩; exact ⟨_, _, rfl, rfl⟩))
  rintro _ v12 H3 ⟨tr, rfl, g⟩ r3 d12
  have sr3 := r3.sr
  have ld3 := ld2.dr r3 nk
  have r23 := r2.trans r3
  bv_omega
  refine ⟨_, rfl, rfl, _, rfl, ?_⟩
  by_cases k12 : k = 12
  · subst k12
    refine if_yes (decide_eq_true rfl) ?_
    bv_omega
    refine' Exists.intro _ ⟨?_, by assumption, ?_⟩
    rotate_left 1
    · (repeat' (first | rfl | exact Dat.int _ | exact Dat.bl _ | (refine (?_ : Dat _ _ _ _); assumption) | (refine (?_ : LD _ _ _ _); assumption) | (refine (?_ : _ ≠ _); assumption) | refine' Exists.intro _ ?_ | refine And.intro ?_ ?_))
      all_goals (first | (first | (rintro _ rfl; exact ⟨_, rfl, by decide, by decide⟩) | (intro ts h; (repeat (obtain ⟨_, _, rfl, _, h⟩ := h)); (try cases h); exact Nat.le_of_ble_eq_true rfl) | (intro ts h; (repeat (obtain ⟨_, _, rfl, _, h⟩ := h)); (try cases h); exact ⟨List.cons_ne_nil _ _, Nat.le_of_ble_eq_true rfl⟩) | (rintro _ _ rfl rfl; exact ⟨_, _, rfl, rfl⟩)) | (exact mk) | (exact lb2) | (exact lb3) | (exact lb) | (exact db2) | omega | (show (0 : Nat) + d ≤ 100; omega) | (rintro _ _ rfl ⟨_, _, ⟨⟩, _, _, rfl⟩; exact ⟨_, _, rfl, rfl⟩))
    rintro _ a6 H4 ⟨_, _, rfl, rfl, w2, _, rfl, ⟨_, ⟨_, _, rfl, ⟨_, rfl, _, _, rfl, rfl, _, _, rfl, rfl, rfl⟩, _, _, rfl, ⟨tr2, rfl, g2⟩, rfl⟩, m2⟩, rfl⟩ r4 na6 ld6
    obtain ⟨x2, rfl, o2, h2⟩ : ∃ x2, w2 = enc x2 ∧ Okt C0 W0 255 255 known false 0 x2 ∧ ht x2 ≤ 2 * d + 1 := by
      rcases List.mem_cons.mp m2 with rfl | m2
      · exact ⟨.mk false "run" [.str "b"] [] [], rfl, .run (by decide), by show 1 ≤ _; omega⟩
      · rw [List.mem_singleton.mp m2]
        exact ⟨tr2, rfl, g2.1, g2.2⟩
    have sr4 := r4.sr
    have ld4 := ld3.dr r4 nk
    obtain ⟨xs6, e6, ds6⟩ := ld6
    obtain ⟨va, xs6, rfl, da, ds6⟩ := dats_cons ds6
    obtain ⟨vb, xs6, rfl, db, ds6⟩ := dats_cons ds6
    cases dats_nil ds6
    bv_omega
    refine ⟨_, rfl, _, rfl, _, rfl, a6, [va, vb], rfl, SqL.of e6, fun a7 n7 => ⟨sl (Nat.le_of_ble_eq_true rfl), fun b1 n8 => ⟨sl (Nat.le_of_ble_eq_true rfl), fun b2 n9 => ⟨_, rfl, b2, a6, [.ref b1], [va, vb], rfl, rfl, SqL.of upd_same, ?k1, sl (Nat.le_of_ble_eq_true rfl), fun a8 n10 => ⟨sl (Nat.le_of_ble_eq_true rfl), fun a9 n11 => ⟨l, a9, _, rfl, ?k2, ?k3, upd_same, by simp, (show 3 ≤ 1000 by decide), fun vv H9 mv r9 => ?k4⟩⟩⟩⟩⟩⟩
    case k1 => exact (((same_new n7).trans (same_new n8)).trans (same_new n9)) a6 _ e6
    all_goals have m8 := (fr2 n8).2
    all_goals have m9 := (fr2 (fr2 n9).2).2
    all_goals have m10 := (fr2 (fr2 (fr2 n10).2).2).2
    all_goals have m11 := (fr2 (fr2 (fr2 (fr2 n11).2).2).2).2
    all_goals have z := ((((same_new (o := .lst [va, vb].reverse) n7).trans (same_new (o := .tup [V.str "run", V.str "a"]) n8)).trans (same_new (o := .lst [V.ref b1]) n9)).trans (same_new (o := .lst ([V.ref b1] ++ [va, vb])) n10)).trans (same_new (o := .lst [V.ref a6, V.ref a7, V.ref a8]) n11)
    all_goals have r5 : Dr l H4 _ := .same sr4 z
    case k2 => exact r5.sr
    case k3 => exact sr4.ne m11
    case k4 =>
      have up : ∀ {v : V} {t : T}, Dat K H4 v t → Dat K H9 v t := fun d => (d.up (same_stay z)).up r9.st
      have ob : Okt C0 W0 255 255 known false 0 (.mk false "run" [.str "a"] [] []) := .run (by decide)
      obtain ⟨ka, ks, rfl, l2, l3, gs, nka, ldk⟩ : ∃ ka ks, vv = .ref ka ∧ 2 ≤ ks.length ∧ ks.length ≤ 3 ∧ (∀ k ∈ ks, Okt C0 W0 255 255 known false 0 k ∧ ht k ≤ 2 * d + 1) ∧ ka ≠ l ∧ LD K H9 ka (encs ks) := by
        rcases List.mem_cons.mp mv with rfl | mv
        · exact ⟨a6, [tr, x2], rfl, by simp, by simp, all_two ⟨g.1, g.2⟩ ⟨o2, h2⟩, na6, [va, vb], r9.keep _ _ na6 (z _ _ e6), .cons (up da) (.cons (up db) .nil)⟩
        rcases List.mem_cons.mp mv with rfl | mv
        · exact ⟨a7, [x2, tr], rfl, by simp, by simp, all_two ⟨o2, h2⟩ ⟨g.1, g.2⟩, sr4.ne n7, [vb, va], r9.keep _ _ (sr4.ne n7) ((((same_new n8).trans (same_new n9)).trans (same_new n10)).trans (same_new n11) _ _ upd_same), .cons (up db) (.cons (up da) .nil)⟩
        · rw [List.mem_singleton.mp mv]
          have e1 := r9.st b1 _ ((((same_new n9).trans (same_new n10)).trans (same_new n11)) b1 _ upd_same)
          refine ⟨a8, [.mk false "run" [.str "a"] [] [], tr, x2], rfl, by simp, by simp, fun k hk => ?_, sr4.ne m10, [.ref b1, va, vb], r9.keep _ _ (sr4.ne m10) (same_new n11 _ _ upd_same), .cons ((Dats.cons (Dat.str (by decide +kernel)) (.cons (Dat.str (by decide +kernel)) .nil)).tup e1) (.cons (up da) (.cons (up db) .nil))⟩
          rcases List.mem_cons.mp hk with rfl | hk
          · exact ⟨ob, by show 1 ≤ _; omega⟩
          · exact all_two (p := fun k => Okt C0 W0 255 255 known false 0 k ∧ ht k ≤ 2 * d + 1) ⟨g.1, g.2⟩ ⟨o2, h2⟩ k hk
      have d129 := up (d12.up r4.st)
      have sr9 := r9.sr
      have r49 := ((r23.trans r4).trans r5).trans r9
      clear z r5 mv ob
      bv_omega
      refine' Exists.intro _ ⟨?_, by assumption, ?_⟩
      rotate_left 1
      · (repeat' (first | rfl | exact Dat.int _ | exact Dat.bl _ | (refine (?_ : Dat _ _ _ _); assumption) | (refine (?_ : LD _ _ _ _); assumption) | (refine (?_ : _ ≠ _); assumption) | refine' Exists.intro _ ?_ | refine And.intro ?_ ?_))
        all_goals (first | (first | (rintro _ rfl; exact ⟨_, rfl, by decide, by decide⟩) | (intro ts h; (repeat (obtain ⟨_, _, rfl, _, h⟩ := h)); (try cases h); exact Nat.le_of_ble_eq_true rfl) | (intro ts h; (repeat (obtain ⟨_, _, rfl, _, h⟩ := h)); (try cases h); exact ⟨List.cons_ne_nil _ _, Nat.le_of_ble_eq_true rfl⟩) | (rintro _ _ rfl rfl; exact ⟨_, _, rfl, rfl⟩)) | (exact mk) | (exact lb2) | (exact lb3) | (exact lb) | (exact db2) | omega | (show (0 : Nat) + d ≤ 100; omega) | (rintro _ _ rfl ⟨_, _, ⟨⟩, _, _, rfl⟩; exact ⟨_, _, rfl, rfl⟩))
      rintro _ v H10 ⟨_, ⟨_, _, rfl, ⟨_, rfl, _, _, rfl, rfl, _, _, rfl, rfl, rfl⟩, _, _, rfl, ⟨_, rfl, _, _, rfl, rfl, _, _, rfl, ⟨_, rfl, rfl⟩, rfl⟩, rfl⟩, m3⟩ r10 dv
      rcases List.mem_cons.mp m3 with rfl | m3
      · exact out_t q (.mk false "sub" [] [tr] []) (.sub g.1) (by show 1 + hts [tr] ≤ _; have := hts_le (all_one (p := fun k => ht k ≤ 2 * d + 1) g.2); omega) (r49.trans r10) dv
      rcases List.mem_cons.mp m3 with rfl | m3
      · exact out_t q (.mk true "pipe" [] ks []) (.pipe ⟨by omega, by omega⟩ fun k h => (gs k h).1) (by show 1 + hts ks ≤ _; have := hts_le fun k h => (gs k h).2; omega) (r49.trans r10) dv
      cases m3
  refine if_no (dn (by omega)) ?_
  bv_omega
  refine' Exists.intro _ ⟨?_, by assumption, ?_⟩
  rotate_left 1
  · (repeat' (first | rfl | exact Dat.int _ | exact Dat.bl _ | (refine (?_ : Dat _ _ _ _); assumption) | (refine (?_ : LD _ _ _ _); assumption) | (refine (?_ : _ ≠ _); assumption) | refine' Exists.intro _ ?_ | refine And.intro ?_ ?_))
    all_goals (first | (first | (rintro _ rfl; exact ⟨_, rfl, by decide, by decide⟩) | (intro ts h; (repeat (obtain ⟨_, _, rfl, _, h⟩ := h)); (try cases h); exact Nat.le_of_ble_eq_true rfl) | (intro ts h; (repeat (obtain ⟨_, _, rfl, _, h⟩ := h)); (try cases h); exact ⟨List.cons_ne_nil _ _, Nat.le_of_ble_eq_true rfl⟩) | (rintro _ _ rfl rfl; exact ⟨_, _, rfl, rfl⟩)) | (exact mk) | (exact lb2) | (exact lb3) | (exact lb) | (exact db2) | omega | (show (0 : Nat) + d ≤ 100; omega) | (rintro _ _ rfl ⟨_, _, ⟨⟩, _, _, rfl⟩; exact ⟨_, _, rfl, rfl⟩))
  rintro _ v H4 ⟨_, rfl, _, _, rfl, rfl, _, _, rfl, ⟨_, ⟨_, _, rfl, rfl, _, _, rfl, rfl, rfl⟩, mw⟩, _, _, rfl, ⟨_, ⟨_, _, rfl, rfl, _, _, rfl, ⟨_, rfl, _, _, rfl, rfl, _, _, rfl, rfl, rfl⟩, _, _, rfl, rfl, rfl⟩, m2⟩, rfl⟩ r4 dv
  obtain ⟨wt, wm, rfl⟩ := mem_strs (zs := ["end", "fail"]) mw
  have wo : wt = "end" ∨ wt = "fail" := by
    rcases List.mem_cons.mp wm with e | e
    · exact .inl e
    · exact .inr (List.mem_singleton.mp e)
  have hz : Okt C0 W0 255 255 known false 0 (.mk false "run" [.str "z"] [] []) := .run (by decide)
  rcases List.mem_cons.mp m2 with rfl | m2
  · exact out_t q (.mk false "trap" [.str wt] [tr] []) (.trap wo g.1) (by show 1 + hts [tr] ≤ _; have := hts_le (all_one (p := fun k => ht k ≤ 2 * d + 1) g.2); omega) (r23.trans r4) dv
  rcases List.mem_cons.mp m2 with rfl | m2
  · exact out_t q (.mk false "trap" [.str wt] [.mk false "run" [.str "z"] [] []] []) (.trap wo hz) (by show 2 ≤ _; omega) (r23.trans r4) dv
  rcases List.mem_cons.mp m2 with rfl | m2
  · exact out_t q (.mk false "trap" [.str wt] [] [.non]) (.trap0 wo) (by show 1 ≤ _; omega) (r23.trans r4) dv
  cases m2
end
end Ck

/-! Other words. -/
namespace Ck
open PySem PySem.Spec PyProof.Rows L2
def wcs : List (Str × Str) := [("a", "f"), ("ab", "makeinstall"), ("b", "docker"), ("d", "done"), ("e", "g"), ("z", "iffy")]
def wvs : List (Str × Str) := [("x", "failure"), ("ax", "f")]
def wc (c : Str) : Str := (wcs.lookup c).getD c
def wv (c : Str) : Str := (wvs.lookup c).getD c
def wpre (w : Str) : List T → List T
  | [.str c] => if w = "run" then [.str (wc c)] else if w = "give" ∨ w = "zero" ∨ w = "keep" then [.str (wv c)] else [.str c]
  | [.str c, .int n] => if w = "put" then [.str (wv c), .int (100 * n)] else [.str c, .int n]
  | [.int n] => if w = "status" ∨ w = "return" ∨ w = "exit" then [.int (85 * n)] else [.int n]
  | pre => pre
mutual
def wrd : Tr → Tr
  | .mk b w pre ks post => .mk b w (wpre w pre) (wrds ks) post
def wrds : List Tr → List Tr
  | [] => []
  | k :: ks => wrd k :: wrds ks
end
abbrev C1 : List Str := ["f", "makeinstall", "docker", "done", "g", "iffy"]
/-! ### weights are not less -/
def Le (fs gs : List (Str × Int)) : Prop := ∀ f, (fs.lookup f).getD 0 ≤ (gs.lookup f).getD 0
theorem own_le {fs gs : List (Str × Int)} (l : Le fs gs) (w : Str) {known : List Str} {b : Bool} {pre post : List T} {ks : List Tr} (an : Any known (.mk b w pre ks post)) {i j : Int} (i0 : 0 ≤ i) (ij : i ≤ j) : own fs w pre i ≤ ownW gs w pre j := by
  obtain ⟨_, _, _, _, l5, l6, _⟩ := an.look
  by_cases c : w = "times"
  · obtain ⟨n, rfl, n0, n1, _⟩ := l6 c
    subst c
    show 1 + n * i ≤ 1 + max 1 n * j
    have a : n * i ≤ max 1 n * i := Int.mul_le_mul_of_nonneg_right (Int.le_max_right _ _) i0
    have b : max 1 n * i ≤ max 1 n * j := Int.mul_le_mul_of_nonneg_left ij (by omega)
    omega
  · by_cases c2 : w = "call"
    · obtain ⟨f, rfl, _⟩ := l5 c2
      subst c2
      show 1 + i + (fs.lookup f).getD 0 ≤ 1 + j + (gs.lookup f).getD 0
      have := l f
      omega
    · unfold own ownW
      rw [if_neg c, if_neg c, if_neg c2, if_neg c2]
      omega
mutual
theorem unf_le {fs gs : List (Str × Int)} (l : Le fs gs) (nn : ∀ f, 0 ≤ (fs.lookup f).getD 0) : ∀ (t : Tr) (known : List Str), Any known t → 0 ≤ unf fs t ∧ unf fs t ≤ wei gs t
  | .mk b w pre ks post, known, an => by
    obtain ⟨k0, k1⟩ := unfs_le l nn ks known an.look.1
    obtain ⟨_, _, _, _, l5, l6, _⟩ := an.look
    refine ⟨?_, own_le l w an k0 k1⟩
    show 0 ≤ own fs w pre (unfs fs ks)
    by_cases c : w = "times"
    · obtain ⟨n, rfl, n0, n1, _⟩ := l6 c
      subst c
      show 0 ≤ 1 + n * unfs fs ks
      have := Int.mul_nonneg n0 k0
      omega
    · by_cases c2 : w = "call"
      · obtain ⟨f, rfl, _⟩ := l5 c2
        subst c2
        show 0 ≤ 1 + unfs fs ks + (fs.lookup f).getD 0
        have := nn f
        omega
      · unfold own
        rw [if_neg c, if_neg c2]
        omega
theorem unfs_le {fs gs : List (Str × Int)} (l : Le fs gs) (nn : ∀ f, 0 ≤ (fs.lookup f).getD 0) : ∀ (ks : List Tr) (known : List Str), (∀ k ∈ ks, Any known k) → 0 ≤ unfs fs ks ∧ unfs fs ks ≤ weis gs ks
  | [], _, _ => ⟨Int.le_refl _, Int.le_refl _⟩
  | k :: ks, known, an => by
    obtain ⟨a0, a1⟩ := unf_le l nn k known (an k List.mem_cons_self)
    obtain ⟨b0, b1⟩ := unfs_le l nn ks known fun k m => an k (List.mem_cons_of_mem _ m)
    constructor
    · show 0 ≤ unf fs k + unfs fs ks
      omega
    · show unf fs k + unfs fs ks ≤ wei gs k + weis gs ks
      omega
end
end Ck

namespace Ck
open PySem PySem.Spec PyProof.Rows L2
section
variable {X : Cx} {P : Program} {w : World} {K : PySem.W.Frag} {mg : Str → Option Value} {base : Heap} {H H1 H2 : Hp} {l : Addr} {dR dS : Addr} {adr : Kind → Addr}
end
end Ck

/-! A plan that is drawn is a program. -/
namespace Ck
open PySem PySem.Spec PyProof.Rows L2
def RowsG : List (Str × Int) → Rows → Prop
  | _, [] => True
  | fs, r :: rs => r.1 ∉ fs.map (·.1) ∧ nameOk r.1 = true ∧ Okt C0 W0 255 255 (fs.map (·.1)) true 0 r.2 ∧ wei fs r.2 ≤ 500 ∧ ht r.2 ≤ 13 ∧ RowsG (fs ++ [(r.1, wei fs r.2)]) rs
theorem RowsG.snoc : ∀ {rs : Rows} {fs : List (Str × Int)} {r : Str × Tr}, RowsG fs rs → r.1 ∉ (grownW fs rs).map (·.1) → nameOk r.1 = true → Okt C0 W0 255 255 ((grownW fs rs).map (·.1)) true 0 r.2 → wei (grownW fs rs) r.2 ≤ 500 → ht r.2 ≤ 13 → RowsG fs (rs ++ [r])
  | [], fs, r, _, a, b, c, d, e => ⟨a, b, c, d, e, True.intro⟩
  | q :: rs, fs, r, g, a, b, c, d, e => by
    obtain ⟨g1, g2, g3, g4, g5, g6⟩ := g
    exact ⟨g1, g2, g3, g4, g5, RowsG.snoc (rs := rs) g6 a b c d e⟩
theorem RowsG.any : ∀ {rs : Rows} {fs : List (Str × Int)}, RowsG fs rs → RowsAny (fs.map (·.1)) rs
  | [], fs, _ => True.intro
  | q :: rs, fs, g => by
    obtain ⟨g1, g2, g3, g4, g5, g6⟩ := g
    have z := RowsG.any (rs := rs) g6
    rw [List.map_append] at z
    exact ⟨g1, ⟨_, _, _, _, _, _, g3⟩, by omega, z⟩
theorem look_app {f : Str} {v : Int} {z : Str} : ∀ {fs : List (Str × Int)}, ((fs ++ [(z, v)]).lookup f).getD 0 = if f ∈ fs.map (·.1) then (fs.lookup f).getD 0 else if f = z then v else 0
  | [] => by
    show (List.lookup f [(z, v)]).getD 0 = _
    by_cases c : f = z
    · subst c
      rw [List.lookup_cons]
      simp
    · have e : (f == z) = false := by simpa using c
      rw [List.lookup_cons, e]
      simp [c]
  | p :: fs => by
    by_cases c : f = p.1
    · subst c
      rw [List.cons_append, List.lookup_cons, List.lookup_cons]
      simp
    · have e : (f == p.1) = false := by simpa using c
      rw [List.cons_append, List.lookup_cons, List.lookup_cons, e]
      dsimp only
      rw [look_app (fs := fs)]
      simp only [List.map_cons, List.mem_cons, c, false_or]
theorem Le.snoc {fs gs : List (Str × Int)} {z : Str} {i j : Int} (l : Le gs fs) (n : gs.map (·.1) = fs.map (·.1)) (h : i ≤ j) (h0 : 0 ≤ j) : Le (gs ++ [(z, i)]) (fs ++ [(z, j)]) := by
  intro f
  rw [look_app, look_app, n]
  split
  · exact l f
  · split
    · exact h
    · exact Int.le_refl _
theorem NN.get {fs : List (Str × Int)} (n : NN fs) (f : Str) : 0 ≤ (fs.lookup f).getD 0 := by
  cases e : fs.lookup f with
  | none => exact Int.le_refl _
  | some v =>
    obtain ⟨u, eu, u0⟩ := look_some (look_mem e) n
    rw [e] at eu
    cases eu
    exact u0
/-- what becomes of a row -/
structure Turn (g : Tr → Tr) (C W : List Str) (N M : Int) : Prop where
  ok : ∀ {known i l t}, Okt C0 W0 255 255 known i l t → Okt C W N M known i l (g t)
  unf : ∀ fs t, unf fs (g t) = unf fs t
  ht : ∀ t, ht (g t) = ht t
  cnt : ∀ t, cnt (g t) = cnt t
def turned (g : Tr → Tr) (rs : Rows) : Rows := rs.map fun r => (r.1, g r.2)
section
variable {g : Tr → Tr} {C W : List Str} {N M : Int}
theorem RowsG.ok (U : Turn g C W N M) : ∀ {rs : Rows} {fs gs : List (Str × Int)}, RowsG fs rs → NN fs → Le gs fs → NN gs → gs.map (·.1) = fs.map (·.1) → RowsOk C W N M gs (turned g rs) ∧ Le (grown gs (turned g rs)) (grownW fs rs) ∧ NN (grown gs (turned g rs)) ∧ (grown gs (turned g rs)).map (·.1) = (grownW fs rs).map (·.1) ∧ tot (turned g rs) ≤ 500 * rs.length
  | [], fs, gs, _, _, l, nn, e => ⟨True.intro, l, nn, e, Nat.le_refl _⟩
  | r :: rs, fs, gs, gg, nf, l, nn, e => by
    obtain ⟨g1, g2, g3, g4, g5, g6⟩ := gg
    obtain ⟨u0, u1⟩ := unf_le l nn.get r.2 _ ⟨_, _, _, _, _, _, g3⟩
    have w1 := wei_pos nf r.2
    have nf2 : NN (fs ++ [(r.1, wei fs r.2)]) := nf.snoc (by omega)
    have l2 : Le (gs ++ [(r.1, unf gs (g r.2))]) (fs ++ [(r.1, wei fs r.2)]) := l.snoc e (by rw [U.unf]; exact u1) (by omega)
    have nn2 : NN (gs ++ [(r.1, unf gs (g r.2))]) := nn.snoc (by rw [U.unf]; exact u0)
    have e2 : (gs ++ [(r.1, unf gs (g r.2))]).map (·.1) = (fs ++ [(r.1, wei fs r.2)]).map (·.1) := by
      rw [List.map_append, List.map_append, e]
      rfl
    obtain ⟨h1, h2, h3, h4, h5⟩ := RowsG.ok U (rs := rs) g6 nf2 l2 nn2 e2
    refine ⟨⟨g2, look_none (by rw [e]; exact g1), ?_, ?_, ?_, h1⟩, h2, h3, h4, ?_⟩
    · show Okt C W N M (gs.map (·.1)) true 0 (g r.2)
      rw [e]
      exact U.ok g3
    · show unf gs (g r.2) ≤ 3000
      rw [U.unf]
      omega
    · show ht (g r.2) ≤ 58
      rw [U.ht]
      omega
    · show cnt (g r.2) + tot (turned g rs) ≤ 500 * (rs.length + 1)
      rw [U.cnt]
      omega
theorem prog_of (U : Turn g C W N M) (cd : CondW C W N M) (fw : W.length ≤ 40) (fc : C.length ≤ 20000) {rs : Rows} {m : Tr} (gr : RowsG [] rs) (few : rs.length ≤ 3) (mo : Okt C0 W0 255 255 ((grownW [] rs).map (·.1)) false 0 m) (mw : wei (grownW [] rs) m ≤ 502) (mh : ht m ≤ 20) : ProgOk C W N M (turned g rs) (g m) := by
  have nil : NN [] := fun p q => by cases q
  obtain ⟨h1, h2, h3, h4, h5⟩ := RowsG.ok U gr nil (fun f => Int.le_refl _) nil rfl
  obtain ⟨u0, u1⟩ := unf_le h2 h3.get m _ ⟨_, _, _, _, _, _, mo⟩
  have w1 := wei_pos (NN.grownW rs nil) m
  refine ⟨cd, ?_, fw, fc, h1, ?_, ?_, ?_, ?_⟩
  · unfold turned
    rw [List.length_map]
    omega
  · rw [h4]
    exact U.ok mo
  · rw [U.unf]
    omega
  · rw [U.ht]
    omega
  · rw [U.cnt]
    omega
end
theorem turn_id : Turn id C0 W0 255 255 := ⟨fun o => o, fun _ _ => rfl, fun _ => rfl, fun _ => rfl⟩
theorem cond0 : CondW C0 W0 255 255 := ⟨by decide +kernel, by decide +kernel, by decide, by decide⟩
theorem turned_id (rs : Rows) : turned id rs = rs := by
  unfold turned
  have e : (fun r : Str × Tr => (r.1, id r.2)) = id := by
    funext r
    rfl
  rw [e, List.map_id]
/-- some program that is right -/
def IsProg (rs : Rows) (m : Tr) : Prop := ∃ C W N M, ProgOk C W N M rs m
theorem prog_plain {rs : Rows} {m : Tr} (gr : RowsG [] rs) (few : rs.length ≤ 3) (mo : Okt C0 W0 255 255 ((grownW [] rs).map (·.1)) false 0 m) (mw : wei (grownW [] rs) m ≤ 502) (mh : ht m ≤ 20) : IsProg rs m := by
  have z := prog_of turn_id cond0 (by decide) (by decide) gr few mo mw mh
  rw [turned_id] at z
  exact ⟨_, _, _, _, z⟩
end Ck

/-! Drawn programs without other names. -/
namespace Cu
open PySem PySem.Spec PyProof.Rows L2 Ck
local macro_rules | `(tactic| bv_omega) => `(tactic| try dsimp only [L2.tRet, L2.tRetN, tAndV, tOrV, tNotV, tCB, L2.tCons, L2.tNil, tC, tVar, L2.tOp, L2.tUn, tSeq, tAsg, gName, tIfS, tTest, tNext, tAnd, tOr, tNot, L2.tIf, tFld, sFld, sFldAug, tCall, tTup, tB, tAug, tDrop, L2.tSl, tPart, tNoPart, tBM, tBM0, tChain, gTup, gCons, gNil, tPar, tIs, List.set, L2.start, iTup, L2.iList, L2.iRng1, tUn, tLst, tTest, gSub, tCall, L2.tIf, tCB, rRep, List.set, List.cons_append, List.nil_append, cxOf])
section
variable {X : Cx} {P : Program} {w : World} {K : PySem.W.Frag} {mg : Str → Option Value} {base : Heap} {H H1 H2 : Hp} {l : Addr} {dR dS : Addr} {adr : Ck.Kind → Addr}
/-- list(a list) -/
theorem prl_list {e : Expr} {p pos : Pos} {C : L2.St → Hp → TsSet → Prop} (mt : X.mg "list" = none) (hg : Gl X "list") (ha : PRl X l e C) (h1 : starEach [e] X.env = (false, eval e X.env) :: starEach [] X.env := by rfl) (h2 : ((backTo pos (starEach [] X.env)).any fun x => x.1) = false := by rfl) :
    PRl X l (.Call (.Name "list" p) [e] [] pos) C :=
  ⟨pe_imp (pe_callTy call_list_of hg mt (by decide +kernel) (pa_cons ha.pe pa_nil h1) (by decide) (by decide) h1 h2) fun σ H Q ⟨D, c, s, q⟩ =>
    ⟨D, c, s, fun ts a H1 d1 r1 na ⟨xs, ex, dx⟩ => ⟨a, xs, rfl, .inl (.inl (.inl ex)), fun p n => q _ _ _ d1 (r1.new n) (r1.sr.ne n) ⟨xs, upd_same, dx.up (same_stay (same_new n))⟩⟩⟩, ha.up⟩
abbrev fgh : List Str := ["f", "g", "h"]
theorem take_known {i : Nat} (h : i ≤ 3) : fgh.take i ∈ knowns := by
  obtain rfl | rfl | rfl | rfl : i = 0 ∨ i = 1 ∨ i = 2 ∨ i = 3 := by omega
  all_goals decide
theorem fgh_facts {i : Nat} {z : Str} (h : fgh[i]? = some z) : nameOk z = true ∧ z.length ≤ 100 := by
  have m : ∀ z ∈ fgh, nameOk z = true ∧ z.length ≤ 100 := by decide +kernel
  exact m z (List.mem_of_getElem? h)
theorem fgh_new {i : Nat} {z : Str} (l : i < 3) (h : fgh[i]? = some z) : z ∉ fgh.take i := by
  obtain rfl | rfl | rfl : i = 0 ∨ i = 1 ∨ i = 2 := by omega
  all_goals (cases h; decide)
abbrev sPlan : Stmt := topS 68
abbrev NPl : List Str := ["_law_source_here", "_law_many", "_law_deep", "_law_rows", "_law_known", "_law_k", "_law_body", "_law_main"]
abbrev PPl : List Str := ["_law_source_here", "_law_many", "_law_deep"]
theorem scPl : FnScope NPl PPl (defScope sPlan) := ⟨rfl, rfl, rfl, by decide +kernel, rfl, by decide +kernel, by decide +kernel⟩
/-- a drawn program: its rows, its main tree -/
structure PlanG (rs : Rows) (m : Tr) : Prop where
  gr : RowsG [] rs
  few : rs.length ≤ 3
  mo : Okt C0 W0 255 255 ((grownW [] rs).map (·.1)) false 0 m
  mw : wei (grownW [] rs) m ≤ 502
  mh : ht m ≤ 14
theorem PlanG.prog {rs : Rows} {m : Tr} (h : PlanG rs m) : IsProg rs m := prog_plain h.gr h.few h.mo h.mw (by have := h.mh; omega)
def spPlan (K : PySem.W.Frag) : Sp := fun vs H Q _ => ∃ l, ∃ mn dp : Int, vs = [.ref l, .int mn, .int dp] ∧ 0 ≤ mn ∧ mn ≤ 3 ∧ dp ≤ 6 ∧ Sr l H ∧ ∀ v H' rs m, PlanG rs m → ((rs.length : Nat) : Int) ≤ mn → Dr l H H' → Dat K H' v (encP rs m) → Q v H'
abbrev GLi (P : Program) (w : World) (K : PySem.W.Frag) (mg : Str → Option Value) (base : Heap) : Prop := Go P w K mg base CX0 22 "_law_light" PLi (spLig K)
theorem ok_plan {f : Addr} {fd : FuncData} (F : Fun K "_law_plan" "_law_plan" sPlan f fd) (M : Mg mg) (GT : GTk P w K mg base) (GR : GTr P w K mg base 6) (GL : GLi P w K mg base) : FnOk P w K mg base CX0 98 f fd PPl (spPlan K) := by
  refine F.ok scPl (fun vs H Q E h => ?_) (fun cdv A outer s H vs Q E hr hh => ?_)
  · obtain ⟨_, _, _, rfl, _⟩ := h
    rfl
  obtain ⟨l, mn, dp, rfl, mn0, mn3, dpb, sr, q⟩ := hh
  have hr8 := hr.mono (j := 88) (by decide)
  have hrL := hr.mono (j := 22) (by decide)
  refine ⟨_, (pss_cons (ps_par rfl scPl.nd (i := 3) (j := 4) rfl rfl (by decide) rfl rfl (pa_cons (pe_lst pa_nil) (pa_cons (pe_lst pa_nil) pa_nil)) (by rfl)) (pss_cons (ps_for PassesOwn.never rfl (pi_range1 rfl M.mr (pa_cons (pe_r (pr_take (l := l) GT hr8 rfl (pv 0) (pr_binD op_add (pr_var 1 (pv 1)) pr_int))) pa_nil)) (pg_name (i := 5) scPl.nd rfl (.inl rfl))
      (pss_cons (ps_set (i := 6) scPl.nd rfl (.inl rfl) (pe_r (pr_tree (l := l) GR hr rfl (pv 0) (pr_binD op_sub (pr_var 2 (pv 2)) pr_int) pr_int pr_bool (prl_list M.ls rfl (prl_var 4 (pv 4)))))) (pss_cons (ps_expr (pe_bm PySem.F.plainAttrs_list PySem.F.slot_list_append PySem.F.type_list_append mt_append (pv 3) (pa_cons (pe_tup (pa_cons (pe_ix ix_list (pe_lst (pa_cons pe_str (pa_cons pe_str (pa_cons pe_str pa_nil)))) (pv 5) fun _ _ => rfl) (pa_cons (pe_go (E := fun _ _ _ => False) GL hrL pass0 rfl (pa_cons (pv 6) (pa_cons (pv 3) pa_nil))) pa_nil))) pa_nil))) (pss_one (ps_expr (pe_bm PySem.F.plainAttrs_list PySem.F.slot_list_append PySem.F.type_list_append mt_append (pv 4) (pa_cons (pe_ix ix_tup (pe_ix ix_list (pv 3) (pe_un un_neg pe_int) fun _ _ => rfl) pe_int fun _ _ => rfl) pa_nil))))))) (pss_cons (ps_set (i := 7) scPl.nd rfl (.inl rfl) (pe_go (E := fun _ _ _ => False) GL hrL pass0 rfl (pa_cons (pe_r (pr_tree (l := l) GR hr rfl (pv 0) (pr_var 2 (pv 2)) pr_int pr_bool (prl_list M.ls rfl (prl_var 4 (pv 4))))) (pa_cons (pv 3) pa_nil)))) (pss_one (ps_ret (pe_tup (pa_cons (pe_callTy call_tuple_of rfl M.mt (by decide +kernel) (pa_cons (pv 3) pa_nil) (by decide) (by decide)) (pa_cons (pe_ifExp (pt_cmpR op_eq (pe_r (pr_take (l := l) GT hr8 rfl (pv 0) pr_int)) pe_int rfl) (pe_r (pr_tup (l := l) (prs_cons pr_str (prs_cons (pr_tup (prs_cons (pr_var 7 (pv 7)) (prs_cons (pr_tup (prs_cons pr_str (prs_cons pr_str prs_nil))) prs_nil))) prs_nil)))) (pv 7)) pa_nil)))))))), ?_⟩
  bv_omega
  refine ⟨sl (Nat.zero_le _), fun rl nrl => ⟨sl (Nat.zero_le _), fun kl nkl => ⟨_, _, rfl, ?_⟩⟩⟩
  have nk : kl ≠ rl := Ne.symm (ne_of_none (upd_same (H := H) (o := .lst [])) nkl)
  have hkl : H kl = none := by
    rw [upd_ne nk] at nkl
    exact nkl
  have rnl := sr.ne nrl
  have knl := sr.ne hkl
  have r0 := ((Dr.refl sr).new (o := .lst []) nrl).new (o := .lst []) nkl
  have e1 : upd (upd H rl (.lst [])) kl (.lst []) rl = some (.lst []) := by rw [upd_ne (Ne.symm nk)]; exact upd_same
  have e2 : upd (upd H rl (.lst [])) kl (.lst []) kl = some (.lst []) := upd_same
  generalize upd (upd H rl (.lst [])) kl (.lst []) = G0 at r0 e1 e2 ⊢
  have sr0 := r0.sr
  refine loop_in ?_
  bv_omega
  refine' Exists.intro _ ⟨?_, by assumption, ?_⟩
  rotate_left 1
  · (repeat' (first | rfl | exact Dat.int _ | exact Dat.bl _ | (refine (?_ : Dat _ _ _ _); assumption) | (refine (?_ : LD _ _ _ _); assumption) | (refine (?_ : _ ≠ _); assumption) | refine' Exists.intro _ ?_ | refine And.intro ?_ ?_))
    all_goals (first | (first | (rintro _ rfl; exact ⟨_, rfl, by decide, by decide⟩) | (intro ts h; (repeat (obtain ⟨_, _, rfl, _, h⟩ := h)); (try cases h); exact Nat.le_of_ble_eq_true rfl) | (intro ts h; (repeat (obtain ⟨_, _, rfl, _, h⟩ := h)); (try cases h); exact ⟨List.cons_ne_nil _ _, Nat.le_of_ble_eq_true rfl⟩) | (rintro _ _ rfl rfl; exact ⟨_, _, rfl, rfl⟩)) | (rintro _ rfl; exact ⟨_, rfl, by omega, by omega⟩))
  rintro _ vn H1 ⟨_, r, ⟨⟩, q0, q1, rfl⟩ r1 dn
  cases dat_int dn
  obtain ⟨n, rfl⟩ := Int.eq_ofNat_of_zero_le q0
  have ld1 : LD K H1 rl ([].map encF) := ⟨[], r1.keep _ _ rnl e1, .nil⟩
  have ld2 : LD K H1 kl (([].map (·.1 : Str × Tr → Str)).map T.str) := ⟨[], r1.keep _ _ knl e2, .nil⟩
  refine ⟨(n : Nat), rfl, by omega, by omega, loop_range (lo := 0) (n := n) (fun i σ H' => ∃ rs v5 v6, σ = [some (.ref l), some (.int mn), some (.int dp), some (.ref rl), some (.ref kl), v5, v6, none] ∧ rs.length = i ∧ LD K H' rl (rs.map encF) ∧ LD K H' kl ((rs.map (·.1)).map T.str) ∧ rs.map (·.1) = fgh.take i ∧ RowsG [] rs ∧ Dr l H H') ⟨[], _, _, rfl, rfl, ld1, ld2, rfl, True.intro, r0.trans r1⟩ ?hs ?hd⟩
  case hs =>
    rintro i σ H2 li ⟨rs, v5, v6, rfl, len, lr, lk, nm, gr, r2⟩
    have i3 : i < 3 := by omega
    have sr2 := r2.sr
    have mk : rs.map (·.1) ∈ knowns := by
      rw [nm]
      exact take_known (by omega)
    bv_omega
    refine' Exists.intro _ ⟨?_, by assumption, ?_⟩
    rotate_left 1
    · (repeat' (first | rfl | exact Dat.int _ | exact Dat.bl _ | (refine (?_ : Dat _ _ _ _); assumption) | (refine (?_ : LD _ _ _ _); assumption) | (refine (?_ : _ ≠ _); assumption) | refine' Exists.intro _ ?_ | refine And.intro ?_ ?_))
      all_goals (first | (first | (rintro _ rfl; exact ⟨_, rfl, by decide, by decide⟩) | (intro ts h; (repeat (obtain ⟨_, _, rfl, _, h⟩ := h)); (try cases h); exact Nat.le_of_ble_eq_true rfl) | (intro ts h; (repeat (obtain ⟨_, _, rfl, _, h⟩ := h)); (try cases h); exact ⟨List.cons_ne_nil _ _, Nat.le_of_ble_eq_true rfl⟩) | (rintro _ _ rfl rfl; exact ⟨_, _, rfl, rfl⟩)) | (exact mk) | (show (0 : Nat) + 6 ≤ 100; omega) | (show dp - 1 ≤ ((6 : Nat) : Int); omega))
    rintro _ v6 H3 ⟨tr, rfl, g⟩ r3 d6
    have sr3 := r3.sr
    replace lr := lr.dr r3 rnl
    replace lk := lk.dr r3 knl
    bv_omega
    obtain ⟨xr, er, dr⟩ := lr
    refine ⟨_, rfl, .inl ⟨rfl, _, .inl (.inl er)⟩, ?_⟩
    obtain ⟨z, ez⟩ : ∃ z, fgh[i]? = some z := ⟨_, List.getElem?_eq_getElem (by show i < 3; exact i3)⟩
    have zn := fgh_facts ez
    refine ⟨sl (Nat.le_of_ble_eq_true rfl), fun p np => ⟨_, rfl, p, _, _, .str z, rfl, rfl, .inl (.inl upd_same), ?_, ?_⟩⟩
    · rw [Int.zero_add]
      refine atI_nat ?_
      show (fgh.map V.str)[i]? = _
      rw [List.getElem?_map, ez]
      rfl
    have s4 := same_new (o := .lst [V.str "f", V.str "g", V.str "h"]) np
    have fs1 := grownW_fst rs []
    rw [List.map_nil, List.nil_append] at fs1
    refine ⟨_, rfl, _, rfl, v6, rl, tr, rs, rfl, d6.up (same_stay s4), by have := g.2; omega, ⟨_, _, _, _, _, _, g.1⟩, gr.any, ⟨xr, s4 _ _ er, dr.up (same_stay s4)⟩, by omega, fun v8 H5 tr2 s5 d8 lig => ?_⟩
    refine ⟨sl (Nat.le_of_ble_eq_true rfl), fun p2 np2 => ?_⟩
    have s6 := same_new (o := .tup [V.str z, v8]) np2
    have s36 := (s4.trans s5).trans s6
    have er6 := s36 _ _ er
    have g6 : ∀ xs, (upd H5 p2 (.tup [V.str z, v8])) rl ≠ some (.tup xs) := fun xs e => by rw [er6] at e; cases e
    have r6 := ((r2.trans r3).trans (.same sr3 s36))
    have lk6 := lk.up s36
    have dp : Dat K (upd H5 p2 (.tup [V.str z, v8])) (.ref p2) (encF (z, tr2)) := Dats.tup (.cons (.str zn.2) (.cons (d8.up (same_stay s6)) .nil)) upd_same
    have dr6 := dr.up (same_stay s36)
    have xl := dr.len
    rw [List.length_map, len] at xl
    refine ⟨rl, xr, _, rfl, rfl, er6, Nat.lt_of_lt_of_le (show xr.length < 1000 by omega) (sl (by decide)), ?_⟩
    generalize upd H5 p2 (.tup [V.str z, v8]) = G6 at er6 g6 r6 lk6 dp dr6 ⊢
    obtain ⟨xk, ek, dk⟩ := lk6
    have ek7 : upd G6 rl (.lst (xr ++ [.ref p2])) kl = some (.lst xk) := by rw [upd_ne nk]; exact ek
    have st7 : Stay G6 (upd G6 rl (.lst (xr ++ [.ref p2]))) := stay_lst er6
    have r7 : Dr l H (upd G6 rl (.lst (xr ++ [.ref p2]))) := r6.put nrl rnl g6
    have er7 : upd G6 rl (.lst (xr ++ [.ref p2])) rl = some (.lst (xr ++ [.ref p2])) := upd_same
    have dp7 := dp.up st7
    have dr7 := dr6.up st7
    have dk7 := dk.up st7
    generalize upd G6 rl (.lst (xr ++ [.ref p2])) = G7 at ek7 r7 er7 dp7 dr7 dk7 ⊢
    obtain ⟨a, ys, ea, ha, dys⟩ := dat_tup dp7
    cases ea
    obtain ⟨y0, us, rfl, dz, _⟩ := dats_cons dys
    cases dat_str dz
    have kl2 := dk.len
    rw [List.length_map, List.length_map, len] at kl2
    bv_omega
    refine ⟨_, rfl, .inl ⟨rfl, _, .inl (.inl ek7)⟩, _, rfl, _, rfl, rl, _, _, _, rfl, rfl, .inl (.inl er7), L2.atI_last _ _, p2, _, _, _, rfl, rfl, sqt ha, atI_nat (j := 0) rfl, kl, xk, _, rfl, rfl, ek7, Nat.lt_of_lt_of_le (show xk.length < 1000 by omega) (sl (by decide)), ?_⟩
    have st8 : Stay G7 (upd G7 kl (.lst (xk ++ [.str z]))) := stay_lst ek7
    have nm2 : (rs ++ [(z, tr2)]).map (·.1) = fgh.take (i + 1) := by
      rw [List.map_append, nm, List.take_add_one, ez]
      rfl
    refine ⟨rs ++ [(z, tr2)], _, _, rfl, by rw [List.length_append, len]; rfl, ?_, ?_, nm2, ?_, r7.put hkl knl (fun xs e => by rw [ek7] at e; cases e)⟩
    · refine ⟨xr ++ [.ref p2], by rw [upd_ne (Ne.symm nk)]; exact er7, ?_⟩
      rw [List.map_append]
      exact (dr7.app (.cons dp7 .nil)).up st8
    · refine ⟨xk ++ [.str z], upd_same, ?_⟩
      rw [List.map_append, List.map_append]
      exact (dk7.app (.cons (.str zn.2) .nil)).up st8
    · have nz : z ∉ rs.map (·.1) := by
        rw [nm]
        exact fgh_new i3 ez
      rcases lig with ⟨rfl, w5⟩ | rfl
      · exact gr.snoc (by rw [fs1]; exact nz) zn.1 (by rw [fs1]; exact g.1) w5 (by have := g.2; show ht _ ≤ 13; omega)
      · exact gr.snoc (by rw [fs1]; exact nz) zn.1 (.run (by decide)) (by show (1 : Int) + 0 + 0 ≤ 500; decide) (by show 1 ≤ 13; decide)
  case hd =>
    rintro σ H2 ⟨rs, v5, v6, rfl, len, lr, lk, nm, gr, r2⟩
    have sr2 := r2.sr
    have mk : rs.map (·.1) ∈ knowns := by
      rw [nm]
      exact take_known (by omega)
    have fs1 := grownW_fst rs []
    rw [List.map_nil, List.nil_append] at fs1
    bv_omega
    refine' Exists.intro _ ⟨?_, by assumption, ?_⟩
    rotate_left 1
    · (repeat' (first | rfl | exact Dat.int _ | exact Dat.bl _ | (refine (?_ : Dat _ _ _ _); assumption) | (refine (?_ : LD _ _ _ _); assumption) | (refine (?_ : _ ≠ _); assumption) | refine' Exists.intro _ ?_ | refine And.intro ?_ ?_))
      all_goals (first | (first | (rintro _ rfl; exact ⟨_, rfl, by decide, by decide⟩) | (intro ts h; (repeat (obtain ⟨_, _, rfl, _, h⟩ := h)); (try cases h); exact Nat.le_of_ble_eq_true rfl) | (intro ts h; (repeat (obtain ⟨_, _, rfl, _, h⟩ := h)); (try cases h); exact ⟨List.cons_ne_nil _ _, Nat.le_of_ble_eq_true rfl⟩) | (rintro _ _ rfl rfl; exact ⟨_, _, rfl, rfl⟩)) | (exact mk) | (show (0 : Nat) + 6 ≤ 100; omega) | (show dp ≤ ((6 : Nat) : Int); omega))
    rintro _ vt H3 ⟨tr, rfl, g⟩ r3 dt
    have sr3 := r3.sr
    replace lr := lr.dr r3 rnl
    refine ⟨_, rfl, vt, rl, tr, rs, rfl, dt, by have := g.2; omega, ⟨_, _, _, _, _, _, g.1⟩, gr.any, lr, by omega, fun v7 H5 tr2 s5 d7 lig => ?_⟩
    have r5 := (r2.trans r3).trans (.same sr3 s5)
    have sr5 := r5.sr
    have lr5 := lr.up s5
    have mo0 : Okt C0 W0 255 255 (rs.map (·.1)) false 0 tr2 := by
      rcases lig with ⟨rfl, _⟩ | rfl
      · exact g.1
      · exact .run (by decide)
    have mw0 : wei (grownW [] rs) tr2 ≤ 500 := by
      rcases lig with ⟨rfl, w5⟩ | rfl
      · exact w5
      · show (1 : Int) + 0 + 0 ≤ 500
        decide
    have mh0 : ht tr2 ≤ 13 := by
      rcases lig with ⟨rfl, w5⟩ | rfl
      · have := g.2
        omega
      · show 1 ≤ 13
        decide
    obtain ⟨xr, er, dr⟩ := lr5
    have dlen := dr.len
    rw [List.length_map] at dlen
    bv_omega
    refine ⟨_, rfl, rl, xr, rfl, .inl ⟨.inl (.inl er), fun p8 n8 => ?_⟩⟩
    have s8 := same_new (o := .tup xr) n8
    have r8 := r5.trans (.same sr5 s8)
    have sr8 := r8.sr
    have d8 := (dr.up (same_stay s8)).tup upd_same
    have d7c := d7.up (same_stay s8)
    generalize upd H5 p8 (.tup xr) = G8 at r8 sr8 d8 d7c ⊢
    bv_omega
    refine' Exists.intro _ ⟨?_, by assumption, ?_⟩
    rotate_left 1
    · (repeat' (first | rfl | exact Dat.int _ | exact Dat.bl _ | (refine (?_ : Dat _ _ _ _); assumption) | (refine (?_ : LD _ _ _ _); assumption) | (refine (?_ : _ ≠ _); assumption) | refine' Exists.intro _ ?_ | refine And.intro ?_ ?_))
      all_goals (first | (first | (rintro _ rfl; exact ⟨_, rfl, by decide, by decide⟩) | (intro ts h; (repeat (obtain ⟨_, _, rfl, _, h⟩ := h)); (try cases h); exact Nat.le_of_ble_eq_true rfl) | (intro ts h; (repeat (obtain ⟨_, _, rfl, _, h⟩ := h)); (try cases h); exact ⟨List.cons_ne_nil _ _, Nat.le_of_ble_eq_true rfl⟩) | (rintro _ _ rfl rfl; exact ⟨_, _, rfl, rfl⟩)))
    rintro _ vq H6 ⟨_, r, ⟨⟩, q0, q1, rfl⟩ r6 dq
    cases dat_int dq
    have r86 := r8.trans r6
    have sr6 := r6.sr
    have d7b := d7c.up r6.st
    have d8b := d8.up r6.st
    refine ⟨rfl, _, rfl, ?_⟩
    by_cases c1 : V.int r = V.int 0
    · refine if_yes (decide_eq_true c1) ?_
      bv_omega
      refine' Exists.intro _ ⟨?_, by assumption, ?_⟩
      rotate_left 1
      · (repeat' (first | rfl | exact Dat.int _ | exact Dat.bl _ | (refine (?_ : Dat _ _ _ _); assumption) | (refine (?_ : LD _ _ _ _); assumption) | (refine (?_ : _ ≠ _); assumption) | refine' Exists.intro _ ?_ | refine And.intro ?_ ?_))
        all_goals (first | (first | (rintro _ rfl; exact ⟨_, rfl, by decide, by decide⟩) | (intro ts h; (repeat (obtain ⟨_, _, rfl, _, h⟩ := h)); (try cases h); exact Nat.le_of_ble_eq_true rfl) | (intro ts h; (repeat (obtain ⟨_, _, rfl, _, h⟩ := h)); (try cases h); exact ⟨List.cons_ne_nil _ _, Nat.le_of_ble_eq_true rfl⟩) | (rintro _ _ rfl rfl; exact ⟨_, _, rfl, rfl⟩)))
      rintro _ v8 H7 ⟨_, rfl, _, _, rfl, rfl, _, _, rfl, ⟨_, rfl, _, _, rfl, rfl, _, _, rfl, ⟨_, rfl, _, _, rfl, rfl, _, _, rfl, rfl, rfl⟩, rfl⟩, rfl⟩ r7 d9
      have mo : Okt C0 W0 255 255 (rs.map (·.1)) false 0 (.mk true "seq" [] [tr2, rA] []) := .seq ⟨by simp, by simp⟩ (all_two mo0 (.run (by decide)))
      have mw : wei (grownW [] rs) (.mk true "seq" [] [tr2, rA] []) ≤ 502 := by
        show 1 + (wei (grownW [] rs) tr2 + (1 + 0 + 0 + 0)) + 0 ≤ 502
        omega
      have mh : ht (.mk true "seq" [] [tr2, rA] []) ≤ 14 := by
        show 1 + max (ht tr2) (max 1 0) ≤ 14
        omega
      refine ⟨sl (Nat.le_of_ble_eq_true rfl), fun p9 n9 => ?_⟩
      have s9 := same_new (o := .tup [V.ref p8, v8]) n9
      refine q _ _ rs (.mk true "seq" [] [tr2, rA] []) ⟨gr, by omega, by rw [fs1]; exact mo, mw, mh⟩ (by omega) ((r86.trans r7).trans (.same r7.sr s9)) ?_
      exact Dats.tup (.cons ((d8b.up r7.st).up (same_stay s9)) (.cons (d9.up (same_stay s9)) .nil)) upd_same
    · refine if_no (decide_eq_false c1) ?_
      refine ⟨_, rfl, sl (Nat.le_of_ble_eq_true rfl), fun p9 n9 => ?_⟩
      have s9 := same_new (o := .tup [V.ref p8, v7]) n9
      refine q _ _ rs tr2 ⟨gr, by omega, by rw [fs1]; exact mo0, by omega, by omega⟩ (by omega) (r86.trans (.same sr6 s9)) ?_
      exact Dats.tup (.cons (d8b.up (same_stay s9)) (.cons (d7b.up (same_stay s9)) .nil)) upd_same
end
end Cu

/-! Drawn programs without other names, all their defs together. -/
namespace Wk
open PySem PySem.Spec PyProof.Rows L2 Ck
structure LawPu (K : PySem.W.Frag) (mg : Str → Option Value) : Prop where
  pick : Def K mg "_law_pick" sPick ["_law_source_here", "_law_options"]
  small : Def K mg "_law_jump" sSmall PSm
  tree : Def K mg "_law_form" sTree PTr
  wei : Def K mg "_law_weight" sWei PWe
  lig : Def K mg "_law_light" sLig PLi
  plan : Def K mg "_law_plan" Cu.sPlan Cu.PPl
section
variable {P : Program} {w : World} {K : PySem.W.Frag} {mg : Str → Option Value} {base : Heap}
theorem LawPu.tree_go (L : LawPu K mg) (M : Mg mg) (GT : GTk P w K mg base) : ∀ d, GTr P w K mg base d := by
  have GPi : GPk P w K mg base := L.pick.go fun _ _ F => ok_pick F GT M.ml
  have GPa : GPv P w K mg base := L.pick.go fun _ _ F => ok_pickV F GT M.ml
  have GSml : GSm P w K mg base := L.small.go fun _ _ F => ok_small F GT GPi
  intro d
  induction d with
  | zero => exact L.tree.go fun _ _ F => ok_tree0 F GT GSml
  | succ d ih => exact L.tree.go fun _ _ F => ok_tree F GT GPi GPa GSml ih M.mr M.mt
theorem LawPu.light_go (L : LawPu K mg) (M : Mg mg) : Cu.GLi P w K mg base := by
  have wei : ∀ h, GWe P w K mg base h := by
    intro h
    induction h with
    | zero => exact L.wei.go fun _ _ F => ok_wei0 F
    | succ h ih => exact L.wei.go fun _ _ F => ok_weiS F M ih
  exact L.lig.go fun _ _ F => ok_light F (wei 20)
theorem LawPu.plan_go (L : LawPu K mg) (M : Mg mg) (GT : GTk P w K mg base) : L2.Go P w K mg base CX0 98 "_law_plan" Cu.PPl (Cu.spPlan K) :=
  L.plan.go fun _ _ F => Cu.ok_plan F M GT (L.tree_go M GT 6) (L.light_go M)
end
end Wk

/-! Defs that are called while no repr is under way; repr of data; a law that asks for it. -/
namespace L2
open PySem PySem.Spec PyProof.Rows
structure RoomG (k : Nat) (A : Around) : Prop where
  r : Room k A
  g : A.guards = some []
structure FnG (P : Program) (w : World) (K : PySem.W.Frag) (mg : Str → Option Value) (base : Heap) (CX : CXT) (k : Nat) (f : Addr) (fd : FuncData) (ps : List Str) (sp : Sp) : Prop where
  len : ∀ vs H Q E, sp vs H Q E → vs.length = ps.length
  run : ∀ (A : Around) (outer : List Env) (s : Shared) (H : Hp) (args : Args) (us : List Value) (vs : List V) (Q : VK) (E : XK), RoomG k A → Env0 P w K mg base A outer s H → BindsTo s fd args (ps.zip us) → Vals vs us → sp vs H Q E → codeAny (model P w) A (.call (.ref f) args) (CR CX outer P w H s Q E) s
/-- the def's body, run while no repr is under way -/
theorem okXG {P : Program} {w : World} {K : PySem.W.Frag} {mg : Str → Option Value} {base : Heap} {x qual : Str} {stm : Stmt} {f : Addr} {fd : FuncData} {N ps : List Str} {k : Nat} {sp : Sp}
    (F : Fun K x qual stm f fd) (S : FnScope N ps (defScope stm)) (many : ∀ vs H Q E, sp vs H Q E → vs.length = ps.length)
    (body : ∀ (cdv : Value) (A : Around) (outer : List Env) (st : Shared) (H : Hp) (vs : List V) (Q : VK) (E : XK), RoomG k (A.deeper (envOfC qual (defScope stm) st.heap.objs.size f cdv)) → sp vs H Q E →
      ∃ t, PSs (cxOf (L2.CX P w) P w K mg base N qual (defScope stm) f cdv A outer st H E) (defBody stm) t ∧ t { nx := fun _ H' => Q .non H', rt := Q } (L2.start N vs) H) :
    FnG P w K mg base (L2.CX P w) (k + 1) f fd ps sp := by
  obtain ⟨oc, od, kV, doc, pm, an, cdv, ct, osl, rfl, look, code⟩ := F.ex
  refine ⟨many, fun A outer st H args us vs Q E hr e0 hb hv hs => ?_⟩
  have nvs := many _ _ _ _ hs
  have Kin : K.In st.heap := e0.mod.kin.keeps fun b o e => (e0.bs b o e).1
  have lim : st.heap.NoLimit := e0.mod.nolimit.keeps fun b o e => (e0.bs b o e).1
  have kinds : ∀ y ∈ ps.zip us, (defScope stm).names.lookup y.1 = some .local ∨ ((defScope stm).names.lookup y.1 = some .cell ∧ ((cellsFrom (st.heap.objs.size + 1) (defScope stm).names []).lookup y.1).isSome = true) := by
    intro y hy
    obtain ⟨n, v⟩ := y
    rcases S.par n (List.of_mem_zip hy).1 with z | z
    · exact Or.inl z
    · exact Or.inr ⟨z, PySem.W.cellsFrom_some _ _ _ (.inl z)⟩
  refine codeAny_call_function hr.r.depth (Kin _ _ look) rfl S.co S.gen rfl (PySem.W.codeRec_of Kin code) (hb _ _ _ _ ?_)
  refine wpAny_newFunctionEnv_cells S.kind kinds fun env he sB xB => ?_
  subst he
  refine ⟨lim.keeps xB.toInCall.keep, codeAny_func ?_⟩
  obtain ⟨t, ht, hq⟩ := body cdv A outer st H vs Q E ⟨hr.r.deeper _, by first | exact hr.g | simpa [Around.deeper] using hr.g⟩ hs
  have J0 : Inv (cxOf (L2.CX P w) P w K mg base N qual (defScope stm) f cdv A outer st H E) [] (L2.start N vs) H sB := inv_start S hr.r.hd e0 nvs hv xB
  refine wpAny_mono (ht.run [] sB (L2.start N vs) H _ J0 hq) (fun fl sC hC => ?_) fun _ _ z => z
  cases fl with
  | ret u =>
    obtain ⟨v, σ2, H2, J, rv, z⟩ := hC
    exact ⟨v, H2, J.os, J.bare, J.base, J.hok, rv, z⟩
  | next =>
    obtain ⟨σ2, H2, J, z⟩ := hC
    exact ⟨V.non, H2, J.os, J.bare, J.base, J.hok, rfl, z⟩
  | brk =>
    obtain ⟨_, _, _, z⟩ := hC
    exact z.elim
  | cont =>
    obtain ⟨_, _, _, z⟩ := hC
    exact z.elim
section
variable {X : Cx} {CX : CXT} {k : Nat} {f : Addr} {fd : FuncData} {ps : List Str} {sp : Sp} {x : Str} {p pos : Pos} {e : Expr} {es : List Expr} {t : TA} {E : XK}
/-- repr of data without dicts, while no repr is under way -/
def rRepr (K : PySem.W.Frag) : List V → Hp → VK → Prop := fun xs H Q => ∃ a d, xs = [.ref a] ∧ Dp K H (.ref a) d ∧ SeqAt.shaped d = true ∧ d.showable = true ∧ d.shown.length ≤ sizeLine ∧ Q (.str d.shown) H
theorem call_repr_data (hg : X.A.guards = some []) (hu : X.A.units + 80 < cLine) : CallR X (.builtin "repr") (rRepr X.K) := by
  intro pins s σ H xs us Q I rs h
  obtain ⟨a, d, rfl, hd, sh, sw, sz, q⟩ := h
  cases rs with
  | cons r0 rt =>
    cases rt
    obtain ⟨as, rd⟩ := Dp.reads I d (.ref a) _ hd r0
    obtain rfl := r0
    have dep : d.depth ≤ 64 := of_decide_eq_true (Bool.and_eq_true_iff.mp sh).2
    refine repr_of_reads' rd sw (PyData.noDict_hsm (PyData.hasDict_of_canLay d (SeqAt.canLay_of_shaped sh))) hg (by omega) (fun _ _ e => e) (fun h' u tk hk => ?_) sz
    exact ⟨.str d.shown, H, I.kept hk, ⟨u, rfl⟩, q⟩
end
/-- the top: the law's def, called while no repr is under way -/
theorem top_callG {P : Program} {w : World} {K : PySem.W.Frag} {mg mb : Str → Option Value} {CX : CXT} {k : Nat} {fa a : Addr} {fd : FuncData} {x : Str} {sp : Sp} {st : Shared} {vs : List Value} {ns : List Int}
    (KX : K.In st.heap) (g1 : st.heap.Ns mainGlobals mg) (g2 : st.heap.Ns builtinsNs mb) (g3 : ∀ x : Str, x ≠ "__name__" → mb x = bootBuiltins x) (lim : st.heap.NoLimit) (gn : st.gens = #[])
    (ha : st.heap.get? a = some { cls := .type "list", data := .seq vs.toArray }) (hi : IntsAre vs ns) (few : ns.length ≤ sizeLine) (hr : RoomG k callerA)
    (F : ∀ base : Heap, K.In base → base.Ns mainGlobals mg → FnG P w K mg base CX k fa fd [x] sp) (bnd : ∀ (s : Shared) (u : Value), BindsTo s fd ⟨[u], []⟩ [(x, u)])
    (hsp : ∀ H : Hp, SqL K H a (ns.map V.int) → sp [.ref a] H (fun v _ => v = .bl true) fun _ _ _ => False) (hCX : ∀ H e s', CX [] H st (fun _ _ _ => False) e s' → False) :
    codeAny (model P w) callerA (.call (.ref fa) ⟨[.ref a], []⟩) (fun r s' => r = .ok (.ret (.bool true)) ∧ OldK st.heap s'.heap ∧ s'.os = st.os ∧ AllBare s'.gens) st := by
  have rv := vals_ints hi
  have nv := hi.length
  have main : ∀ H : Hp, Only H → SqL K H a (ns.map V.int) → HOk P w H st.heap → (∀ b, H b ≠ none → b = a) → (H a ≠ none → K.lookup a = none) → codeAny (model P w) callerA (.call (.ref fa) ⟨[.ref a], []⟩) (fun r s' => r = .ok (.ret (.bool true)) ∧ OldK st.heap s'.heap ∧ s'.os = st.os ∧ AllBare s'.gens) st := by
    intro H only sq hok only1 notK
    have isA : ∀ {b : Addr} {u : HO}, H b = some u → b = a := fun q => only1 _ (by rw [q]; exact Option.some_ne_none _)
    have hid : ∀ {b : Addr} {o : Obj}, st.heap.get? b = some o → H b = none → (hidT st.heap H).get? b = some o := hidT_get
    have dictN : ∀ {b : Addr} {o : Obj} {es : Array DictEntry} {ep : Nat}, st.heap.get? b = some o → o.data = .dict es ep → H b = none := by
      intro b o es ep e d
      refine Option.eq_none_iff_forall_ne_some.mpr fun u q => ?_
      have eb := isA q
      subst eb
      have eo := Option.some.inj (ha.symm.trans e)
      subst eo
      exact absurd d (by intro z; cases z)
    have nsK : ∀ {b : Addr} {m : Str → Option Value}, st.heap.Ns b m → (hidT st.heap H).Ns b m := by
      rintro b m ⟨o, es, ep, e, d, r⟩
      exact ⟨o, es, ep, hid e (dictN e d), d, r⟩
    have inK : K.In (hidT st.heap H) := by
      intro b o e
      refine hid (KX b o e) (Option.eq_none_iff_forall_ne_some.mpr fun u q => ?_)
      have eb := isA q
      subst eb
      rw [notK (by rw [q]; exact Option.some_ne_none _)] at e
      cases e
    obtain ⟨mc, l1, l2⟩ := lim
    have md : Mod K mg (hidT st.heap H) := ⟨inK, nsK g1, ⟨mb, nsK g2, g3⟩, ⟨mc, nsK l1, l2⟩⟩
    have e0 : Env0 P w K mg (hidT st.heap H) callerA [] st H := ⟨rfl, md, fun _ _ e => of_hidT e, Nat.le_of_eq (hidT_size _ _), trivial, fun b m => absurd m List.not_mem_nil, hok, .of_eq gn⟩
    have run := (F _ inK (nsK g1)).run callerA [] st H ⟨[.ref a], []⟩ [.ref a] [.ref a] _ _ hr e0 (bnd st (.ref a)) (.cons rfl .nil) (hsp H sq)
    refine codeAny_mono run fun r s' z => ?_
    match r, z with
    | .error e, z => exact (hCX H e s' z).elim
    | .ok .next, z => exact z.elim
    | .ok .brk, z => exact z.elim
    | .ok .cont, z => exact z.elim
    | .ok (.ret u), z =>
      obtain ⟨v, H', os, bare, un, hok', rr, qv⟩ := z
      have qv : v = .bl true := qv
      subst qv
      have eu : u = Value.bool true := rr
      subst eu
      refine ⟨rfl, OldK.of_keep fun b o e => ?_, os, bare⟩
      cases q : H b with
      | none => exact un.keep b o e q (fun m => absurd m List.not_mem_nil) List.not_mem_nil
      | some u =>
        rcases only b with z | ⟨ob, xs, z⟩
        · rw [q] at z; cases z
        · obtain ⟨o1, _⟩ := hok b _ z
          obtain ⟨o2, _⟩ := hok' b _ (un.frzs b ob _ z)
          rw [Option.some.inj (e.symm.trans o1)]
          exact o2
  cases hk : K.lookup a with
  | some o =>
    have eo := Option.some.inj ((KX a o hk).symm.trans ha)
    subst eo
    exact main (fun _ => none) (fun _ => .inl rfl) (.inr ⟨_, vs.toArray, _, hk, rfl, rfl, rfl, by rw [List.size_toArray, nv]; exact few, by simpa using rv⟩) (fun b u z => by have zz : (none : Option HO) = some u := z; cases zz) (fun b z => absurd rfl z) fun z => absurd rfl z
  | none =>
    have at1 : ∀ {b : Addr} {u : HO}, (if b = a then some (HO.frz { cls := .type "list", data := .seq vs.toArray } (.lst (ns.map V.int))) else none) = some u → b = a := by
      intro b u z
      by_cases c : b = a
      · exact c
      · rw [if_neg c] at z; cases z
    refine main (fun b => if b = a then some (.frz { cls := .type "list", data := .seq vs.toArray } (.lst (ns.map V.int))) else none) (fun b => ?_) (.inl (.inr ⟨_, if_pos rfl⟩)) (fun b u z => ?_) (fun b z => ?_) fun _ => hk
    · by_cases c : b = a
      · exact .inr ⟨_, _, if_pos c⟩
      · exact .inl (if_neg c)
    · have eb := at1 z
      subst eb
      dsimp only at z
      rw [if_pos rfl] at z
      cases z
      exact ⟨ha, by rw [List.length_map]; exact few, vs, _, rv, ha⟩
    · cases q : (if b = a then some (HO.frz { cls := .type "list", data := .seq vs.toArray } (.lst (ns.map V.int))) else none) with
      | none => exact absurd q z
      | some u => exact at1 q
end L2
namespace Ck
open PySem PySem.Spec PyProof.Rows L2
end Ck
namespace Wk
open PySem PySem.Spec PyProof.Rows L2 Ck
theorem the_walkG {l : PySem.W.OpenLaw} {q : Program} {loose : List Str} {XP : (Str → Option Value) → Heap → Prop} {YP : World → Heap → Prop} {d : DefRec} {K : Params → PySem.W.Frag} {n : Nat} {sp : PySem.W.Frag → Sp} (hs : ∀ (K : PySem.W.Frag) (a : Addr) (ns : List Int) (H : Hp) (Q : VK) (E : XK), SqL K H a (ns.map V.int) → ns.length ≤ 63 → (∀ H', Q (.bl true) H') → sp K [.ref a] H Q E) (hr : Room n callerA) (hn : l.most = some 63) (hdf : d.params.defaults = [])
    (hY : ∀ (w : World) (h : Heap), YP w h → (K w.params).In h)
    (F : ∀ (w : World) (mg : Str → Option Value) (fa : Addr) (h : Heap), (K w.params).In h → h.Ns mainGlobals mg → mg d.name = some (.ref fa) →
      ∃ fd : FuncData, (∀ (s : Shared) (u : Value), BindsTo s fd ⟨[u], []⟩ [("_law_script", u)]) ∧ ∀ base : Heap, (K w.params).In base → base.Ns mainGlobals mg → FnG l.prog w (K w.params) mg base (L2.CX l.prog w) n fa fd ["_law_script"] (sp (K w.params))) :
    PySem.W.WalkO q loose XP YP l.row.toRowW d [] (fun f vs => PySem.call f vs) := by
  refine Att.attach_call hn hdf fun w s0 s1 mg mb fa o pm cd doc a vs ns G Y ho hd hcd hm hob hin hln hgn => ?_
  obtain ⟨fd, hb, hF⟩ := F w mg fa _ (hY w _ Y) G.T.g hm
  exact top_callG (hY w _ Y) G.T.g G.T.b G.T.builtins G.T.nolimit hgn hob hin (Nat.le_trans hln (by decide)) ⟨hr, rfl⟩ hF hb (fun H sq => hs _ a ns H _ _ sq hln fun _ => rfl) fun H e s' ⟨_, _, _, _, _, _, _, _, _, _, _, _, z⟩ => z
end Wk

/-! Trees as data that can be compared; lists of trees. (The texts of k03 have the same under the names Ana9 .. Ana11.) -/
namespace Ck
open PySem PySem.Spec PyProof.Rows L2
structure Strs (C W known : List Str) : Prop where
  c : ∀ z ∈ C, PyData.strOk z = true
  w : ∀ z ∈ W, PyData.strOk z = true
  k : ∀ z ∈ known, PyData.strOk z = true
def Nm (C W known : List Str) (t : Tr) : Prop := ∃ N M i l, Okt C W N M known i l t
theorem strs_name {z : Str} (h : nameOk z = true) : PyData.strOk z = true := by
  unfold nameOk at h
  simp only [Bool.and_eq_true] at h
  have a := h.2.1
  have a2 : (z.cps.all fun x => decide (x < 128)) = true := a
  unfold PyData.strOk
  rw [Array.all_eq_true] at a2 ⊢
  intro i hi
  have := of_decide_eq_true (a2 i hi)
  exact decide_eq_true (by omega)
def LayT (t : T) (n : Nat) : Prop := (toD t).canLay0 = true ∧ (toD t).depth ≤ n
def LayTs (ts : List T) (n : Nat) : Prop := PyData.canLayAll0 (toDs ts) = true ∧ PyData.depthAll (toDs ts) ≤ n
theorem LayTs.nil {n : Nat} : LayTs [] n := ⟨rfl, Nat.zero_le _⟩
theorem LayTs.cons {t : T} {ts : List T} {n : Nat} (h : LayT t n) (g : LayTs ts n) : LayTs (t :: ts) n := by
  constructor
  · show ((toD t).canLay0 && PyData.canLayAll0 (toDs ts)) = true
    rw [h.1, g.1]
    rfl
  · show max (toD t).depth (PyData.depthAll (toDs ts)) ≤ n
    have := h.2
    have := g.2
    omega
theorem LayTs.tup {ts : List T} {n : Nat} (h : LayTs ts n) : LayT (.tup ts) (n + 1) := ⟨by show PyData.canLay0 (.tuple (toDs ts)) = true; rw [PyData.canLay0]; exact h.1, by show PyData.depth (.tuple (toDs ts)) ≤ n + 1; rw [PyData.depth]; exact Nat.succ_le_succ h.2⟩
theorem LayT.str {z : Str} {n : Nat} (h : PyData.strOk z = true) : LayT (.str z) n := ⟨by show PyData.canLay0 (.str z) = true; rw [PyData.canLay0]; exact h, Nat.zero_le _⟩
theorem LayT.int {i : Int} {n : Nat} : LayT (.int i) n := ⟨rfl, Nat.zero_le _⟩
theorem LayT.bl {i : Bool} {n : Nat} : LayT (.bl i) n := ⟨rfl, Nat.zero_le _⟩
theorem LayT.non {n : Nat} : LayT .non n := ⟨rfl, Nat.zero_le _⟩
theorem LayT.up {t : T} {n m : Nat} (h : LayT t n) (l : n ≤ m) : LayT t m := ⟨h.1, Nat.le_trans h.2 l⟩
theorem LayTs.ks : ∀ {ks : List Tr}, (∀ k ∈ ks, LayT (enc k) (2 * ht k)) → LayTs (encs ks) (2 * hts ks)
  | [], _ => LayTs.nil
  | k :: ks, h => by
    have a := h k List.mem_cons_self
    have b := LayTs.ks (ks := ks) fun k m => h k (List.mem_cons_of_mem _ m)
    have e : 2 * hts (k :: ks) = 2 * max (ht k) (hts ks) := rfl
    rw [e]
    exact .cons (a.up (by omega)) ⟨b.1, Nat.le_trans b.2 (by omega)⟩
theorem so_run : PyData.strOk "run" = true := by decide +kernel
theorem lay_of {C W known : List Str} {N M : Int} (S : Strs C W known) {i : Bool} {l : Nat} {t : Tr} (h : Okt C W N M known i l t) : LayT (enc t) (2 * ht t) := by
  have kd1 : ∀ {a : Tr}, LayT (enc a) (2 * ht a) → LayT (enc a) (2 * hts [a] + 1) := fun {a} h => h.up (by show 2 * ht a ≤ 2 * max (ht a) 0 + 1; omega)
  induction h with
  | @run i l c m => (show LayT (T.tup [_, _]) (1 + 1); exact LayTs.tup (.cons (.str (by decide +kernel)) (.cons (.str (S.c c m)) .nil)))
  | status _ _ => (show LayT (T.tup [_, _]) (1 + 1); exact LayTs.tup (.cons (.str (by decide +kernel)) (.cons .int .nil)))
  | @var i l w v e m => rcases e with rfl | rfl | rfl <;> (show LayT (T.tup [_, _]) (1 + 1); exact LayTs.tup (.cons (.str (by decide +kernel)) (.cons (.str (S.w v m)) .nil)))
  | @put i l v n m _ _ => (show LayT (T.tup [_, _, _]) (1 + 1); exact LayTs.tup (.cons (.str (by decide +kernel)) (.cons (.str (S.w v m)) (.cons .int .nil))))
  | @option i l z b e => rcases e with rfl | rfl <;> (show LayT (T.tup [_, _, _]) (1 + 1); exact LayTs.tup (.cons (.str (by decide +kernel)) (.cons (.str (by decide +kernel)) (.cons .bl .nil))))
  | jump e _ _ => rcases e with rfl | rfl <;> (show LayT (T.tup [_, _]) (1 + 1); exact LayTs.tup (.cons (.str (by decide +kernel)) (.cons .int .nil)))
  | ret0 => (show LayT (T.tup [_, _]) (1 + 1); exact LayTs.tup (.cons (.str (by decide +kernel)) (.cons .non .nil)))
  | ret _ _ => (show LayT (T.tup [_, _]) (1 + 1); exact LayTs.tup (.cons (.str (by decide +kernel)) (.cons .int .nil)))
  | exit0 => (show LayT (T.tup [_, _]) (1 + 1); exact LayTs.tup (.cons (.str (by decide +kernel)) (.cons .non .nil)))
  | exit _ _ => (show LayT (T.tup [_, _]) (1 + 1); exact LayTs.tup (.cons (.str (by decide +kernel)) (.cons .int .nil)))
  | @call i l f m => (show LayT (T.tup [_, _]) (1 + 1); exact LayTs.tup (.cons (.str (by decide +kernel)) (.cons (.str (S.k f m)) .nil)))
  | @seq i l ks _ _ ih =>
    have z : LayT (enc (.mk true "seq" [] ks [])) (2 * hts ks + 1 + 1) := LayTs.tup (.cons (.str (by decide +kernel)) (.cons (LayTs.ks ih).tup .nil))
    exact z.up (by show 2 * hts ks + 1 + 1 ≤ 2 * (1 + hts ks); omega)
  | @pipe i l ks _ _ ih =>
    have z : LayT (enc (.mk true "pipe" [] ks [])) (2 * hts ks + 1 + 1) := LayTs.tup (.cons (.str (by decide +kernel)) (.cons (LayTs.ks ih).tup .nil))
    exact z.up (by show 2 * hts ks + 1 + 1 ≤ 2 * (1 + hts ks); omega)
  | @andor i l w a b e _ _ ia ib =>
    have z : LayTs (encs [a, b]) (2 * hts [a, b]) := LayTs.ks (all_two (p := fun k => LayT (enc k) (2 * ht k)) ia ib)
    have so : PyData.strOk w = true := by rcases e with rfl | rfl <;> decide +kernel
    exact ((LayTs.cons (.str so) z).tup).up (by show 2 * hts [a, b] + 1 ≤ 2 * (1 + hts [a, b]); omega)
  | @not i l a _ ia =>
    have z : LayTs (encs [a]) (2 * hts [a]) := LayTs.ks (all_one (p := fun k => LayT (enc k) (2 * ht k)) ia)
    exact ((LayTs.cons (.str (z := "not") (by decide +kernel)) z).tup).up (by show 2 * hts [a] + 1 ≤ 2 * (1 + hts [a]); omega)
  | @ife i l c a b _ _ _ ic ia ib =>
    have z : LayTs (encs [c, a, b]) (2 * hts [c, a, b]) := LayTs.ks (all_three (p := fun k => LayT (enc k) (2 * ht k)) ic ia ib)
    exact ((LayTs.cons (.str (z := "if") (by decide +kernel)) z).tup).up (by show 2 * hts [c, a, b] + 1 ≤ 2 * (1 + hts [c, a, b]); omega)
  | @if1 i l c a _ _ ic ia =>
    have z : LayTs (encs [c, a]) (2 * hts [c, a]) := LayTs.ks (all_two (p := fun k => LayT (enc k) (2 * ht k)) ic ia)
    have zc := z
    have y : LayTs [.str "if", enc c, enc a, .non] (2 * hts [c, a]) := .cons (.str (by decide +kernel)) (.cons (ic.up (by show 2 * ht c ≤ 2 * max (ht c) (max (ht a) 0); omega)) (.cons (ia.up (by show 2 * ht a ≤ 2 * max (ht c) (max (ht a) 0); omega)) (.cons .non .nil)))
    exact y.tup.up (by show 2 * hts [c, a] + 1 ≤ 2 * (1 + hts [c, a]); omega)
  | @whl i l w a b e _ _ ia ib =>
    have z : LayTs (encs [a, b]) (2 * hts [a, b]) := LayTs.ks (all_two (p := fun k => LayT (enc k) (2 * ht k)) ia ib)
    have so : PyData.strOk w = true := by rcases e with rfl | rfl <;> decide +kernel
    exact ((LayTs.cons (.str so) z).tup).up (by show 2 * hts [a, b] + 1 ≤ 2 * (1 + hts [a, b]); omega)
  | @times i l n b _ _ _ ib =>
    have z : LayTs (encs [b]) (2 * hts [b]) := LayTs.ks (all_one (p := fun k => LayT (enc k) (2 * ht k)) ib)
    exact ((LayTs.cons (.str (z := "times") (by decide +kernel)) (.cons .int z)).tup).up (by show 2 * hts [b] + 1 ≤ 2 * (1 + hts [b]); omega)
  | @trap0 i l z e => rcases e with rfl | rfl <;> (show LayT (T.tup [_, _, _]) (1 + 1); exact LayTs.tup (.cons (.str (by decide +kernel)) (.cons (.str (by decide +kernel)) (.cons .non .nil))))
  | @trap i l y b e _ ib =>
    have z : LayTs (encs [b]) (2 * hts [b]) := LayTs.ks (all_one (p := fun k => LayT (enc k) (2 * ht k)) ib)
    have so : PyData.strOk y = true := by rcases e with rfl | rfl <;> decide +kernel
    exact ((LayTs.cons (.str (z := "trap") (by decide +kernel)) (.cons (.str so) z)).tup).up (by show 2 * hts [b] + 1 ≤ 2 * (1 + hts [b]); omega)
  | @sub i l b _ ib =>
    have z : LayTs (encs [b]) (2 * hts [b]) := LayTs.ks (all_one (p := fun k => LayT (enc k) (2 * ht k)) ib)
    exact ((LayTs.cons (.str (z := "sub") (by decide +kernel)) z).tup).up (by show 2 * hts [b] + 1 ≤ 2 * (1 + hts [b]); omega)
section
variable {X : Cx} {P : Program} {w : World} {K : PySem.W.Frag} {mg : Str → Option Value} {base : Heap} {H H1 H2 : Hp} {l : Addr} {dR dS : Addr} {adr : Kind → Addr} {C W known : List Str}
def StrT (t : Tr) : Prop := ∃ C W known, Strs C W known ∧ Nm C W known t
theorem rows_td {C W : List Str} {N M : Int} (c : CondW C W N M) : ∀ {rs : Rows} {fs : List (Str × Int)}, RowsOk C W N M fs rs → (∀ q ∈ fs.map (·.1), PyData.strOk q = true) → ∀ r ∈ rs, StrT r.2 ∧ nameOk r.1 = true
  | r :: rs, fs, ok, fn, q, m => by
    obtain ⟨n, _, o, _, hh, rest⟩ := ok
    rcases List.mem_cons.mp m with rfl | m
    · exact ⟨⟨C, W, _, ⟨fun z m => strs_name (c.c z m), fun z m => strs_name (c.v z m), fn⟩, _, _, _, _, o⟩, n⟩
    · refine rows_td c rest (fun z m => ?_) q m
      rw [List.map_append] at m
      rcases List.mem_append.mp m with m | m
      · exact fn z m
      · rw [show z = r.1 from List.mem_singleton.mp m]
        exact strs_name n
theorem grown_fst : ∀ (rows : Rows) (fs : List (Str × Int)), (grown fs rows).map (·.1) = fs.map (·.1) ++ rows.map (·.1)
  | [], fs => (List.append_nil _).symm
  | r :: rs, fs => by
    show (grown (fs ++ [(r.1, unf fs r.2)]) rs).map (·.1) = _
    rw [grown_fst rs, List.map_append, List.append_assoc]
    rfl
end
end Ck

/-! How long the texts of trees are, and of rows of trees. -/
namespace Ck
open PySem PySem.Spec PyProof.Rows L2
mutual
def tx : T → Nat
  | .non => 4
  | .bl _ => 5
  | .int i => (toString i : Str).length
  | .str z => (reprText z).length
  | .tup ts => txs ts + 3
  | .odd _ => 4
def txs : List T → Nat
  | [] => 0
  | t :: ts => tx t + 2 + txs ts
end
theorem shown_two : ∀ ts : List T, ((PyData.shownAll (toDs ts)).map (·.length)).sum + 2 * (PyData.shownAll (toDs ts)).length ≤ txs ts → (PyData.shown (.tuple (toDs ts))).length ≤ txs ts + 3 := by
  intro ts h
  rw [PyData.shown]
  have := tupleText_len_le (PyData.shownAll (toDs ts))
  omega
mutual
theorem shown_le : ∀ t : T, (toD t).shown.length ≤ tx t
  | .non => by show (PyData.shown .none).length ≤ 4; rw [PyData.shown]; decide +kernel
  | .bl b => by show (PyData.shown (.bool b)).length ≤ 5; rw [PyData.shown]; cases b <;> decide +kernel
  | .int i => by show (PyData.shown (.int i)).length ≤ (toString i : Str).length; rw [PyData.shown]; exact Nat.le_refl _
  | .str z => by show (PyData.shown (.str z)).length ≤ (reprText z).length; rw [PyData.shown]; exact Nat.le_refl _
  | .tup ts => shown_two ts (shown_les ts)
  | .odd _ => by show (PyData.shown .none).length ≤ 4; rw [PyData.shown]; decide +kernel
theorem shown_les : ∀ ts : List T, ((PyData.shownAll (toDs ts)).map (·.length)).sum + 2 * (PyData.shownAll (toDs ts)).length ≤ txs ts
  | [] => by show ((PyData.shownAll []).map (·.length)).sum + 2 * (PyData.shownAll []).length ≤ 0; rw [PyData.shownAll]; exact Nat.le_refl 0
  | t :: ts => by
    have h1 := shown_le t
    have h2 := shown_les ts
    show ((PyData.shownAll (toD t :: toDs ts)).map (·.length)).sum + 2 * (PyData.shownAll (toD t :: toDs ts)).length ≤ tx t + 2 + txs ts
    rw [PyData.shownAll, List.map_cons, List.sum_cons, List.length_cons]
    omega
end
theorem txs_app : ∀ a b : List T, txs (a ++ b) = txs a + txs b
  | [], b => by show txs b = 0 + txs b; omega
  | t :: a, b => by
    have := txs_app a b
    show tx t + 2 + txs (a ++ b) = tx t + 2 + txs a + txs b
    omega
theorem tx_int {i : Int} (h0 : 0 ≤ i) (h1 : i ≤ 1000) : tx (.int i) ≤ 20 := by
  have p : ∀ n : Fin 1001, (toString ((n.val : Nat) : Int) : Str).length ≤ 20 := by decide +kernel
  obtain ⟨n, rfl⟩ := Int.eq_ofNat_of_zero_le h0
  exact p ⟨n, by omega⟩
theorem tx_ok {z : Str} (h : PyData.strOk z = true) : tx (.str z) ≤ 10 * z.length + 2 := by
  refine StrLaws.reprText_len z fun c m => ?_
  unfold PyData.strOk at h
  rw [Array.all_eq_true] at h
  obtain ⟨i, hi, e⟩ := List.getElem_of_mem m
  have q := of_decide_eq_true (h i (by simpa using hi))
  have e2 : z.cps[i]'(by simpa using hi) = c := by rw [← e]; simp
  rw [e2] at q
  exact Nat.lt_of_lt_of_le q (by decide)
/-- short names -/
def Sht (zs : List Str) : Prop := ∀ z ∈ zs, tx (.str z) ≤ 130
theorem sht_name {z : Str} (h : nameOk z = true) : tx (.str z) ≤ 130 := by
  have := tx_ok (strs_name h)
  unfold nameOk at h
  rw [Bool.and_eq_true] at h
  have := of_decide_eq_true h.1
  omega
section
variable {C V known : List Str} {N M : Int}
theorem tx_false {w : Str} {pre post : List T} {ks : List Tr} (hw : tx (.str w) ≤ 20) (hp : txs pre + txs post ≤ 200) (hk : txs (encs ks) ≤ 300 * cnts ks) : tx (enc (.mk false w pre ks post)) + 2 ≤ 300 * cnt (.mk false w pre ks post) := by
  show tx (.str w) + 2 + txs (pre ++ (encs ks ++ post)) + 3 + 2 ≤ 300 * (1 + cnts ks)
  rw [txs_app, txs_app]
  omega
theorem tx_true {w : Str} {pre post : List T} {ks : List Tr} (hw : tx (.str w) ≤ 20) (hk : txs (encs ks) ≤ 300 * cnts ks) : tx (enc (.mk true w pre ks post)) + 2 ≤ 300 * cnt (.mk true w pre ks post) := by
  show tx (.str w) + 2 + (txs (encs ks) + 3 + 2 + 0) + 3 + 2 ≤ 300 * (1 + cnts ks)
  omega
theorem txs_kids : ∀ {ks : List Tr}, (∀ k ∈ ks, tx (enc k) + 2 ≤ 300 * cnt k) → txs (encs ks) ≤ 300 * cnts ks
  | [], _ => Nat.zero_le _
  | k :: ks, h => by
    have a := h k List.mem_cons_self
    have b := txs_kids (ks := ks) fun q m => h q (List.mem_cons_of_mem _ m)
    show tx (enc k) + 2 + txs (encs ks) ≤ 300 * (cnt k + cnts ks)
    omega
theorem txs_none : txs (encs []) ≤ 300 * cnts [] := Nat.le_refl 0
theorem ht_kids {b : Bool} {w : Str} {pre post : List T} {ks : List Tr} {k : Tr} (m : k ∈ ks) : ht k + 1 ≤ ht (.mk b w pre ks post) := by
  have go : ∀ {ks : List Tr}, k ∈ ks → ht k ≤ hts ks := by
    intro ks
    induction ks with
    | nil => intro m; cases m
    | cons q ks ih =>
      intro m
      show ht k ≤ max (ht q) (hts ks)
      rcases List.mem_cons.mp m with rfl | m
      · omega
      · have := ih m; omega
  have := go m
  show ht k + 1 ≤ 1 + hts ks
  omega
/-- how long the text of a tree is -/
theorem tx_tree (hC : Sht C) (hV : Sht V) (hK : Sht known) (hN : N ≤ 255) (hM : M ≤ 255) {i : Bool} {l : Nat} {t : Tr} (h : Okt C V N M known i l t) : l + ht t ≤ 900 → tx (enc t) + 2 ≤ 300 * cnt t := by
  have n1 : ∀ {z : Str}, tx (.str z) ≤ 130 → txs [.str z] + txs [] ≤ 200 := fun h => by show tx (.str _) + 2 + 0 + 0 ≤ 200; omega
  have i1 : ∀ {n : Int}, 0 ≤ n → n ≤ 1000 → txs [.int n] + txs [] ≤ 200 := fun a b => by
    have := tx_int a b
    show tx (.int _) + 2 + 0 + 0 ≤ 200
    omega
  induction h with
  | run m => exact fun _ => tx_false (by decide +kernel) (n1 (hC _ m)) txs_none
  | status a b => exact fun _ => tx_false (by decide +kernel) (i1 a (by omega)) txs_none
  | var e m => rcases e with rfl | rfl | rfl <;> exact fun _ => tx_false (by decide +kernel) (n1 (hV _ m)) txs_none
  | @put i l v n m a b =>
    intro _
    have := hV _ m
    have := tx_int a (by omega)
    exact tx_false (by decide +kernel) (by show tx (.str v) + 2 + (tx (.int n) + 2 + 0) + 0 ≤ 200; omega) txs_none
  | @option i l z b e =>
    intro _
    refine tx_false (by decide +kernel) ?_ txs_none
    show tx (.str z) + 2 + (5 + 2 + 0) + 0 ≤ 200
    have : tx (.str z) ≤ 20 := by rcases e with rfl | rfl <;> decide +kernel
    omega
  | jump e a b => 
    intro hh
    rcases e with rfl | rfl <;> exact tx_false (by decide +kernel) (i1 (by omega) (by omega)) txs_none
  | ret0 => exact fun _ => tx_false (by decide +kernel) (by decide) txs_none
  | ret a b => exact fun _ => tx_false (by decide +kernel) (i1 a (by omega)) txs_none
  | exit0 => exact fun _ => tx_false (by decide +kernel) (by decide) txs_none
  | exit a b => exact fun _ => tx_false (by decide +kernel) (i1 a (by omega)) txs_none
  | call m => exact fun _ => tx_false (by decide +kernel) (n1 (hK _ m)) txs_none
  | seq _ _ ih => exact fun hh => tx_true (by decide +kernel) (txs_kids fun k m => ih k m (by have := ht_kids (b := true) (w := "seq") (pre := []) (post := []) m; omega))
  | pipe _ _ ih => exact fun hh => tx_true (by decide +kernel) (txs_kids fun k m => ih k m (by have := ht_kids (b := true) (w := "pipe") (pre := []) (post := []) m; omega))
  | @andor i l w a b e _ _ ia ib =>
    intro hh
    have k := txs_kids (ks := [a, b]) (all_two (ia (by have := ht_kids (b := false) (w := w) (pre := []) (post := []) (k := a) (ks := [a, b]) (by simp); omega)) (ib (by have := ht_kids (b := false) (w := w) (pre := []) (post := []) (k := b) (ks := [a, b]) (by simp); omega)))
    rcases e with rfl | rfl <;> exact tx_false (by decide +kernel) (by decide) k
  | @not i l a _ ia =>
    intro hh
    exact tx_false (by decide +kernel) (by decide) (txs_kids (ks := [a]) (all_one (ia (by have := ht_kids (b := false) (w := "not") (pre := []) (post := []) (k := a) (ks := [a]) (by simp); omega))))
  | @ife i l c a b _ _ _ ic ia ib =>
    intro hh
    have g : ∀ k ∈ [c, a, b], ht k + 1 ≤ ht (.mk false "if" [] [c, a, b] []) := fun k m => ht_kids m
    exact tx_false (by decide +kernel) (by decide) (txs_kids (all_three (ic (by have := g c (by simp); omega)) (ia (by have := g a (by simp); omega)) (ib (by have := g b (by simp); omega))))
  | @if1 i l c a _ _ ic ia =>
    intro hh
    have g : ∀ k ∈ [c, a], ht k + 1 ≤ ht (.mk false "if" [] [c, a] [.non]) := fun k m => ht_kids m
    exact tx_false (by decide +kernel) (by decide) (txs_kids (all_two (ic (by have := g c (by simp); omega)) (ia (by have := g a (by simp); omega))))
  | @whl i l w c b e _ _ ic ib =>
    intro hh
    have g : ∀ k ∈ [c, b], ht k + 1 ≤ ht (.mk false w [] [c, b] []) := fun k m => ht_kids m
    have k := txs_kids (ks := [c, b]) (all_two (ic (by have := g c (by simp); omega)) (ib (by have := g b (by simp); omega)))
    rcases e with rfl | rfl <;> exact tx_false (by decide +kernel) (by decide) k
  | @times i l n b a0 a1 _ ib =>
    intro hh
    have g : ∀ k ∈ [b], ht k + 1 ≤ ht (.mk false "times" [.int n] [b] []) := fun k m => ht_kids m
    exact tx_false (by decide +kernel) (i1 a0 a1) (txs_kids (all_one (ib (by have := g b (by simp); omega))))
  | trap0 e =>
    intro _
    rcases e with rfl | rfl <;> exact tx_false (by decide +kernel) (by decide +kernel) txs_none
  | @trap i l z b e _ ib =>
    intro hh
    have g : ∀ k ∈ [b], ht k + 1 ≤ ht (.mk false "trap" [.str z] [b] []) := fun k m => ht_kids m
    have k := txs_kids (all_one (ib (by have := g b (by simp); omega)))
    rcases e with rfl | rfl <;> exact tx_false (by decide +kernel) (by decide +kernel) k
  | @sub i l b _ ib =>
    intro hh
    have g : ∀ k ∈ [b], ht k + 1 ≤ ht (.mk false "sub" [] [b] []) := fun k m => ht_kids m
    exact tx_false (by decide +kernel) (by decide) (txs_kids (all_one (ib (by have := g b (by simp); omega))))
end
end Ck

/-! repr of a program and a row. -/
namespace Ck
open PySem PySem.Spec PyProof.Rows L2
/-- what can be shown -/
def swT (t : T) : Prop := (toD t).showable = true
def swTs (ts : List T) : Prop := PyData.showableAll (toDs ts) = true
theorem swTs.nil : swTs [] := by show PyData.showableAll [] = true; rw [PyData.showableAll]
theorem swTs.cons {t : T} {ts : List T} (a : swT t) (b : swTs ts) : swTs (t :: ts) := by
  show PyData.showableAll (toD t :: toDs ts) = true
  rw [PyData.showableAll, show (toD t).showable = true from a, show PyData.showableAll (toDs ts) = true from b]
  rfl
theorem swT.tup {ts : List T} (a : swTs ts) : swT (.tup ts) := by
  show PyData.showable (.tuple (toDs ts)) = true
  rw [PyData.showable]
  exact a
theorem swT.str {z : Str} : swT (.str z) := by show PyData.showable (.str z) = true; rw [PyData.showable]
theorem swT.non : swT .non := by show PyData.showable .none = true; rw [PyData.showable]
theorem swT.bl {b : Bool} : swT (.bl b) := by show PyData.showable (.bool b) = true; rw [PyData.showable]
theorem log_small {n k : Nat} (h : n < 2 ^ k) (k0 : 0 < k) : n.log2 < k := by
  by_cases z : n = 0
  · rw [z]; exact Nat.lt_of_le_of_lt (by decide) k0
  · exact (Nat.log2_lt z).mpr h
theorem swT.int {i : Int} (h0 : 0 ≤ i) (h1 : i ≤ 10 ^ 20) : swT (.int i) := by
  show PyData.showable (.int i) = true
  rw [PyData.showable]
  have l : i.natAbs < 2 ^ 100 := by
    have : (10 : Int) ^ 20 < 2 ^ 100 := by decide +kernel
    omega
  exact decide_eq_true (Nat.lt_trans (log_small l (by decide)) (by decide))
theorem swTs.app {a b : List T} (h : swTs a) (g : swTs b) : swTs (a ++ b) := by
  induction a with
  | nil => exact g
  | cons t a ih =>
    have h : PyData.showableAll (toD t :: toDs a) = true := h
    rw [PyData.showableAll, Bool.and_eq_true] at h
    exact .cons h.1 (ih h.2)
section
variable {C V known : List Str} {N M : Int}
theorem swTs.kids : ∀ {ks : List Tr}, (∀ k ∈ ks, swT (enc k)) → swTs (encs ks)
  | [], _ => .nil
  | k :: ks, h => .cons (h k List.mem_cons_self) (swTs.kids fun q m => h q (List.mem_cons_of_mem _ m))
theorem sw_false {w : Str} {pre post : List T} {ks : List Tr} (a : swTs pre) (b : swTs post) (c : swTs (encs ks)) : swT (enc (.mk false w pre ks post)) := .tup (.cons .str (a.app (c.app b)))
theorem sw_true {w : Str} {pre post : List T} {ks : List Tr} (c : swTs (encs ks)) : swT (enc (.mk true w pre ks post)) := .tup (.cons .str (.cons (.tup c) .nil))
theorem sw_tree (hN : N ≤ 255) (hM : M ≤ 255) {i : Bool} {l : Nat} {t : Tr} (h : Okt C V N M known i l t) : l + ht t ≤ 900 → swT (enc t) := by
  have i1 : ∀ {n : Int}, 0 ≤ n → n ≤ 1000 → swTs [.int n] := fun a b => .cons (.int a (Int.le_trans b (by decide))) .nil
  induction h with
  | run m => exact fun _ => sw_false (.cons .str .nil) .nil .nil
  | status a b => exact fun _ => sw_false (i1 a (by omega)) .nil .nil
  | var e m => exact fun _ => sw_false (.cons .str .nil) .nil .nil
  | put m a b => exact fun _ => sw_false (.cons .str (i1 a (by omega))) .nil .nil
  | option e => exact fun _ => sw_false (.cons .str (.cons .bl .nil)) .nil .nil
  | jump e a b => exact fun hh => sw_false (i1 (by omega) (by omega)) .nil .nil
  | ret0 => exact fun _ => sw_false (.cons .non .nil) .nil .nil
  | ret a b => exact fun _ => sw_false (i1 a (by omega)) .nil .nil
  | exit0 => exact fun _ => sw_false (.cons .non .nil) .nil .nil
  | exit a b => exact fun _ => sw_false (i1 a (by omega)) .nil .nil
  | call m => exact fun _ => sw_false (.cons .str .nil) .nil .nil
  | seq _ _ ih => exact fun hh => sw_true (.kids fun k m => ih k m (by have := ht_kids (b := true) (w := "seq") (pre := []) (post := []) m; omega))
  | pipe _ _ ih => exact fun hh => sw_true (.kids fun k m => ih k m (by have := ht_kids (b := true) (w := "pipe") (pre := []) (post := []) m; omega))
  | @andor i l w a b e _ _ ia ib =>
    intro hh
    have g : ∀ k ∈ [a, b], ht k + 1 ≤ ht (.mk false w [] [a, b] []) := fun k m => ht_kids m
    exact sw_false .nil .nil (.kids (all_two (ia (by have := g a (by simp); omega)) (ib (by have := g b (by simp); omega))))
  | @not i l a _ ia =>
    intro hh
    have g : ∀ k ∈ [a], ht k + 1 ≤ ht (.mk false "not" [] [a] []) := fun k m => ht_kids m
    exact sw_false .nil .nil (.kids (all_one (ia (by have := g a (by simp); omega))))
  | @ife i l c a b _ _ _ ic ia ib =>
    intro hh
    have g : ∀ k ∈ [c, a, b], ht k + 1 ≤ ht (.mk false "if" [] [c, a, b] []) := fun k m => ht_kids m
    exact sw_false .nil .nil (.kids (all_three (ic (by have := g c (by simp); omega)) (ia (by have := g a (by simp); omega)) (ib (by have := g b (by simp); omega))))
  | @if1 i l c a _ _ ic ia =>
    intro hh
    have g : ∀ k ∈ [c, a], ht k + 1 ≤ ht (.mk false "if" [] [c, a] [.non]) := fun k m => ht_kids m
    exact sw_false .nil (.cons .non .nil) (.kids (all_two (ic (by have := g c (by simp); omega)) (ia (by have := g a (by simp); omega))))
  | @whl i l w c b e _ _ ic ib =>
    intro hh
    have g : ∀ k ∈ [c, b], ht k + 1 ≤ ht (.mk false w [] [c, b] []) := fun k m => ht_kids m
    exact sw_false .nil .nil (.kids (all_two (ic (by have := g c (by simp); omega)) (ib (by have := g b (by simp); omega))))
  | @times i l n b a0 a1 _ ib =>
    intro hh
    have g : ∀ k ∈ [b], ht k + 1 ≤ ht (.mk false "times" [.int n] [b] []) := fun k m => ht_kids m
    exact sw_false (i1 a0 a1) .nil (.kids (all_one (ib (by have := g b (by simp); omega))))
  | trap0 e => exact fun _ => sw_false (.cons .str .nil) (.cons .non .nil) .nil
  | @trap i l z b e _ ib =>
    intro hh
    have g : ∀ k ∈ [b], ht k + 1 ≤ ht (.mk false "trap" [.str z] [b] []) := fun k m => ht_kids m
    exact sw_false (.cons .str .nil) .nil (.kids (all_one (ib (by have := g b (by simp); omega))))
  | @sub i l b _ ib =>
    intro hh
    have g : ∀ k ∈ [b], ht k + 1 ≤ ht (.mk false "sub" [] [b] []) := fun k m => ht_kids m
    exact sw_false .nil .nil (.kids (all_one (ib (by have := g b (by simp); omega))))
/-! a program -/
theorem rows_rp (c : CondW C V N M) (hN : N ≤ 255) (hM : M ≤ 255) : ∀ {rs : Rows} {fs : List (Str × Int)}, RowsOk C V N M fs rs → (∀ q ∈ fs.map (·.1), nameOk q = true) → (∀ r ∈ rs, ht r.2 ≤ 20) → txs (rs.map encF) ≤ 300 * tot rs + 300 * rs.length ∧ swTs (rs.map encF) ∧ LayTs (rs.map encF) 42
  | [], fs, _, _, _ => ⟨Nat.zero_le _, .nil, .nil⟩
  | r :: rs, fs, ok, fn, h20 => by
    obtain ⟨n, _, o, _, hh, rest⟩ := ok
    have sk : Sht (fs.map (·.1)) := fun z m => sht_name (fn z m)
    have ih := rows_rp c hN hM (rs := rs) rest fun z m => by
      rw [List.map_append] at m
      rcases List.mem_append.mp m with m | m
      · exact fn z m
      · rw [show z = r.1 from List.mem_singleton.mp m]
        exact n
    obtain ⟨a, b, d⟩ := ih fun q m => h20 q (List.mem_cons_of_mem _ m)
    have hr := h20 r List.mem_cons_self
    have t := tx_tree (fun z m => sht_name (c.c z m)) (fun z m => sht_name (c.v z m)) sk hN hM o (by omega)
    have s := sw_tree hN hM o (by omega)
    have l := lay_of ⟨fun z m => strs_name (c.c z m), fun z m => strs_name (c.v z m), fun z m => strs_name (fn z m)⟩ o
    have nm := sht_name n
    refine ⟨?_, .cons (.tup (.cons .str (.cons s .nil))) b, .cons ((LayTs.tup (.cons (.str (strs_name n)) (.cons l .nil))).up (by omega)) d⟩
    show (tx (.str r.1) + 2 + (tx (enc r.2) + 2 + 0) + 3) + 2 + txs (rs.map encF) ≤ 300 * (cnt r.2 + tot rs) + 300 * (rs.length + 1)
    omega
/-- a program alone, as data -/
theorem plan_ok {rs : Rows} {m : Tr} (ok : ProgOk C V N M rs m) (hN : N ≤ 255) (hM : M ≤ 255) (hr : ∀ r ∈ rs, ht r.2 ≤ 20) (hm : ht m ≤ 20) : SeqAt.shaped (toD (encP rs m)) = true ∧ (toD (encP rs m)).showable = true ∧ (toD (encP rs m)).shown.length ≤ sizeLine := by
  obtain ⟨a, b, d⟩ := rows_rp ok.cd hN hM ok.rs (fun z m => by cases m) hr
  have hk : ∀ z ∈ (grown [] rs).map (·.1), nameOk z = true := fun z mz => by
    rw [grown_fst, List.map_nil, List.nil_append] at mz
    obtain ⟨r, mr, e⟩ := List.mem_map.mp mz
    rw [← e]
    exact (rows_td ok.cd ok.rs (fun q m => by cases m) r mr).2
  have t := tx_tree (fun z m => sht_name (ok.cd.c z m)) (fun z m => sht_name (ok.cd.v z m)) (fun z m => sht_name (hk z m)) hN hM ok.mn (by omega)
  have s := sw_tree hN hM ok.mn (by omega)
  have l := lay_of ⟨fun z m => strs_name (ok.cd.c z m), fun z m => strs_name (ok.cd.v z m), fun z m => strs_name (hk z m)⟩ ok.mn
  have lp : LayT (encP rs m) 45 := (LayTs.tup (.cons ((LayTs.tup d).up (Nat.le_refl 43)) (.cons (l.up (by omega)) .nil))).up (by decide)
  have sp : swT (encP rs m) := .tup (.cons (.tup b) (.cons s .nil))
  have tp : tx (encP rs m) ≤ 300 * tot rs + 300 * rs.length + 300 * cnt m + 20 := by
    show (txs (rs.map encF) + 3 + 2 + (tx (enc m) + 2 + 0)) + 3 ≤ _
    omega
  have sh := shown_le (encP rs m)
  refine ⟨?_, sp, ?_⟩
  · unfold SeqAt.shaped
    have c1 := lp.1
    have c2 := lp.2
    simp only [c1, Bool.true_and]
    exact decide_eq_true (by omega)
  · have := ok.tr
    have := ok.few
    rw [sizeLine_eq]
    omega
end
end Ck

/-! The law. -/
namespace W20
open PySem PySem.Spec PyProof.Rows L2 Ck Wk Cu
local macro_rules | `(tactic| bv_omega) => `(tactic| try dsimp only [L2.tRet, L2.tRetN, tAndV, tOrV, tNotV, tCB, L2.tCons, L2.tNil, tC, tVar, L2.tOp, L2.tUn, tSeq, tAsg, gName, tIfS, tTest, tNext, tAnd, tOr, tNot, L2.tIf, tFld, sFld, sFldAug, tCall, tTup, tB, tAug, tDrop, L2.tSl, tPart, tNoPart, tBM, tBM0, tChain, gTup, gCons, gNil, tPar, tIs, List.set, L2.start, iTup, L2.iList, L2.iRng1, tUn, tLst, tTest, gSub, tCall, L2.tIf, tCB, rRep, List.set, List.cons_append, List.nil_append, List.append_nil, cxOf, iEnumT, tCallK])

section
variable {P : Program} {w : World} {K : PySem.W.Frag} {mg : Str → Option Value} {base : Heap} {H H1 H2 H' : Hp} {l : Addr} {rs : Rows} {m : Tr} {v : V}
theorem ints_cutN (n : Int) (ns : List Int) : ∀ x ∈ cutV (ns.map V.int ++ [V.int 0]) none (some n), ∃ c : Int, x = .int c := by
  intro x hx
  unfold cutV at hx
  have h1 := List.mem_of_mem_take hx
  have h2 := List.mem_of_mem_drop h1
  rw [List.mem_append, List.mem_map] at h2
  rcases h2 with ⟨c, _, e⟩ | h2
  · exact ⟨c, e.symm⟩
  · exact ⟨0, by simpa using h2⟩
theorem sql_up' {a : Addr} {xs : List V} (h : SqL K H a xs) (x : Same H H') : SqL K H' a xs := by
  rcases h with h | h
  · rcases h with h | ⟨o, h⟩
    · exact .inl (.inl (x _ _ h))
    · exact .inl (.inr ⟨o, x _ _ h⟩)
  · exact .inr h
theorem RowsG.h20 : ∀ {rs : Rows} {fs : List (Str × Int)}, RowsG fs rs → ∀ r ∈ rs, ht r.2 ≤ 20
  | [], _, _, r, m => by cases m
  | q :: rs, fs, g, r, m => by
    obtain ⟨_, _, _, _, g5, g6⟩ := g
    rcases List.mem_cons.mp m with rfl | m
    · omega
    · exact RowsG.h20 g6 r m
theorem bds_len : ∀ (rs : Rows) (k : Nat), (bdsOf rs k).length = rs.length
  | [], _ => rfl
  | r :: rs, k => by
    show (bdsOf rs (k + 1)).length + 1 = rs.length + 1
    rw [bds_len rs (k + 1)]
theorem tot_mem : ∀ {rs : Rows} {r : Str × Tr}, r ∈ rs → cnt r.2 ≤ tot rs
  | [], _, m => by cases m
  | q :: rs, r, m => by
    show cnt r.2 ≤ cnt q.2 + tot rs
    rcases List.mem_cons.mp m with rfl | m
    · omega
    · have := tot_mem m
      omega
theorem LdP.top {K : PySem.W.Frag} {G : Hp} {t : Tr} {p : List Int} {sv : V} {p1 p2 : Addr} (pr : ∃ C W N M, ProgOk C W N M rs m) (d : Dat K G v (enc t)) (h1 : G p1 = some (.tup (p.map V.int))) (h2 : G p2 = some (.lst [])) (sh : optV K G sv (shellUp p [])) (it : InT rs m ⟨t, p⟩ []) (h20 : ht t ≤ 20) (cn : cnt t ≤ 3000) (ok : ∃ C W N M kn i, Okt C W N M kn i 0 t) : LdP K G rs m v p1 p2 sv ⟨t, p⟩ [] [] 20 := by
  obtain ⟨C, W, N, M, pr⟩ := pr
  obtain ⟨C2, W2, N2, M2, kn, i, o⟩ := ok
  exact ⟨d, h1, ⟨[], h2, .nil⟩, sh, it, ⟨_, _, _, _, _, _, 0, o, fun n a b => by omega⟩, h20, it.short pr, Nat.le_refl _, cn⟩
/-- one list more -/
theorem cat_use {K : PySem.W.Frag} {G : Hp} {fk D2 : Addr} {us : List V} {ts ts2 : List T} {Q : VK} (hf : G fk = some (.lst us)) (du : Dats K G us ts) (l2 : LD K G D2 ts2) (few : (ts ++ ts2).length ≤ 3000) (q : ∀ p us' H', Same G H' → G p = none → H' p = some (.lst us') → Dats K H' us' (ts ++ ts2) → Q (.ref p) H') : rCatL K (.ref fk) (.ref D2) G Q := by
  obtain ⟨us2, h2, d2⟩ := l2
  have b1 := du.len
  have b2 := d2.len
  rw [List.length_append] at few
  exact ⟨fk, D2, us, us2, rfl, rfl, SqL.of hf, h2, by rw [sizeLine_eq]; omega, fun p np => q p _ _ (same_new np) np upd_same ((du.app d2).up (same_stay (same_new np)))⟩
theorem dats_dp {K : PySem.W.Frag} {G : Hp} : ∀ {ts : List T} {us : List V}, Dats K G us ts → DpAll K G us (toDs ts)
  | [], us, h => by
    obtain rfl := dats_nil h
    exact .nil
  | t :: ts, us, h => by
    obtain ⟨x, r, rfl, d, ds⟩ := dats_cons h
    exact .cons (d.im.dp d.fl) (dats_dp ds)
theorem ints_lay : ∀ p : List Int, PyData.canLayAll0 (toDs (p.map T.int)) = true ∧ PyData.depthAll (toDs (p.map T.int)) ≤ 1
  | [] => ⟨rfl, by decide⟩
  | i :: p => by
    obtain ⟨a, b⟩ := ints_lay p
    refine ⟨?_, ?_⟩
    · show PyData.canLayAll0 (.int i :: toDs (p.map T.int)) = true
      simp only [PyData.canLay0, PyData.canLayAll0, a, Bool.and_self]
    · show PyData.depthAll (.int i :: toDs (p.map T.int)) ≤ 1
      simp only [PyData.depth, PyData.depthAll]
      omega
theorem path_lay (p : List Int) : PyData.canLay0 (toD (pthT p)) = true ∧ PyData.depth (toD (pthT p)) ≤ 2 := by
  obtain ⟨a, b⟩ := ints_lay p
  refine ⟨?_, ?_⟩
  · show PyData.canLay0 (.tuple (toDs (p.map T.int))) = true
    simp only [PyData.canLay0, a]
  · show PyData.depth (.tuple (toDs (p.map T.int))) ≤ 2
    simp only [PyData.depth]
    omega
theorem opt_lay : ∀ o : Option (List Int), PyData.canLay0 (toD (optT o)) = true ∧ PyData.depth (toD (optT o)) ≤ 2
  | none => ⟨rfl, by decide⟩
  | some p => path_lay p
theorem ent_lay (p : List Int) (o : Option (List Int)) : PyData.canLay0 (toD (entT p o)) = true ∧ PyData.depth (toD (entT p o)) ≤ 3 := by
  obtain ⟨a, b⟩ := path_lay p
  obtain ⟨c, d⟩ := opt_lay o
  refine ⟨?_, ?_⟩
  · show PyData.canLay0 (.tuple [toD (pthT p), toD (optT o)]) = true
    simp only [PyData.canLay0, PyData.canLayAll0, a, c, Bool.and_self]
  · show PyData.depth (.tuple [toD (pthT p), toD (optT o)]) ≤ 3
    simp only [PyData.depth, PyData.depthAll]
    omega
theorem lds_lay {ns : List Nd} {ts : List T} (h : Lds rs m ns ts) : PyData.canLayAll0 (toDs ts) = true ∧ PyData.depthAll (toDs ts) ≤ 3 := by
  induction h with
  | nil => exact ⟨rfl, by decide⟩
  | @cons nd anc ns ts t _ ih =>
    obtain ⟨a, b⟩ := ih
    unfold entsOf
    split
    · exact ⟨a, b⟩
    · rename_i o _
      obtain ⟨c, d⟩ := ent_lay nd.p o
      refine ⟨?_, ?_⟩
      · show PyData.canLayAll0 (toD (entT nd.p o) :: toDs ts) = true
        simp only [PyData.canLayAll0, a, c, Bool.and_self]
      · show PyData.depthAll (toD (entT nd.p o) :: toDs ts) ≤ 3
        simp only [PyData.depthAll]
        omega
theorem lists_ne {K : PySem.W.Frag} {G : Hp} {a b : Addr} {us vs : List V} {ts : List T} {ns : List Nd} {Q : VK} (l : Lds rs m ns ts) (ha : G a = some (.lst us)) (hb : G b = some (.lst vs)) (d1 : Dats K G us ts) (d2 : Dats K G vs ts) (q : Q (.bl false) G) : rNeD K (.ref a) (.ref b) G Q := by
  obtain ⟨c1, c2⟩ := lds_lay l
  have sh : SeqAt.shaped (.list (toDs ts)) = true := by
    unfold SeqAt.shaped
    simp only [PyData.canLay0, PyData.depth, c1, Bool.true_and]
    exact decide_eq_true (by omega)
  refine ⟨.list (toDs ts), .list (toDs ts), .lst (.inl (.inl ha)) (dats_dp d1), .lst (.inl (.inl hb)) (dats_dp d2), sh, sh, ?_⟩
  rw [SeqAt.eqv_refl _ (SeqAt.canLay_of_shaped sh)]
  exact q
abbrev s_law : Stmt := topS 73
abbrev NLaw : List Str := ["_law_script", "_law_cell", "_law_source_here", "_law_turn", "_law_plan_here", "_law_due", "_law_shape", "_law_k", "_law_title", "_law_body", "_law_told"]
theorem sc_law : FnScope NLaw ["_law_script"] (defScope s_law) := ⟨rfl, rfl, rfl, by decide +kernel, rfl, by decide +kernel, by decide +kernel⟩
def spLaw (K : PySem.W.Frag) : Sp := fun vs H Q _ => ∃ (a : Addr) (ns : List Int), vs = [.ref a] ∧ SqL K H a (ns.map V.int) ∧ ns.length ≤ 63 ∧ ∀ H', Q (.bl true) H'
theorem ok_law {f : Addr} {fd : FuncData} (F : Fun K "law" "law" s_law f fd) (mr : mg "range" = none) (mi : mg "isinstance" = none) (mli : mg "list" = none) (me : mg "enumerate" = none) (mrp : mg "repr" = none)
    (GO : L2.Go P w K mg base CX0 1 "_law_source" ["_law_cell"] spSource) (GPl : L2.Go P w K mg base CX0 98 "_law_plan" Cu.PPl (Cu.spPlan K)) (GLd : GLd P w K mg base 20) (GTg : GoK P w K mg base CX0 88 "targets" ["program"] (spT K)) : FnG P w K mg base (L2.CX P w) 99 f fd ["_law_script"] (spLaw K) := by
  refine okXG F sc_law (fun vs H Q E h => ?_) (fun cdv A0 outer s H vs Q E hr h => ?_)
  · obtain ⟨_, _, rfl, _⟩ := h
    rfl
  obtain ⟨a, ns, rfl, sq, few, q⟩ := h
  have hrP := hr.r.mono (j := 98) (by decide)
  have hrT := hr.r.mono (j := 88) (by decide)
  have hrL := hr.r.mono (j := 1 + 20) (by decide)
  have hr1 := hr.r.mono (j := 1) (by decide)
  have hu : (cxOf (L2.CX P w) P w K mg base NLaw "law" (defScope s_law) f cdv A0 outer s H E).A.units + 80 < cLine := by have := hr.r.un; show (A0.deeper _).units + 80 < cLine; omega
  have GT0 := GTg.go
  refine ⟨_, (pss_cons (ps_for (passes_of rfl) rfl (pi_list (pe_slice sl_list (pe_op op_catL (pv 0) (pe_lst (pa_cons pe_int pa_nil))) po_none (po_some pe_int))) (pg_name (i := 1) sc_law.nd rfl (.inl rfl))
      (pss_cons (ps_set (i := 2) sc_law.nd rfl (.inl rfl) (pe_go (E := fun _ _ _ => False) GO hr1 pass0 rfl (pa_cons (pv 1) pa_nil))) (pss_one (ps_for (passes_of rfl) rfl (pi_range1 rfl mr (pa_cons pe_int pa_nil)) (pg_name (i := 3) sc_law.nd rfl (.inl rfl))
           (pss_cons (ps_par rfl sc_law.nd (i := 4) (j := 5) rfl rfl (by decide) rfl rfl (pa_cons (pe_go (E := fun _ _ _ => False) GPl hrP pass0 rfl (pa_cons (pv 2) (pa_cons pe_int (pa_cons pe_int pa_nil)))) (pa_cons (pe_lst pa_nil) pa_nil)) (by rfl)) (pss_cons (ps_set (i := 6) sc_law.nd rfl (.inl rfl) (pe_callB (call_repr_data hr.g hu) rfl mrp (by decide +kernel) (pa_cons (pv 4) pa_nil))) (pss_cons (ps_for (passes_of rfl) rfl (pi_enumT rfl me (pa_cons (pe_ix ix_tup (pv 4) pe_int fun _ _ => rfl) pa_nil)) (pg_tup (by rfl) (L2.pgs_cons (pg_name (i := 7) sc_law.nd rfl (.inl rfl)) (L2.pgs_cons (pg_tup (by rfl) (L2.pgs_cons (pg_name (i := 8) sc_law.nd rfl (.inl rfl)) (L2.pgs_cons (pg_name (i := 9) sc_law.nd rfl (.inl rfl)) L2.pgs_nil))) L2.pgs_nil)))
                (pss_one (ps_set (i := 5) sc_law.nd rfl (.inl rfl) (pe_op op_catL (pv 5) (pe_go (E := fun _ _ _ => False) GLd hrL pass0 rfl (pa_cons (pv 9) (pa_cons (pe_tup (pa_cons (pv 7) pa_nil)) (pa_cons (pe_lst pa_nil) (pa_cons pe_non pa_nil))))))))) (pss_cons (ps_set (i := 5) sc_law.nd rfl (.inl rfl) (pe_op op_catL (pv 5) (pe_go (E := fun _ _ _ => False) GLd hrL pass0 rfl (pa_cons (pe_ix ix_tup (pv 4) pe_int fun _ _ => rfl) (pa_cons (pe_tup (pa_cons (pe_un un_neg pe_int) pa_nil)) (pa_cons (pe_lst pa_nil) (pa_cons (pe_tup (pa_cons (pe_un un_neg pe_int) pa_nil)) pa_nil))))))) (pss_cons (ps_for (passes_of rfl) rfl (pi_tup (pe_tup (pa_cons (pe_go (E := fun _ _ _ => False) GT0 hrT pass0 rfl (pa_cons (pv 4) pa_nil)) (pa_cons (pe_goK (E := fun _ _ _ => False) GTg hrT pass0 rfl (pk_cons (pv 4) pk_nil)) pa_nil)))) (pg_name (i := 10) sc_law.nd rfl (.inl rfl))
                (pss_cons (ps_if (PW.pt (pw_or (pt_cmpR (op_neD hr.r.units) (pv 10) (pv 5) rfl) (pw_or1 (pt_not (pt_val (pe_is (n := "list") mi mli (by decide +kernel) rfl rfl (pv 10))))))) (pss_one (ps_ret pe_bl)) pss_nil) (pss_one (ps_expr (pe_bm PySem.F.plainAttrs_list PySem.F.slot_list_append PySem.F.type_list_append mt_append (pv 10) (pa_cons pe_non pa_nil)))))) (pss_one (ps_if (pt_cmpR op_ne (pe_callB (call_repr_data hr.g hu) rfl mrp (by decide +kernel) (pa_cons (pv 4) pa_nil)) (pv 6) rfl) (pss_one (ps_ret pe_bl)) pss_nil))))))))))) (pss_one (ps_ret pe_bl))), ?_⟩
  bv_omega
  refine loop_in ?_
  bv_omega
  refine ⟨_, rfl, sl (Nat.le_of_ble_eq_true rfl), fun b nb => ?_⟩
  have s1 : Same H (upd H b (.lst [V.int 0])) := same_new nb
  refine ⟨a, b, ns.map V.int, _, rfl, rfl, sql_up' sq s1, upd_same, sl (by rw [List.length_map]; show ns.length + 1 ≤ _; omega), fun p np => ?_⟩
  refine ⟨5, rfl, p, _, rfl, .inl (.inl upd_same), fun r nr => ?_⟩
  refine ⟨r, rfl, ⟨_, .inl (.inl upd_same)⟩, ?_⟩
  refine loop_list (K := K) (a := r) (xs := cutV (ns.map V.int ++ [V.int 0]) none (some 5)) (fun _ σ H' => H' r = some (.lst (cutV (ns.map V.int ++ [V.int 0]) none (some 5))) ∧ ∃ (v1 v2 v3 v4 v5 v6 v7 v8 v9 v10 : Option V), σ = [some (.ref a), v1, v2, v3, v4, v5, v6, v7, v8, v9, v10]) ⟨upd_same, _, _, _, _, _, _, _, _, _, _, rfl⟩ (fun _ _ _ _ z => .inl (.inl z.1)) ?hs ?hd
  case hd =>
    rintro σ H1 ⟨_, v1, v2, v3, v4, v5, v6, v7, v8, v9, v10, rfl⟩
    bv_omega
    exact q _
  case hs =>
    rintro i x σ H1 hx ⟨hr1', v1, v2, v3, v4, v5, v6, v7, v8, v9, v10, rfl⟩
    obtain ⟨c, rfl⟩ := ints_cutN 5 ns x (List.mem_of_getElem? hx)
    bv_omega
    refine ⟨_, rfl, c, rfl, fun l nl => ?_⟩
    have sr3 : Sr l (upd H1 l (.lst [V.int c, V.int c, V.int 0])) := ⟨c, c, 0, upd_same⟩
    have e3 := same_new (o := .lst [V.int c, V.int c, V.int 0]) nl _ _ hr1'
    have rl : r ≠ l := ne_of_none hr1' nl
    generalize upd H1 l (.lst [V.int c, V.int c, V.int 0]) = H3 at sr3 e3 ⊢
    bv_omega
    refine loop_in ?_
    bv_omega
    refine ⟨2, rfl, by decide, by decide, ?_⟩
    refine loop_range (lo := 0) (n := 2) (fun i σ H' => Dr l H3 H' ∧ ∃ (v3 v4 v5 v6 v7 v8 v9 v10 : Option V), σ = [some (.ref a), some (.int c), some (.ref l), v3, v4, v5, v6, v7, v8, v9, v10]) ⟨.refl sr3, _, _, _, _, _, _, _, _, rfl⟩ ?hs3 ?hd3
    case hd3 =>
      rintro σ H12 ⟨d12, v3, v4, v5, v6, v7, v8, v9, v10, rfl⟩
      exact ⟨d12.keep _ _ rl e3, _, _, _, _, _, _, _, _, _, _, rfl⟩
    case hs3 =>
      rintro j σ H12 hj ⟨d12, v3, v4, v5, v6, v7, v8, v9, v10, rfl⟩
      bv_omega
      have sr0 := d12.sr
      refine ⟨_, rfl, l, 3, 5, rfl, by decide, by decide, by decide, sr0, fun vp G1 rs m pg ln d13 dp => ?_⟩
      have sr1 := d13.sr
      bv_omega
      have ipr := pg.prog
      obtain ⟨C0', V0', N0', M0', pr⟩ := id ipr
      obtain ⟨sh, sw, sz⟩ := plan_ok pr pr.cd.n pr.cd.m (RowsG.h20 pg.gr) (by have := pg.mh; omega)
      have few3 := all_len pr
      obtain ⟨pa, pxs, rfl, hpa, dpx⟩ := dat_tup dp
      obtain ⟨y0, pxs, rfl, dy0, dpx⟩ := dats_cons dpx
      obtain ⟨ym, pxs, rfl, dym, dpx⟩ := dats_cons dpx
      cases dats_nil dpx
      obtain ⟨ra, rxs, rfl, hra, drx⟩ := dat_tup dy0
      refine ⟨sl (Nat.zero_le _), fun fl nfl => ⟨_, _, rfl, _, rfl, ?_⟩⟩
      have s12 := same_new (o := .lst []) nfl
      have hfl : upd G1 fl (.lst []) fl = some (.lst []) := upd_same
      generalize upd G1 fl (.lst []) = G2 at s12 hfl ⊢
      have dp2 := dp.up (same_stay s12)
      refine ⟨pa, toD (encP rs m), rfl, dp2.im.dp dp2.fl, sh, sw, sz, ?_⟩
      refine for_in ?_
      dsimp only [iEnumT]
      bv_omega
      refine ⟨_, rfl, pa, _, _, _, rfl, rfl, sqt (s12 _ _ hpa), atI_nat (j := 0) rfl, ra, rxs, rfl, s12 _ _ hra, for_enumT (a := ra) (xs := rxs) (fun i σ H' => ∃ v7 v8 v9 fk ts us, σ = [some (.ref a), some (.int c), some (.ref l), some (.int (0 + (j : Int))), some (.ref pa), some (.ref fk), some (.str (toD (encP rs m)).shown), v7, v8, v9, v10] ∧ Same G2 H' ∧ H' fk = some (.lst us) ∧ G1 fk = none ∧ Dats K H' us ts ∧ Lds rs m (((bdsOf rs 0).take i).flatMap fun b => nodesOf [] b.2) ts) ⟨_, _, _, fl, [], [], rfl, fun _ _ z => z, hfl, nfl, .nil, .nil⟩ ?hl4 ?hs4 ?hd4⟩
      case hl4 =>
        rintro i σ H5 li ⟨v7, v8, v9, fk, ts, us, rfl, s5, _⟩
        exact s5 _ _ (s12 _ _ hra)
      case hs4 =>
        rintro i x σ H5 T0 hx ⟨v7, v8, v9, fk, ts, us, rfl, s5, hfk, nfk, du, lds⟩ nT
        obtain ⟨te, ete, dte⟩ := dats_at drx hx
        rw [List.getElem?_map] at ete
        obtain ⟨rw', er, rfl⟩ := Option.map_eq_some_iff.mp ete
        obtain ⟨xa, xys, rfl, hxa, dxy⟩ := dat_tup dte
        obtain ⟨yt, xys, rfl, dyt, dxy⟩ := dats_cons dxy
        obtain ⟨yb, xys, rfl, dyb, dxy⟩ := dats_cons dxy
        cases dats_nil dxy
        have rmem := List.mem_of_getElem? er
        have s6 := s5.trans (same_new (o := .tup [V.int (i : Int), V.ref xa]) nT)
        have s16 := s12.trans s6
        bv_omega
        refine ⟨T0, _, rfl, sqt upd_same, rfl, _, _, rfl, _, _, rfl, xa, _, rfl, sqt (s16 _ _ hxa), rfl, _, _, rfl, _, _, rfl, rfl, rfl, ?_⟩
        have hfk6 := same_new (o := .tup [V.int (i : Int), V.ref xa]) nT _ _ hfk
        have du6 := du.up (same_stay (same_new (o := .tup [V.int (i : Int), V.ref xa]) nT))
        generalize upd H5 T0 (.tup [V.int (i : Int), V.ref xa]) = H6 at s6 s16 hfk6 du6 ⊢
        bv_omega
        refine ⟨_, rfl, _, rfl, _, rfl, sl (Nat.le_of_ble_eq_true rfl), fun p1 n1 => ⟨sl (Nat.zero_le _), fun p2 n2 => ?_⟩⟩
        have s67 := (same_new (o := .tup [V.int (i : Int)]) n1).trans (same_new (o := .lst []) n2)
        have hp1 := same_new (o := .lst []) n2 _ _ (upd_same (H := H6) (a := p1) (o := .tup [V.int (i : Int)]))
        have hp2 : upd (upd H6 p1 (.tup [V.int (i : Int)])) p2 (.lst []) p2 = some (.lst []) := upd_same
        generalize upd (upd H6 p1 (.tup [V.int (i : Int)])) p2 (.lst []) = H7 at s67 hp1 hp2 ⊢
        obtain ⟨kn, okr⟩ := rows_oktL pr.rs _ rmem
        refine ⟨rs, m, yb, p1, p2, .non, ⟨rw'.2, [(i : Int)]⟩, [], [], rfl, LdP.top ipr (dyb.up (same_stay (s16.trans s67))) hp1 hp2 ?sh (.row er) (RowsG.h20 pg.gr _ rmem) (by have := tot_mem rmem; have := pr.tr; omega) ⟨_, _, _, _, _, _, okr⟩, fun D2 H8 ts2 s8 nD2 l2 lds2 => ?_⟩
        case sh =>
          show optV K H7 .non (if [(i : Int)].head? = some (-1) then some [-1] else none)
          rw [if_neg (by intro e; injection e with e; omega)]
          rfl
        have s68 := s67.trans s8
        have lds3 : Lds rs m (((bdsOf rs 0).take (i + 1)).flatMap fun b => nodesOf [] b.2) (ts ++ ts2) := by
          rw [List.take_add_one, bds_get, er, Nat.zero_add, List.flatMap_append]
          refine lds.app ?_
          show Lds rs m (nodesOf [] ⟨rw'.2, [(i : Int)]⟩ ++ []) ts2
          rw [List.append_nil]
          exact lds2
        have few4 : (ts ++ ts2).length ≤ 3000 := by
          have b1 := lds3.len
          have b2 := few3
          unfold allNs at b2
          rw [← List.take_append_drop (i + 1) (bdsOf rs 0), List.flatMap_append, List.length_append, List.length_append] at b2
          omega
        exact cat_use (s68 _ _ hfk6) (du6.up (same_stay s68)) l2 few4 fun p us' H9 s9 np h9 d9 => ⟨_, _, _, p, ts ++ ts2, us', rfl, s6.trans (s68.trans s9), h9, Same.none (s16.trans s68) np, d9, lds3⟩
      case hd4 =>
        rintro σ H5 ⟨v7, v8, v9, fk, ts, us, rfl, s5, hfk, nfk, du, lds⟩
        have el : rxs.length = rs.length := by
          have := drx.len
          rw [List.length_map] at this
          exact this
        rw [el, List.take_of_length_le (by rw [bds_len]; omega)] at lds
        have s15 := s12.trans s5
        bv_omega
        refine ⟨_, rfl, _, rfl, pa, _, _, _, rfl, rfl, sqt (s15 _ _ hpa), atI_nat (j := 1) rfl, 1, rfl, sl (Nat.le_of_ble_eq_true rfl), fun p1 n1 => ⟨sl (Nat.zero_le _), fun p2 n2 => ⟨1, rfl, sl (Nat.le_of_ble_eq_true rfl), fun p3 n3 => ?_⟩⟩⟩
        have s56 := ((same_new (o := .tup [V.int (-1)]) n1).trans (same_new (o := .lst []) n2)).trans (same_new (o := .tup [V.int (-1)]) n3)
        have h1 := (((same_new (o := .lst []) n2).trans (same_new (o := .tup [V.int (-1)]) n3)) _ _ (upd_same (H := H5) (a := p1) (o := .tup [V.int (-1)])))
        have h2 := (same_new (o := .tup [V.int (-1)]) n3) _ _ (upd_same (H := upd H5 p1 (.tup [V.int (-1)])) (a := p2) (o := .lst []))
        have h3 : upd (upd (upd H5 p1 (.tup [V.int (-1)])) p2 (.lst [])) p3 (.tup [V.int (-1)]) p3 = some (.tup [V.int (-1)]) := upd_same
        show spLd K 20 [ym, V.ref p1, V.ref p2, V.ref p3] (upd (upd (upd H5 p1 (.tup [V.int (-1)])) p2 (.lst [])) p3 (.tup [V.int (-1)])) _ _
        generalize upd (upd (upd H5 p1 (.tup [V.int (-1)])) p2 (.lst [])) p3 (.tup [V.int (-1)]) = H6 at s56 h1 h2 h3 ⊢
        have s16 := s15.trans s56
        refine ⟨rs, m, ym, p1, p2, .ref p3, ⟨m, [-1]⟩, [], [], rfl, LdP.top ipr (dym.up (same_stay s16)) h1 h2 ⟨p3, rfl, h3⟩ .main (by have := pg.mh; omega) (by have := pr.tr; omega) ⟨_, _, _, _, _, _, pr.mn⟩, fun D2 H8 ts2 s8 nD2 l2 lds2 => ?_⟩
        have s58 := s56.trans s8
        have ldsA : Lds rs m (allNs (bdsOf rs 0) ⟨m, [-1]⟩) (ts ++ ts2) := by
          unfold allNs
          exact lds.app lds2
        have few4 : (ts ++ ts2).length ≤ 3000 := Nat.le_trans ldsA.len few3
        refine cat_use (s58 _ _ hfk) (du.up (same_stay s58)) l2 few4 fun p4 us4 H9 s9 np4 h9 d9 => ?_
        have s19 := s15.trans (s58.trans s9)
        generalize ts ++ ts2 = TS at ldsA few4 d9
        refine loop_in ?_
        bv_omega
        refine ⟨_, rfl, .ref pa, rs, m, rfl, ((dp.up (same_stay s19) : Dat K H9 (.ref pa) (encP rs m)) : PDat K H9 (.ref pa) (encP rs m)), ipr, fun H10 t1 us1 ts1 s10 n10 h10 d10 l10 => ?_⟩
        obtain rfl := ldsA.one l10
        refine ⟨_, rfl, .ref pa, rs, m, rfl, ((dp.up (same_stay (s19.trans s10)) : Dat K H10 (.ref pa) (encP rs m)) : PDat K H10 (.ref pa) (encP rs m)), ipr, fun H11 t2 us2 ts2' s11 n11 h11 d11 l11 => ?_⟩
        obtain rfl := ldsA.one l11
        refine ⟨sl (Nat.le_of_ble_eq_true rfl), fun p5 n5 => ⟨p5, rfl, ⟨_, sqt upd_same⟩, ?_⟩⟩
        have s12b := same_new (o := .tup [V.ref t1, V.ref t2]) n5
        have x4 := s12b _ _ ((s10.trans s11) _ _ h9)
        have e4 := (d9.up (same_stay (s10.trans s11))).up (same_stay s12b)
        have x1 := s12b _ _ (s11 _ _ h10)
        have e1 := (d10.up (same_stay s11)).up (same_stay s12b)
        have x2 := s12b _ _ h11
        have e2 := d11.up (same_stay s12b)
        have x5 : upd H11 p5 (.tup [V.ref t1, V.ref t2]) p5 = some (.tup [V.ref t1, V.ref t2]) := upd_same
        have s1e := (s19.trans (s10.trans s11)).trans s12b
        have ne14 : t1 ≠ p4 := fun e => by rw [e, h9] at n10; cases n10
        have ne24 : t2 ≠ p4 := fun e => by rw [e, s10 _ _ h9] at n11; cases n11
        have ne12 : t1 ≠ t2 := fun e => by rw [← e, h10] at n11; cases n11
        have g1 : G1 t1 = none := Same.none s19 n10
        have g2 : G1 t2 = none := Same.none (s19.trans s10) n11
        generalize upd H11 p5 (.tup [V.ref t1, V.ref t2]) = H12' at x4 e4 x1 e1 x2 e2 x5 s1e ⊢
        have up1 : ∀ {H6 : Hp} {t : Addr} {o : HO}, Same G1 H6 → G1 t = none → Same G1 (upd H6 t o) := fun {H6 t o} s n b u z => by
          rw [upd_ne (fun e => by rw [e, n] at z; cases z)]
          exact s _ _ z
        refine loop_tup (K := K) (a := p5) (xs := [.ref t1, .ref t2]) (fun i σ H' => ∃ v10, σ = [some (.ref a), some (.int c), some (.ref l), some (.int (0 + (j : Int))), some (.ref pa), some (.ref p4), some (.str (toD (encP rs m)).shown), v7, v8, v9, v10] ∧ Same G1 H' ∧ H' p5 = some (.tup [.ref t1, .ref t2]) ∧ H' p4 = some (.lst us4) ∧ Dats K H' us4 ts2' ∧ (i = 0 → H' t1 = some (.lst us1) ∧ Dats K H' us1 ts2') ∧ (i ≤ 1 → H' t2 = some (.lst us2) ∧ Dats K H' us2 ts2')) ⟨_, rfl, s1e, x5, x4, e4, fun _ => ⟨x1, e1⟩, fun _ => ⟨x2, e2⟩⟩ ?hl5 ?hs5 ?hd5
        case hl5 =>
          rintro i σ H6 li ⟨_, rfl, _, h5, _⟩
          exact sqt h5
        case hd5 =>
          rintro σ H6 ⟨_, rfl, s6, _⟩
          bv_omega
          have dpe := dp.up (same_stay s6)
          refine ⟨_, rfl, pa, toD (encP rs m), rfl, dpe.im.dp dpe.fl, sh, sw, sz, _, rfl, rfl, _, rfl, if_no (by simp) ?_⟩
          bv_omega
          exact ⟨(d12.trans d13).trans (.same d13.sr s6), _, _, _, _, _, _, _, _, rfl⟩
        case hs5 =>
          rintro i x σ H6 hx ⟨v10', rfl, s6, h5, h4, d4, i1, i2⟩
          obtain ⟨t, us, rfl, hu6, du6, gt, nt4, keep⟩ : ∃ t us, x = .ref t ∧ H6 t = some (.lst us) ∧ Dats K H6 us ts2' ∧ G1 t = none ∧ t ≠ p4 ∧ (i + 1 ≤ 1 → t ≠ t2) := by
            match i, hx, i1, i2 with
            | 0, hx, i1, _ =>
              cases hx
              exact ⟨t1, us1, rfl, (i1 rfl).1, (i1 rfl).2, g1, ne14, fun _ => ne12⟩
            | 1, hx, _, i2 =>
              cases hx
              exact ⟨t2, us2, rfl, (i2 (Nat.le_refl 1)).1, (i2 (Nat.le_refl 1)).2, g2, ne24, fun h => by omega⟩
            | n + 2, hx, _, _ => cases hx
          have nt5 : t ≠ p5 := fun e => by rw [e, h5] at hu6; cases hu6
          have lu := du6.len
          bv_omega
          refine ⟨_, rfl, _, rfl, lists_ne ldsA hu6 h4 du6 d4 ⟨_, rfl, if_no (by decide) ?_⟩⟩
          refine ⟨_, rfl, ⟨.ref t, .ty "list", .type "list", .type "list", true, rfl, .ty _, .base (.lst hu6), kit_ty (by decide +kernel), _, rfl, if_no (by decide) ?_⟩⟩
          bv_omega
          refine ⟨_, rfl, .inl ⟨rfl, _, .inl (.inl hu6)⟩, t, us, _, rfl, rfl, hu6, by rw [sizeLine_eq]; omega, ?_⟩
          refine ⟨_, rfl, up1 s6 gt, by rw [upd_ne (Ne.symm nt5)]; exact h5, by rw [upd_ne (Ne.symm nt4)]; exact h4, d4.up (stay_lst hu6), fun h => by omega, fun h => ?_⟩
          obtain ⟨z1, z2⟩ := i2 (by omega)
          exact ⟨by rw [upd_ne (Ne.symm (keep h))]; exact z1, z2.up (stay_lst hu6)⟩
end
end W20

/-! The end of the law. -/
namespace Wk
open PySem PySem.Spec PyProof.Rows L2 Ck PySem.ErrKw

structure LawD (K : PySem.W.Frag) (mg : Str → Option Value) : Prop where
  l_mixed : Def K mg "_law_mixed" sMixed ["_law_cell", "_law_draw"]
  l_source : Def K mg "_law_source" sSource ["_law_cell"]
  l_take : Def K mg "_law_take" sTake ["_law_source_here", "_law_bound"]
  l_pick : Def K mg "_law_pick" sPick ["_law_source_here", "_law_options"]
  l_jump : Def K mg "_law_jump" sSmall ["_law_source_here", "_law_loops", "_law_within", "_law_known"]
  l_form : Def K mg "_law_form" sTree ["_law_source_here", "_law_deep", "_law_loops", "_law_within", "_law_known"]
  l_weight : Def K mg "_law_weight" sWei ["_law_tree", "_law_sizes"]
  l_light : Def K mg "_law_light" sLig ["_law_tree", "_law_rows"]
  l_plan : Def K mg "_law_plan" Cu.sPlan ["_law_source_here", "_law_many", "_law_deep"]
  l_kids : Def K mg "_law_kids" Wk.sKi ["_law_tree"]
  l_leads : Def K mg "_law_leads" Wk.sLd ["_law_tree", "_law_spot", "_law_loops", "_law_shell"]
  n_isinstance : mg "isinstance" = none
  n_len : mg "len" = none
  n_min : mg "min" = none
  n_int : mg "int" = none
  n_bool : mg "bool" = none
  n_str : mg "str" = none
  n_tuple : mg "tuple" = none
  n_enumerate : mg "enumerate" = none
  n_list : mg "list" = none
  n_dict : mg "dict" = none
  n_sorted : mg "sorted" = none
  n_range : mg "range" = none
  n_sum : mg "sum" = none
  n_max : mg "max" = none
  n_set : mg "set" = none
  n_repr : mg "repr" = none
  n_reversed : mg "reversed" = none
structure PlD (w : World) (K : PySem.W.Frag) (mg : Str → Option Value) (C : Cs) (CP dL dP ea : Addr) : Prop where
  wc : Wc K C
  pc : Pc K CP
  gl : mg "LOOPS" = some (.ref dL)
  hl : ∀ H, SqT K H dL [.str "while", .str "until", .str "times"]
  pl : Pls K w mg dP
  Node : ClsD K mg C.N "Node" "Node.__init__" s_Node___init__ ["self", "tree", "path"]
  Plan : ClsD K mg CP "Plan" "Plan.__init__" s_Plan___init__ ["self", "program", "check"]
  part : MethD K C.N "part" "Node.part" s_Node_part ["self", "place"]
  parts_of : Def K mg "parts_of" Wk.s_parts_of ["tree"]
  plan_of : Def K mg "plan_of" Wk.s_plan_of ["program"]
  all_nodes : Def K mg "all_nodes" Wk.s_all_nodes ["plan"]
  loop_around : Def K mg "loop_around" Wk.s_loop_around ["words", "path", "count"]
  shell_around : Def K mg "shell_around" Wk.s_shell_around ["words", "path"]
  within : DefD K mg "nodes_within" s_nodes_within ["node", "closed"] ea
  targets : DefK K mg "targets" s_targets ["program"]
theorem the_end {P : Program} {w : World} {K : PySem.W.Frag} {mg : Str → Option Value} {C : Cs} {fa fl CP CK IP fI fN dL dP dK dT ea : Addr} {adr : Ck.Kind → Addr} (hfa : mg "law" = some (.ref fa))
    (Ds : Defs K mg CK fN adr) (M : Md K mg w dK dT adr) (Z : Mc P K mg CK IP fI) (D : PlD w K mg C CP dL dP ea)
    (D_law : DefA K mg "law" W20.s_law ["_law_script"] fl) (LD : LawD K mg) :
    ∃ fd : FuncData, (∀ (s : Shared) (u : Value), BindsTo s fd ⟨[u], []⟩ [("_law_script", u)]) ∧ ∀ base : Heap, K.In base → base.Ns mainGlobals mg → FnG P w K mg base (L2.CX P w) 99 fa fd ["_law_script"] (W20.spLaw K) := by
  obtain ⟨fd, FW, gW, _, _, tW⟩ := D_law.ex
  have e := hfa.symm.trans gW
  cases e
  refine ⟨fd, fun s u => tW s [u] rfl, fun base _ _ => ?_⟩
  have G_parts_of := D.parts_of.go (P := P) (base := base) fun _ _ F => ok_parts_of F D.pl LD.n_tuple
  have GC_Node := D.Node.go fun _ _ F => ok_node F D.wc LD.n_len G_parts_of
  have GM_part := D.part.go D.wc.cN fun _ _ F => ok_part F D.wc GC_Node
  have GC_Plan := D.Plan.go fun _ _ F => ok_plan F D.wc D.pc Z LD.n_len LD.n_sorted GC_Node
  have GC : GCk P w K mg base CK IP := Ds.checked.go fun _ _ F => (ok_checked F Ds M Z).ok (by decide) (by decide)
  have G_plan_of := D.plan_of.go fun _ _ F => ok_plan_of F GC_Plan GC
  have GN := D.within.goV fun _ _ F => ok_nodes_within F D.wc LD.n_range LD.n_reversed LD.n_len GM_part
  have GA := fun B => D.all_nodes.go fun _ _ F => ok_all_nodes (B := B) F D.pc D.within.he GN
  have GL := fun rows m => D.loop_around.go (P := P) (w := w) (base := base) fun _ _ F => ok_loop_around (rows := rows) (m := m) F D.gl D.hl
  have GS := fun rows m => D.shell_around.go (P := P) (w := w) (base := base) fun _ _ F => ok_shell_around (rows := rows) (m := m) F LD.n_range LD.n_len
  have GTg := D.targets.goK fun _ _ F => ok_targets F D.wc G_plan_of GA GL GS
  obtain ⟨fM, dM, FM, gM, kM, bM⟩ := LD.l_mixed.ex
  have GT : GTk P w K mg base := LD.l_take.go fun _ _ F => (ok_take F (ok_mixed FM LD.n_int) gM kM bM LD.n_int).mono (by decide)
  have GO := LD.l_source.go (P := P) (w := w) (base := base) fun _ _ F => ok_source F
  have M0 : Mg mg := ⟨LD.n_isinstance, LD.n_tuple, LD.n_sum, LD.n_max, LD.n_range, LD.n_len, LD.n_list, LD.n_sorted, LD.n_set⟩
  have LPu : LawPu K mg := ⟨LD.l_pick, LD.l_jump, LD.l_form, LD.l_weight, LD.l_light, LD.l_plan⟩
  have GPl := LPu.plan_go (P := P) (w := w) (base := base) M0 GT
  have GK := LD.l_kids.go (P := P) (w := w) (base := base) fun _ _ F => ok_kids F M0
  have GLd : ∀ h, GLd P w K mg base h := by
    intro h
    induction h with
    | zero => exact LD.l_leads.go fun _ _ F => ok_ld0 F
    | succ h ih => exact LD.l_leads.go fun _ _ F => ok_ld F M0 LD.n_enumerate GK ih
  exact W20.ok_law FW LD.n_range LD.n_isinstance LD.n_list LD.n_enumerate LD.n_repr GO GPl (GLd 20) GTg
end Wk

open PySem PySem.W PyProof.Rows in
set_option maxHeartbeats 0 in
theorem PySem.Challenge.cw_shellways_k20_where_trees_lead_holds : PySem.Challenge.rw_shellways_k20_where_trees_lead.Holds := by
  w_on; o_law
  refine HandSHeadRun.head_any (r := PySem.W.OpenLaw.row PySem.Challenge.rw_shellways_k20_where_trees_lead) (q := Wk.kQ) (H := PySem.W.kHook Wk.kHeap Wk.kAs Wk.kEq) (ob := Wk.kOb) (M := 4884) (loose := Wk.kL) (kwd := []) Wk.kOb_eq (by kernel_rfl) (fun s => by kernel_rfl) Wk.kRun (by rfl) (by rfl) (by rfl) (by rfl) (by assumption) Wk.kOkA Wk.kBare ?hw ?hc
  (case hw => w_witness2)
  case hc =>
    k_fill
    refine Wk.the_walkG (l := PySem.Challenge.rw_shellways_k20_where_trees_lead) (n := 99) (sp := W20.spLaw) (fun K a ns H Q E sq few q => ⟨a, ns, rfl, sq, few, q⟩) ⟨rfl, by decide, by decide⟩ rfl rfl (fun w h Y => PySem.W.kIn_of Y) ?F
    case F =>
      intro w mg fa h KX G hmg
      have zs := PySem.W.mg_none_of (n := "super") KX G (by k_is)
      refine' Wk.with_fil (PySem.Challenge.pw_shellways_k20_where_trees_lead).main.file KX ?fil_1 ?tp_1 ?next_1
      (case fil_1 => with_unfolding_all rfl)
      (case tp_1 => k_is)
      intro fil tp
      refine' Wk.with_err (P := PySem.Challenge.pw_shellways_k20_where_trees_lead) "InvalidProgram" "path" KX G zs tp rfl fil rfl (by decide) (by decide) rfl rfl ?aC_2 ?xL_2 ?iC_2 ?tI_2 ?l1_2 ?c1_2 ?l2_2 ?l3_2 ?f2_2 ?rd_2 ?su_2 ?qi_2 ?sa_2 ?no_2 ?ve_2 ?me_2 ?kC_2 ?ga_2 ?gg_2 ?exC_2 ?hdC_2 ?ca_2 ?cg_2 ?ck_2 ?mo_2 ?isC_2 ?next_2
      (case aC_2 => k_is)
      (case xL_2 => k_is)
      (case iC_2 => k_is)
      (case tI_2 => k_is)
      (case l1_2 => k_is)
      (case c1_2 => k_is)
      (case l2_2 => k_is)
      (case l3_2 => k_is)
      (case f2_2 => exact rfl)
      (case rd_2 => exact ⟨_, fun _ => by with_unfolding_all rfl⟩)
      (case su_2 => ks_is)
      (case qi_2 => with_unfolding_all rfl)
      (case sa_2 => k_is)
      (case no_2 => k_is)
      (case ve_2 => k_is)
      (case me_2 => k_is)
      (case kC_2 => k_is)
      (case ga_2 => k_is)
      (case gg_2 => k_is)
      (case exC_2 => k_is)
      (case hdC_2 => k_is)
      (case ca_2 => k_is)
      (case cg_2 => k_is)
      (case ck_2 => k_is)
      (case mo_2 => k_is)
      (case isC_2 => k_is)
      intro E0_InvalidProgram
      have E_InvalidProgram := Wk.te_of E0_InvalidProgram (by k_is) (by k_is)
      refine' Wk.with_cls KX G ?aC_3 ?a1_3 ?i1_3 ?l1_3 ?c1_3 ?k1_3 ?pg_3 ?hd_3 ?po_3 ?sa_3 ?mk_3 ?kc_3 ?n1_3 ?n2_3 ?n3_3 ?n4_3 ?n5_3 ?n6_3 ?n7_3 ?n8_3 ?next_3
      (case aC_3 => k_is)
      (case a1_3 => k_is)
      (case i1_3 => k_is)
      (case l1_3 => k_is)
      (case c1_3 => k_is)
      (case k1_3 => k_is)
      (case pg_3 => k_is)
      (case hd_3 => k_is)
      (case po_3 => k_is)
      (case sa_3 => k_is)
      (case mk_3 => k_is)
      (case kc_3 => k_is)
      (case n1_3 => k_is)
      (case n2_3 => k_is)
      (case n3_3 => k_is)
      (case n4_3 => k_is)
      (case n5_3 => k_is)
      (case n6_3 => k_is)
      (case n7_3 => k_is)
      (case n8_3 => k_is)
      intro Cl
      refine' Wk.nsin_none "isinstance" KX G ?z_4 ?next_4
      (case z_4 => k_is)
      intro N_isinstance
      refine' Wk.nsin_none "len" KX G ?z_5 ?next_5
      (case z_5 => k_is)
      intro N_len
      refine' Wk.nsin_none "min" KX G ?z_6 ?next_6
      (case z_6 => k_is)
      intro N_min
      refine' Wk.nsin_none "int" KX G ?z_7 ?next_7
      (case z_7 => k_is)
      intro N_int
      refine' Wk.nsin_none "bool" KX G ?z_8 ?next_8
      (case z_8 => k_is)
      intro N_bool
      refine' Wk.nsin_none "str" KX G ?z_9 ?next_9
      (case z_9 => k_is)
      intro N_str
      refine' Wk.nsin_none "tuple" KX G ?z_10 ?next_10
      (case z_10 => k_is)
      intro N_tuple
      refine' Wk.nsin_none "enumerate" KX G ?z_11 ?next_11
      (case z_11 => k_is)
      intro N_enumerate
      refine' Wk.nsin_none "list" KX G ?z_12 ?next_12
      (case z_12 => k_is)
      intro N_list
      refine' Wk.nsin_none "dict" KX G ?z_13 ?next_13
      (case z_13 => k_is)
      intro N_dict
      refine' Wk.nsin_none "sorted" KX G ?z_14 ?next_14
      (case z_14 => k_is)
      intro N_sorted
      refine' Wk.nsin_none "range" KX G ?z_15 ?next_15
      (case z_15 => k_is)
      intro N_range
      refine' Wk.nsin_none "sum" KX G ?z_16 ?next_16
      (case z_16 => k_is)
      intro N_sum
      refine' Wk.nsin_none "max" KX G ?z_17 ?next_17
      (case z_17 => k_is)
      intro N_max
      refine' Wk.nsin_none "set" KX G ?z_18 ?next_18
      (case z_18 => k_is)
      intro N_set
      refine' Wk.nsin_none "repr" KX G ?z_19 ?next_19
      (case z_19 => k_is)
      intro N_repr
      refine' Wk.nsin_none "reversed" KX G ?z_20 ?next_20
      (case z_20 => k_is)
      intro N_reversed
      refine' Wk.nsin_int "LONGEST_NAME" 12 KX G ?z_21 ?next_21
      (case z_21 => k_is)
      intro I_LONGEST_NAME
      refine' Wk.nsin_int "MOST_FUNCTIONS" 20 KX G ?z_22 ?next_22
      (case z_22 => k_is)
      intro I_MOST_FUNCTIONS
      refine' Wk.nsin_int "MOST_TREES" 3000 KX G ?z_23 ?next_23
      (case z_23 => k_is)
      intro I_MOST_TREES
      refine' Wk.nsin_int "MOST_VARIABLES" 40 KX G ?z_24 ?next_24
      (case z_24 => k_is)
      intro I_MOST_VARIABLES
      refine' Wk.nsin_int "MOST_UNFOLDED" 3000 KX G ?z_25 ?next_25
      (case z_25 => k_is)
      intro I_MOST_UNFOLDED
      refine' Wk.nsin_int "LONGEST_PATH" 60 KX G ?z_26 ?next_26
      (case z_26 => k_is)
      intro I_LONGEST_PATH
      refine' Wk.nsin_int "GREATEST_NUMBER" 255 KX G ?z_27 ?next_27
      (case z_27 => k_is)
      intro I_GREATEST_NUMBER
      refine' Wk.nsin_int "MOST_ROUNDS" 1000 KX G ?z_28 ?next_28
      (case z_28 => k_is)
      intro I_MOST_ROUNDS
      refine' Wk.with_clsA "Node" "Node.__init__" Wk.s_Node___init__ ["self", "tree", "path"] ["tree", "word", "path", "parts", "nodes", "node", "tested", "place", "held", "started", "rounds", "last", "options", "variables", "traps", "ending", "end_begun", "frames", "calls", "trap_started", "bodies", "shells", "coming", "begun", "asking", "status", "silent", "going", "notes"] KX G (fun _ _ _ _ _ _ us hl => match us, hl with | [_, _, _], _ => rfl) ?aC_29 ?a1_29 ?i1_29 ?l1_29 ?c1_29 ?k1_29 ?mk_29 ?kc_29 ?pg_29 ?hd_29 ?po_29 ?sa_29 ?nf_29 ?next_29
      (case aC_29 => k_is)
      (case a1_29 => k_is)
      (case i1_29 => k_is)
      (case l1_29 => k_is)
      (case c1_29 => k_is)
      (case k1_29 => k_is)
      (case mk_29 => k_is)
      (case kc_29 => k_is)
      (case pg_29 => k_is)
      (case hd_29 => k_is)
      (case po_29 => k_is)
      (case sa_29 => k_is)
      (case nf_29 => exact ⟨by k_is, by k_is, by k_is, by k_is, by k_is, by k_is, by k_is, by k_is, by k_is, by k_is, by k_is, by k_is, by k_is, by k_is, by k_is, by k_is, by k_is, by k_is, by k_is, by k_is, by k_is, by k_is, by k_is, by k_is, by k_is, by k_is, by k_is, by k_is, by k_is, trivial⟩)
      intro D_Node
      refine' Wk.with_clsA "Plan" "Plan.__init__" Wk.s_Plan___init__ ["self", "program", "check"] ["check", "bodies", "main", "variables"] KX G (fun _ _ _ _ _ _ us hl => match us, hl with | [_, _, _], _ => rfl) ?aC_30 ?a1_30 ?i1_30 ?l1_30 ?c1_30 ?k1_30 ?mk_30 ?kc_30 ?pg_30 ?hd_30 ?po_30 ?sa_30 ?nf_30 ?next_30
      (case aC_30 => k_is)
      (case a1_30 => k_is)
      (case i1_30 => k_is)
      (case l1_30 => k_is)
      (case c1_30 => k_is)
      (case k1_30 => k_is)
      (case mk_30 => k_is)
      (case kc_30 => k_is)
      (case pg_30 => k_is)
      (case hd_30 => k_is)
      (case po_30 => k_is)
      (case sa_30 => k_is)
      (case nf_30 => exact ⟨by k_is, by k_is, by k_is, by k_is, trivial⟩)
      intro D_Plan
      refine' Wk.with_methA D_Node "part" "Node.part" Wk.s_Node_part ["self", "place"] (fun _ _ _ _ _ _ us hl => match us, hl with | [_, _], _ => rfl) ?a_31 ?i_31 ?l_31 ?c_31 ?k_31 ?next_31
      (case a_31 => k_is)
      (case i_31 => k_is)
      (case l_31 => k_is)
      (case c_31 => k_is)
      (case k_31 => k_is)
      intro D_Node_part
      refine' Wk.with_defA "parts_of" Wk.s_parts_of ["tree"] KX G (fun _ _ _ _ _ _ us hl => match us, hl with | [_], _ => rfl) ?a_32 ?l_32 ?c_32 ?k_32 ?next_32
      (case a_32 => k_is)
      (case l_32 => k_is)
      (case c_32 => k_is)
      (case k_32 => k_is)
      intro D_parts_of
      refine' Wk.with_defA "plan_of" Wk.s_plan_of ["program"] KX G (fun _ _ _ _ _ _ us hl => match us, hl with | [_], _ => rfl) ?a_33 ?l_33 ?c_33 ?k_33 ?next_33
      (case a_33 => k_is)
      (case l_33 => k_is)
      (case c_33 => k_is)
      (case k_33 => k_is)
      intro D_plan_of
      refine' Wk.with_defA "all_nodes" Wk.s_all_nodes ["plan"] KX G (fun _ _ _ _ _ _ us hl => match us, hl with | [_], _ => rfl) ?a_34 ?l_34 ?c_34 ?k_34 ?next_34
      (case a_34 => k_is)
      (case l_34 => k_is)
      (case c_34 => k_is)
      (case k_34 => k_is)
      intro D_all_nodes
      refine' Wk.with_defA "loop_around" Wk.s_loop_around ["words", "path", "count"] KX G (fun _ _ _ _ _ _ us hl => match us, hl with | [_, _, _], _ => rfl) ?a_35 ?l_35 ?c_35 ?k_35 ?next_35
      (case a_35 => k_is)
      (case l_35 => k_is)
      (case c_35 => k_is)
      (case k_35 => k_is)
      intro D_loop_around
      refine' Wk.with_defA "shell_around" Wk.s_shell_around ["words", "path"] KX G (fun _ _ _ _ _ _ us hl => match us, hl with | [_, _], _ => rfl) ?a_36 ?l_36 ?c_36 ?k_36 ?next_36
      (case a_36 => k_is)
      (case l_36 => k_is)
      (case c_36 => k_is)
      (case k_36 => k_is)
      intro D_shell_around
      refine' Wk.with_defK "targets" Wk.s_targets ["program"] KX G (fun _ _ _ _ _ _ us hl => match us, hl with | [_], _ => rfl) (fun _ _ _ _ _ _ us ws hl => by match us, ws, hl with | [], [_], _ => rfl | [_], [], _ => rfl) ?a_37 ?l_37 ?c_37 ?k_37 ?next_37
      (case a_37 => k_is)
      (case l_37 => k_is)
      (case c_37 => k_is)
      (case k_37 => k_is)
      intro D_targets
      refine' Wk.with_defD "nodes_within" Wk.s_nodes_within ["node", "closed"] 1 KX G rfl (fun _ _ _ _ _ _ _ us its h1 h2 => match us, its, h1, h2 with | [_], [_], _, _ => ⟨_, rfl, rfl⟩) ?a_38 ?l_38 ?c_38 ?k_38 ?lT_38 ?le_38 ?next_38
      (case a_38 => k_is)
      (case l_38 => k_is)
      (case c_38 => k_is)
      (case k_38 => k_is)
      (case lT_38 => k_is)
      (case le_38 => k_is)
      intro D_within
      refine' Wk.with_defA "is_integer" Ck.sIsInt ["value"] KX G (fun _ _ _ _ _ _ us hl => match us, hl with | [_], _ => rfl) ?a_39 ?l_39 ?c_39 ?k_39 ?next_39
      (case a_39 => k_is)
      (case l_39 => k_is)
      (case c_39 => k_is)
      (case k_39 => k_is)
      intro C_isInt
      refine' Wk.with_defA "is_integer_within" Ck.sIsWithin ["value", "least", "most"] KX G (fun _ _ _ _ _ _ us hl => match us, hl with | [_, _, _], _ => rfl) ?a_40 ?l_40 ?c_40 ?k_40 ?next_40
      (case a_40 => k_is)
      (case l_40 => k_is)
      (case c_40 => k_is)
      (case k_40 => k_is)
      intro C_isWithin
      refine' Wk.with_defA "is_name" Ck.sIsName ["value"] KX G (fun _ _ _ _ _ _ us hl => match us, hl with | [_], _ => rfl) ?a_41 ?l_41 ?c_41 ?k_41 ?next_41
      (case a_41 => k_is)
      (case l_41 => k_is)
      (case c_41 => k_is)
      (case k_41 => k_is)
      intro C_isName
      refine' Wk.with_defA "is_new_name" Ck.sIsNew ["names", "value"] KX G (fun _ _ _ _ _ _ us hl => match us, hl with | [_, _], _ => rfl) ?a_42 ?l_42 ?c_42 ?k_42 ?next_42
      (case a_42 => k_is)
      (case l_42 => k_is)
      (case c_42 => k_is)
      (case k_42 => k_is)
      intro C_isNew
      refine' Wk.with_defA "has_parts" Ck.sHasParts ["tree"] KX G (fun _ _ _ _ _ _ us hl => match us, hl with | [_], _ => rfl) ?a_43 ?l_43 ?c_43 ?k_43 ?next_43
      (case a_43 => k_is)
      (case l_43 => k_is)
      (case c_43 => k_is)
      (case k_43 => k_is)
      intro C_hasParts
      refine' Wk.with_defA "is_outline" Ck.sOutline ["program"] KX G (fun _ _ _ _ _ _ us hl => match us, hl with | [_], _ => rfl) ?a_44 ?l_44 ?c_44 ?k_44 ?next_44
      (case a_44 => k_is)
      (case l_44 => k_is)
      (case c_44 => k_is)
      (case k_44 => k_is)
      intro C_outline
      refine' Wk.with_defA "is_entry" Ck.sEntry ["entry", "functions"] KX G (fun _ _ _ _ _ _ us hl => match us, hl with | [_, _], _ => rfl) ?a_45 ?l_45 ?c_45 ?k_45 ?next_45
      (case a_45 => k_is)
      (case l_45 => k_is)
      (case c_45 => k_is)
      (case k_45 => k_is)
      intro C_entry
      refine' Wk.with_defA "checked" Ck.sChecked ["program"] KX G (fun _ _ _ _ _ _ us hl => match us, hl with | [_], _ => rfl) ?a_46 ?l_46 ?c_46 ?k_46 ?next_46
      (case a_46 => k_is)
      (case l_46 => k_is)
      (case c_46 => k_is)
      (case k_46 => k_is)
      intro C_checked
      refine' Wk.with_defA "size_of_all" Ck.sAll ["check", "trees", "place"] KX G (fun _ _ _ _ _ _ us hl => match us, hl with | [_, _, _], _ => rfl) ?a_47 ?l_47 ?c_47 ?k_47 ?next_47
      (case a_47 => k_is)
      (case l_47 => k_is)
      (case c_47 => k_is)
      (case k_47 => k_is)
      intro C_all
      refine' Wk.with_defA "size_inside" Ck.sInto ["check", "parts", "place"] KX G (fun _ _ _ _ _ _ us hl => match us, hl with | [_, _, _], _ => rfl) ?a_48 ?l_48 ?c_48 ?k_48 ?next_48
      (case a_48 => k_is)
      (case l_48 => k_is)
      (case c_48 => k_is)
      (case k_48 => k_is)
      intro C_into
      refine' Wk.with_defA "size_behind_barrier" Ck.sBar ["check", "parts", "place"] KX G (fun _ _ _ _ _ _ us hl => match us, hl with | [_, _, _], _ => rfl) ?a_49 ?l_49 ?c_49 ?k_49 ?next_49
      (case a_49 => k_is)
      (case l_49 => k_is)
      (case c_49 => k_is)
      (case k_49 => k_is)
      intro C_bar
      refine' Wk.with_defA "size_of_run" Ck.sRun ["check", "tree", "place"] KX G (fun _ _ _ _ _ _ us hl => match us, hl with | [_, _, _], _ => rfl) ?a_50 ?l_50 ?c_50 ?k_50 ?next_50
      (case a_50 => k_is)
      (case l_50 => k_is)
      (case c_50 => k_is)
      (case k_50 => k_is)
      intro C_run
      refine' Wk.with_defA "size_of_status" Ck.sSta ["check", "tree", "place"] KX G (fun _ _ _ _ _ _ us hl => match us, hl with | [_, _, _], _ => rfl) ?a_51 ?l_51 ?c_51 ?k_51 ?next_51
      (case a_51 => k_is)
      (case l_51 => k_is)
      (case c_51 => k_is)
      (case k_51 => k_is)
      intro C_status
      refine' Wk.with_defA "size_with_variable" Ck.sVar ["check", "tree", "place"] KX G (fun _ _ _ _ _ _ us hl => match us, hl with | [_, _, _], _ => rfl) ?a_52 ?l_52 ?c_52 ?k_52 ?next_52
      (case a_52 => k_is)
      (case l_52 => k_is)
      (case c_52 => k_is)
      (case k_52 => k_is)
      intro C_var
      refine' Wk.with_defA "size_of_put" Ck.sPut ["check", "tree", "place"] KX G (fun _ _ _ _ _ _ us hl => match us, hl with | [_, _, _], _ => rfl) ?a_53 ?l_53 ?c_53 ?k_53 ?next_53
      (case a_53 => k_is)
      (case l_53 => k_is)
      (case c_53 => k_is)
      (case k_53 => k_is)
      intro C_put
      refine' Wk.with_defA "size_of_option" Ck.sOpt ["check", "tree", "place"] KX G (fun _ _ _ _ _ _ us hl => match us, hl with | [_, _, _], _ => rfl) ?a_54 ?l_54 ?c_54 ?k_54 ?next_54
      (case a_54 => k_is)
      (case l_54 => k_is)
      (case c_54 => k_is)
      (case k_54 => k_is)
      intro C_option
      refine' Wk.with_defA "size_of_trap" Ck.sTra ["check", "tree", "place"] KX G (fun _ _ _ _ _ _ us hl => match us, hl with | [_, _, _], _ => rfl) ?a_55 ?l_55 ?c_55 ?k_55 ?next_55
      (case a_55 => k_is)
      (case l_55 => k_is)
      (case c_55 => k_is)
      (case k_55 => k_is)
      intro C_trap
      refine' Wk.with_defA "size_of_seq" Ck.sSeq ["check", "tree", "place"] KX G (fun _ _ _ _ _ _ us hl => match us, hl with | [_, _, _], _ => rfl) ?a_56 ?l_56 ?c_56 ?k_56 ?next_56
      (case a_56 => k_is)
      (case l_56 => k_is)
      (case c_56 => k_is)
      (case k_56 => k_is)
      intro C_seq
      refine' Wk.with_defA "size_of_pipe" Ck.sPip ["check", "tree", "place"] KX G (fun _ _ _ _ _ _ us hl => match us, hl with | [_, _, _], _ => rfl) ?a_57 ?l_57 ?c_57 ?k_57 ?next_57
      (case a_57 => k_is)
      (case l_57 => k_is)
      (case c_57 => k_is)
      (case k_57 => k_is)
      intro C_pipe
      refine' Wk.with_defA "size_of_and_or" Ck.sAnd ["check", "tree", "place"] KX G (fun _ _ _ _ _ _ us hl => match us, hl with | [_, _, _], _ => rfl) ?a_58 ?l_58 ?c_58 ?k_58 ?next_58
      (case a_58 => k_is)
      (case l_58 => k_is)
      (case c_58 => k_is)
      (case k_58 => k_is)
      intro C_andor
      refine' Wk.with_defA "size_of_not" Ck.sNot ["check", "tree", "place"] KX G (fun _ _ _ _ _ _ us hl => match us, hl with | [_, _, _], _ => rfl) ?a_59 ?l_59 ?c_59 ?k_59 ?next_59
      (case a_59 => k_is)
      (case l_59 => k_is)
      (case c_59 => k_is)
      (case k_59 => k_is)
      intro C_not
      refine' Wk.with_defA "size_of_sub" Ck.sSub ["check", "tree", "place"] KX G (fun _ _ _ _ _ _ us hl => match us, hl with | [_, _, _], _ => rfl) ?a_60 ?l_60 ?c_60 ?k_60 ?next_60
      (case a_60 => k_is)
      (case l_60 => k_is)
      (case c_60 => k_is)
      (case k_60 => k_is)
      intro C_sub
      refine' Wk.with_defA "size_of_if" Ck.sIff ["check", "tree", "place"] KX G (fun _ _ _ _ _ _ us hl => match us, hl with | [_, _, _], _ => rfl) ?a_61 ?l_61 ?c_61 ?k_61 ?next_61
      (case a_61 => k_is)
      (case l_61 => k_is)
      (case c_61 => k_is)
      (case k_61 => k_is)
      intro C_ife
      refine' Wk.with_defA "size_of_while" Ck.sWhi ["check", "tree", "place"] KX G (fun _ _ _ _ _ _ us hl => match us, hl with | [_, _, _], _ => rfl) ?a_62 ?l_62 ?c_62 ?k_62 ?next_62
      (case a_62 => k_is)
      (case l_62 => k_is)
      (case c_62 => k_is)
      (case k_62 => k_is)
      intro C_whl
      refine' Wk.with_defA "size_of_times" Ck.sTim ["check", "tree", "place"] KX G (fun _ _ _ _ _ _ us hl => match us, hl with | [_, _, _], _ => rfl) ?a_63 ?l_63 ?c_63 ?k_63 ?next_63
      (case a_63 => k_is)
      (case l_63 => k_is)
      (case c_63 => k_is)
      (case k_63 => k_is)
      intro C_times
      refine' Wk.with_defA "size_of_jump" Ck.sJmp ["check", "tree", "place"] KX G (fun _ _ _ _ _ _ us hl => match us, hl with | [_, _, _], _ => rfl) ?a_64 ?l_64 ?c_64 ?k_64 ?next_64
      (case a_64 => k_is)
      (case l_64 => k_is)
      (case c_64 => k_is)
      (case k_64 => k_is)
      intro C_jump
      refine' Wk.with_defA "size_of_call" Ck.sCal ["check", "tree", "place"] KX G (fun _ _ _ _ _ _ us hl => match us, hl with | [_, _, _], _ => rfl) ?a_65 ?l_65 ?c_65 ?k_65 ?next_65
      (case a_65 => k_is)
      (case l_65 => k_is)
      (case c_65 => k_is)
      (case k_65 => k_is)
      intro C_call
      refine' Wk.with_defA "size_of_return" Ck.sRet ["check", "tree", "place"] KX G (fun _ _ _ _ _ _ us hl => match us, hl with | [_, _, _], _ => rfl) ?a_66 ?l_66 ?c_66 ?k_66 ?next_66
      (case a_66 => k_is)
      (case l_66 => k_is)
      (case c_66 => k_is)
      (case k_66 => k_is)
      intro C_ret
      refine' Wk.with_defA "size_of_exit" Ck.sExi ["check", "tree", "place"] KX G (fun _ _ _ _ _ _ us hl => match us, hl with | [_, _, _], _ => rfl) ?a_67 ?l_67 ?c_67 ?k_67 ?next_67
      (case a_67 => k_is)
      (case l_67 => k_is)
      (case c_67 => k_is)
      (case k_67 => k_is)
      intro C_exit
      refine' Wk.with_defA "_law_mixed" Ck.sMixed ["_law_cell", "_law_draw"] KX G (fun _ _ _ _ _ _ us hl => match us, hl with | [_, _], _ => rfl) ?a_68 ?l_68 ?c_68 ?k_68 ?next_68
      (case a_68 => k_is)
      (case l_68 => k_is)
      (case c_68 => k_is)
      (case k_68 => k_is)
      intro L__law_mixed
      refine' Wk.with_defA "_law_source" Ck.sSource ["_law_cell"] KX G (fun _ _ _ _ _ _ us hl => match us, hl with | [_], _ => rfl) ?a_69 ?l_69 ?c_69 ?k_69 ?next_69
      (case a_69 => k_is)
      (case l_69 => k_is)
      (case c_69 => k_is)
      (case k_69 => k_is)
      intro L__law_source
      refine' Wk.with_defA "_law_take" Ck.sTake ["_law_source_here", "_law_bound"] KX G (fun _ _ _ _ _ _ us hl => match us, hl with | [_, _], _ => rfl) ?a_70 ?l_70 ?c_70 ?k_70 ?next_70
      (case a_70 => k_is)
      (case l_70 => k_is)
      (case c_70 => k_is)
      (case k_70 => k_is)
      intro L__law_take
      refine' Wk.with_defA "_law_pick" Ck.sPick ["_law_source_here", "_law_options"] KX G (fun _ _ _ _ _ _ us hl => match us, hl with | [_, _], _ => rfl) ?a_71 ?l_71 ?c_71 ?k_71 ?next_71
      (case a_71 => k_is)
      (case l_71 => k_is)
      (case c_71 => k_is)
      (case k_71 => k_is)
      intro L__law_pick
      refine' Wk.with_defA "_law_jump" Ck.sSmall ["_law_source_here", "_law_loops", "_law_within", "_law_known"] KX G (fun _ _ _ _ _ _ us hl => match us, hl with | [_, _, _, _], _ => rfl) ?a_72 ?l_72 ?c_72 ?k_72 ?next_72
      (case a_72 => k_is)
      (case l_72 => k_is)
      (case c_72 => k_is)
      (case k_72 => k_is)
      intro L__law_jump
      refine' Wk.with_defA "_law_form" Ck.sTree ["_law_source_here", "_law_deep", "_law_loops", "_law_within", "_law_known"] KX G (fun _ _ _ _ _ _ us hl => match us, hl with | [_, _, _, _, _], _ => rfl) ?a_73 ?l_73 ?c_73 ?k_73 ?next_73
      (case a_73 => k_is)
      (case l_73 => k_is)
      (case c_73 => k_is)
      (case k_73 => k_is)
      intro L__law_form
      refine' Wk.with_defA "_law_weight" Ck.sWei ["_law_tree", "_law_sizes"] KX G (fun _ _ _ _ _ _ us hl => match us, hl with | [_, _], _ => rfl) ?a_74 ?l_74 ?c_74 ?k_74 ?next_74
      (case a_74 => k_is)
      (case l_74 => k_is)
      (case c_74 => k_is)
      (case k_74 => k_is)
      intro L__law_weight
      refine' Wk.with_defA "_law_light" Ck.sLig ["_law_tree", "_law_rows"] KX G (fun _ _ _ _ _ _ us hl => match us, hl with | [_, _], _ => rfl) ?a_75 ?l_75 ?c_75 ?k_75 ?next_75
      (case a_75 => k_is)
      (case l_75 => k_is)
      (case c_75 => k_is)
      (case k_75 => k_is)
      intro L__law_light
      refine' Wk.with_defA "_law_plan" Cu.sPlan ["_law_source_here", "_law_many", "_law_deep"] KX G (fun _ _ _ _ _ _ us hl => match us, hl with | [_, _, _], _ => rfl) ?a_76 ?l_76 ?c_76 ?k_76 ?next_76
      (case a_76 => k_is)
      (case l_76 => k_is)
      (case c_76 => k_is)
      (case k_76 => k_is)
      intro L__law_plan
      refine' Wk.with_defA "_law_kids" Wk.sKi ["_law_tree"] KX G (fun _ _ _ _ _ _ us hl => match us, hl with | [_], _ => rfl) ?a_77 ?l_77 ?c_77 ?k_77 ?next_77
      (case a_77 => k_is)
      (case l_77 => k_is)
      (case c_77 => k_is)
      (case k_77 => k_is)
      intro L__law_kids
      refine' Wk.with_defA "_law_leads" Wk.sLd ["_law_tree", "_law_spot", "_law_loops", "_law_shell"] KX G (fun _ _ _ _ _ _ us hl => match us, hl with | [_, _, _, _], _ => rfl) ?a_78 ?l_78 ?c_78 ?k_78 ?next_78
      (case a_78 => k_is)
      (case l_78 => k_is)
      (case c_78 => k_is)
      (case k_78 => k_is)
      intro L__law_leads
      refine' Wk.with_defA "law" W20.s_law ["_law_script"] KX G (fun _ _ _ _ _ _ us hl => match us, hl with | [_], _ => rfl) ?a_79 ?l_79 ?c_79 ?k_79 ?next_79
      (case a_79 => k_is)
      (case l_79 => k_is)
      (case c_79 => k_is)
      (case k_79 => k_is)
      intro L_law
      refine' Wk.with_ktup "LOOPS" [.str "while", .str "until", .str "times"] KX G ?a_80 ?k_80 ?next_80
      (case a_80 => k_is)
      (case k_80 => (apply Wk.ktup_mk; k_is; exact .cons ⟨_, rfl⟩ (.cons ⟨_, rfl⟩ (.cons ⟨_, rfl⟩ .nil)); decide))
      intro L_
      refine' Wk.with_pls (w := w) KX G ?low_81 ?a_81 ?l_81 ?k_81 ?m_81 ?k0_81 ?k1_81 ?k2_81 ?k3_81 ?k4_81 ?k5_81 ?k6_81 ?k7_81 ?k8_81 ?next_81
      (case a_81 => k_is)
      (case low_81 => decide)
      (case l_81 => k_is)
      (case k_81 => repeat (first | exact Wk.keys_nil | apply Wk.keys_cons ⟨_, _, rfl, rfl⟩))
      (case m_81 => rfl)
      (case k0_81 => (apply Wk.ktup_mk; k_is; exact (.cons ⟨_, rfl⟩ .nil); decide))
      (case k1_81 => (apply Wk.ktup_mk; k_is; exact (.cons ⟨_, rfl⟩ (.cons ⟨_, rfl⟩ .nil)); decide))
      (case k2_81 => (apply Wk.ktup_mk; k_is; exact (.cons ⟨_, rfl⟩ (.cons ⟨_, rfl⟩ .nil)); decide))
      (case k3_81 => (apply Wk.ktup_mk; k_is; exact (.cons ⟨_, rfl⟩ .nil); decide))
      (case k4_81 => (apply Wk.ktup_mk; k_is; exact (.cons ⟨_, rfl⟩ (.cons ⟨_, rfl⟩ (.cons ⟨_, rfl⟩ .nil))); decide))
      (case k5_81 => (apply Wk.ktup_mk; k_is; exact (.cons ⟨_, rfl⟩ (.cons ⟨_, rfl⟩ .nil)); decide))
      (case k6_81 => (apply Wk.ktup_mk; k_is; exact (.cons ⟨_, rfl⟩ (.cons ⟨_, rfl⟩ .nil)); decide))
      (case k7_81 => (apply Wk.ktup_mk; k_is; exact (.cons ⟨_, rfl⟩ .nil); decide))
      (case k8_81 => (apply Wk.ktup_mk; k_is; exact (.cons ⟨_, rfl⟩ .nil); decide))
      intro P_
      refine' Wk.with_tables (w := w) KX G C_run C_status C_var C_put C_option C_trap C_seq C_pipe C_andor C_not C_sub C_ife C_whl C_times C_jump C_call C_ret C_exit ?aR_82 ?aS_82 ?lR_82 ?lS_82 ?kR_82 ?kS_82 ?oR_82 ?oS_82 ?mR_82 ?mS_82 ?next_82
      (case aR_82 => k_is)
      (case aS_82 => k_is)
      (case lR_82 => k_is)
      (case lS_82 => k_is)
      (case kR_82 => repeat (first | exact Wk.keys_nil | apply Wk.keys_cons ⟨_, _, rfl, rfl⟩))
      (case kS_82 => repeat (first | exact Wk.keys_nil | apply Wk.keys_cons ⟨_, _, rfl, rfl⟩))
      (case oR_82 => decide)
      (case oS_82 => decide)
      (case mR_82 => exact ⟨Ck.reserved.map fun z => (z, PySem.Value.bool true), rfl, rfl⟩)
      (case mS_82 => rfl)
      intro T0
      have Md0 := Ck.Md.mk N_isinstance N_len N_min N_int N_bool N_str N_tuple I_LONGEST_NAME I_MOST_FUNCTIONS I_MOST_TREES I_MOST_VARIABLES I_MOST_UNFOLDED I_LONGEST_PATH I_GREATEST_NUMBER I_MOST_ROUNDS T0.gR T0.gS T0.kR T0.kS T0.inR T0.inS
      have Z := Ck.Mc.mk Cl.cl Cl.n1 Cl.n2 Cl.n3 Cl.n4 Cl.n5 Cl.n6 Cl.n7 Cl.n8 E_InvalidProgram
      have Tb : ∀ k, mg (Ck.fnName k) = some (.ref (Wk.adr18 _ _ _ _ _ _ _ _ _ _ _ _ _ _ _ _ _ _ k)) := fun k => by cases k <;> first | exact C_run.at_ | exact C_status.at_ | exact C_var.at_ | exact C_put.at_ | exact C_option.at_ | exact C_trap.at_ | exact C_seq.at_ | exact C_pipe.at_ | exact C_andor.at_ | exact C_not.at_ | exact C_sub.at_ | exact C_ife.at_ | exact C_whl.at_ | exact C_times.at_ | exact C_jump.at_ | exact C_call.at_ | exact C_ret.at_ | exact C_exit.at_
      have Ds := Ck.Defs.mk C_isInt.def C_isWithin.def C_isName.def C_isNew.def C_hasParts.def C_outline.def C_entry.def C_checked.def C_all.def C_into.def C_bar.def C_run.def C_status.def C_var.def C_put.def C_option.def C_trap.def C_seq.def C_pipe.def C_andor.def C_not.def C_sub.def C_ife.def C_whl.def C_times.def C_jump.def C_call.def C_ret.def C_exit.def Tb Cl.init Cl.mkk Cl.gC
      have wc := Wk.Wc.mk (C := ⟨_, _, _, _⟩) D_Node.2.1 D_Node.2.1 D_Node.2.1 D_Node.2.1 (fun f m => D_Node.2.2 f ((by decide : ∀ f ∈ (["tree", "word", "path", "parts", "nodes"] : List PySem.Str), f ∈ (["tree", "word", "path", "parts", "nodes", "node", "tested", "place", "held", "started", "rounds", "last", "options", "variables", "traps", "ending", "end_begun", "frames", "calls", "trap_started", "bodies", "shells", "coming", "begun", "asking", "status", "silent", "going", "notes"] : List PySem.Str)) f m)) (fun f m => D_Node.2.2 f ((by decide : ∀ f ∈ (["node", "tested", "place", "held", "started", "rounds"] : List PySem.Str), f ∈ (["tree", "word", "path", "parts", "nodes", "node", "tested", "place", "held", "started", "rounds", "last", "options", "variables", "traps", "ending", "end_begun", "frames", "calls", "trap_started", "bodies", "shells", "coming", "begun", "asking", "status", "silent", "going", "notes"] : List PySem.Str)) f m)) (fun f m => D_Node.2.2 f ((by decide : ∀ f ∈ (["last", "options", "variables", "traps", "ending", "end_begun", "frames", "calls", "trap_started"] : List PySem.Str), f ∈ (["tree", "word", "path", "parts", "nodes", "node", "tested", "place", "held", "started", "rounds", "last", "options", "variables", "traps", "ending", "end_begun", "frames", "calls", "trap_started", "bodies", "shells", "coming", "begun", "asking", "status", "silent", "going", "notes"] : List PySem.Str)) f m)) (fun f m => D_Node.2.2 f ((by decide : ∀ f ∈ (["bodies", "shells", "coming", "tested", "begun", "asking", "status", "silent", "going", "notes"] : List PySem.Str), f ∈ (["tree", "word", "path", "parts", "nodes", "node", "tested", "place", "held", "started", "rounds", "last", "options", "variables", "traps", "ending", "end_begun", "frames", "calls", "trap_started", "bodies", "shells", "coming", "begun", "asking", "status", "silent", "going", "notes"] : List PySem.Str)) f m))
      have DW := Wk.PlD.mk (w := w) wc (Wk.Pc.mk D_Plan.2.1 D_Plan.2.2) L_.1 L_.2 P_ D_Node.1 D_Plan.1 D_Node_part D_parts_of.def D_plan_of.def D_all_nodes.def D_loop_around.def D_shell_around.def D_within D_targets
      exact Wk.the_end hmg Ds Md0 Z DW L_law ⟨L__law_mixed.def, L__law_source.def, L__law_take.def, L__law_pick.def, L__law_jump.def, L__law_form.def, L__law_weight.def, L__law_light.def, L__law_plan.def, L__law_kids.def, L__law_leads.def, N_isinstance, N_len, N_min, N_int, N_bool, N_str, N_tuple, N_enumerate, N_list, N_dict, N_sorted, N_range, N_sum, N_max, N_set, N_repr, N_reversed⟩

