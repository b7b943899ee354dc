import PyProof.Rows.All
import PySem.Str
import PySem.Sem
import PyProof.StrBlockL
import PyProof.Rows.Walk
import Wide.All
import OpenK.AllK
import Wide.FinOn
import Lean
import PyProof.EqAt
import PyProof.EqKinds
import PyProof.TupleCall
import PyProof.SeqRoads2
import PyProof.ExcArgs
import KE.KIsAll
import PySem.Challenge.RW_risecount_k02_made_of_ties
set_option Elab.async false
set_option linter.all false
set_option maxRecDepth 100000
set_option maxHeartbeats 3999999
section
namespace L3
open PySem
inductive D where
 | non
 | bl (b : Bool)
 | int (i : Int)
 | str (x : Str)
 | tup (xs : List D)
 | lst (xs : List D)
 | scr (ns : List Int)
 | dic (ks : List (Sum Int Str)) (xs : List D)
 | dicT (ks : List (List (Sum Int Str))) (xs : List D)
 | exc (c : Str) (a : Nat)
mutual
def D.imm : D -> Bool
 | .non => true
 | .bl _ => true
 | .int _ => true
 | .str _ => true
 | .tup ds => imms ds
 | .lst _ => false
 | .scr _ => true
 | .dic _ _ => false
 | .dicT _ _ => false
 | .exc _ _ => true
def imms : List D -> Bool
 | [] => true
 | d :: ds => d.imm && imms ds
end
abbrev DEnv := List (Option D)
inductive Sv where
 | no
 | ro (d : D)
 | ow (d : D)
abbrev SEnv := List Sv
def Sv.all : Sv -> Option D
 | .no => none
 | .ro d => some d
 | .ow d => some d
def Sv.rd : Sv -> Option D
 | .ro d => some d
 | _ => none
def vAll (ρ : SEnv) : DEnv := ρ.map Sv.all
def vRd (ρ : SEnv) : DEnv := ρ.map Sv.rd
end L3
namespace L4
open PySem L3
inductive M (α : Type) where
 | no
 | ex (c : Str)
 | ok (a : α)
inductive Out where
 | no
 | nx (ρ : SEnv)
 | rt (d : D)
 | ex (c : Str)
abbrev EF := DEnv -> Option D
abbrev TF := DEnv -> Option Bool
abbrev AF := DEnv -> Option (List D)
abbrev XF := SEnv -> Option (SEnv × D)
abbrev SF := SEnv -> Out
abbrev FnF := List D -> M D
def szL : Nat := 16777216
def eVar (i : Nat) : EF := fun ρ => (ρ[i]?).join
def eC (d : D) : EF := fun _ => some d
def eBin (g : D -> D -> Option D) (a b : EF) : EF := fun ρ => (a ρ).bind fun x => (b ρ).bind fun y => g x y
def truthM : D -> Option Bool
 | .bl b => some b
 | .lst ds => some (!ds.isEmpty)
 | .tup ds => some (!ds.isEmpty)
 | _ => none
def tV (f : EF) : TF := fun ρ => (f ρ).bind truthM
def tNot (t : TF) : TF := fun ρ => (t ρ).map (!·)
def tAnd (t u : TF) : TF := fun ρ => (t ρ).bind fun b => if b = true then u ρ else some false
def tOr (t u : TF) : TF := fun ρ => (t ρ).bind fun b => if b = true then some true else u ρ
def boolM : D -> Option Bool
 | .bl b => some b
 | _ => none
def eAnd (a b : EF) : EF := fun ρ => (a ρ).bind fun x => (boolM x).bind fun c => if c = true then b ρ else some (.bl false)
def eOr (a b : EF) : EF := fun ρ => (a ρ).bind fun x => (boolM x).bind fun c => if c = true then some (.bl true) else b ρ
def eNot (a : EF) : EF := fun ρ => (a ρ).bind fun x => (boolM x).map fun c => .bl (!c)
def eIf (t : TF) (a b : EF) : EF := fun ρ => (t ρ).bind fun c => if c = true then a ρ else b ρ
def negM : D -> Option D
 | .int i => some (.int (-i))
 | _ => none
def eNeg (a : EF) : EF := fun ρ => (a ρ).bind negM
def eChain (f g : D -> D -> Option D) (a b c : EF) : EF := fun ρ => (a ρ).bind fun x => (b ρ).bind fun y => (f x y).bind fun z => (boolM z).bind fun k => if k = true then (c ρ).bind fun w => g y w else some (.bl false)
def intM (g : Int -> Int -> D) : D -> D -> Option D
 | .int i, .int j => some (g i j)
 | _, _ => none
def intMC (c : Int -> Int -> Bool) (g : Int -> Int -> D) : D -> D -> Option D
 | .int i, .int j => if c i j = true then some (g i j) else none
 | _, _ => none
def addM : D -> D -> Option D
 | .int i, .int j => some (.int (i + j))
 | .lst a, .lst b => if a.length + b.length <= szL then some (.lst (a ++ b)) else none
 | .tup a, .tup b => if a.length + b.length <= szL then some (.tup (a ++ b)) else none
 | .str a, .str b => if a.length + b.length <= szL then some (.str (a ++ b)) else none
 | _, _ => none
def subM : D -> D -> Option D := intM fun i j => .int (i - j)
def mulOk (i j : Int) : Bool := decide (i.natAbs < 18446744073709551616) || decide (j.natAbs < 18446744073709551616) || decide (i.natAbs.log2 + j.natAbs.log2 <= 134217700)
def mulM : D -> D -> Option D := intMC mulOk fun i j => .int (i * j)
def modM : D -> D -> Option D := intMC (fun _ j => decide (0 < j)) fun i j => .int (i % j)
def divM : D -> D -> Option D := intMC (fun _ j => decide (0 < j) && decide (j.natAbs < 1073741824)) fun i j => .int (i / j)
def powM : D -> D -> Option D := intMC (fun i j => decide (0 <= j) && decide (j.natAbs <= 1000000) && decide (i.natAbs < 18446744073709551616)) fun i j => .int (i ^ j.toNat)
def ltM : D -> D -> Option D := intM fun i j => .bl (decide (i < j))
def leM : D -> D -> Option D := intM fun i j => .bl (decide (i <= j))
def gtM : D -> D -> Option D := intM fun i j => .bl (decide (j < i))
def geM : D -> D -> Option D := intM fun i j => .bl (decide (j <= i))
def scalM : D -> D -> Option Bool
 | .int i, .int j => some (decide (i = j))
 | .bl i, .bl j => some (decide (i = j))
 | .str i, .str j => some (decide (i = j))
 | .non, .non => some true
 | _, _ => none
def eqM : D -> D -> Option D := fun x y => (scalM x y).map .bl
def neM : D -> D -> Option D := fun x y => (scalM x y).map fun b => .bl (!b)
def isNon : D -> Bool
 | .non => true
 | _ => false
def isM : D -> D -> Option D := fun x y => if isNon y = true then some (.bl (isNon x)) else none
def intsOf : List D -> Option (List Int)
 | [] => some []
 | .int i :: ds => (intsOf ds).map (i :: ·)
 | _ :: _ => none
def inM (neg : Bool) : D -> D -> Option D
 | .int i, .tup ds => (intsOf ds).map fun ns => .bl (if neg then !ns.contains i else ns.contains i)
 | .int i, .lst ds => (intsOf ds).map fun ns => .bl (if neg then !ns.contains i else ns.contains i)
 | _, _ => none
def ixP (n : Nat) (i : Int) : Option Nat := if 0 <= i then (if i < n then some i.toNat else none) else if -(n : Int) <= i then some (i + n).toNat else none
def atP {α : Type} (xs : List α) (i : Int) : Option α := (ixP xs.length i).bind fun j => xs[j]?
def ixM : D -> D -> Option D
 | .lst a, .int i => atP a i
 | .tup a, .int i => atP a i
 | .scr a, .int i => (atP a i).map D.int
 | _, _ => none
def keyM : D -> Option (Sum Int Str)
 | .int i => some (.inl i)
 | .str x => some (.inr x)
 | _ => none
def lookM (ks : List (Sum Int Str)) (ds : List D) (k : Sum Int Str) : Option D := ((ks.zip ds).find? fun kv => decide (kv.1 = k)).map (·.2)
def ixDM : D -> D -> Option D
 | .dic ks ds, d => (keyM d).bind fun k => lookM ks ds k
 | _, _ => none
def aNil : AF := fun _ => some []
def aCons (a : EF) (t : AF) : AF := fun ρ => (a ρ).bind fun d => (t ρ).bind fun ds => some (d :: ds)
def eTup (t : AF) : EF := fun ρ => (t ρ).bind fun ds => if ds.length <= szL then some (.tup ds) else none
def eLst (t : AF) : EF := fun ρ => (t ρ).bind fun ds => if ds.length <= szL then some (.lst ds) else none
def eCB (g : List D -> Option D) (t : AF) : EF := fun ρ => (t ρ).bind g
def mOpt : M D -> Option D
 | .ok d => some d
 | _ => none
def eCall (R : FnF) (t : AF) : EF := fun ρ => (t ρ).bind fun ds => mOpt (R ds)
def lenM : List D -> Option D
 | [.lst a] => some (.int a.length)
 | [.tup a] => some (.int a.length)
 | [.scr a] => some (.int a.length)
 | _ => none
def tupleM : List D -> Option D
 | [.lst a] => some (.tup a)
 | [.tup a] => some (.tup a)
 | _ => none
def listM : List D -> Option D
 | [.lst a] => some (.lst a)
 | [.tup a] => some (.lst a)
 | _ => none
def insI (a : Int) : List Int -> List Int
 | [] => [a]
 | b :: l => if a <= b then a :: b :: l else b :: insI a l
def sortI : List Int -> List Int
 | [] => []
 | a :: l => insI a (sortI l)
def sortedM : List D -> Option D
 | [.lst a] => (intsOf a).bind fun ns => if ns.length < 64 then some (.lst ((sortI ns).map D.int)) else none
 | _ => none
def truths : List D -> Option (List Bool)
 | [] => some []
 | d :: ds => (truthM d).bind fun b => (truths ds).map (b :: ·)
def allM : List D -> Option D
 | [.lst a] => (truths a).map fun bs => .bl (bs.all id)
 | _ => none
def anyM : List D -> Option D
 | [.lst a] => (truths a).map fun bs => .bl (bs.any id)
 | _ => none
def tyM : D -> String
 | .non => "NoneType"
 | .bl _ => "bool"
 | .int _ => "int"
 | .str _ => "str"
 | .tup _ => "tuple"
 | .lst _ => "list"
 | .scr _ => "list"
 | .dic _ _ => "dict"
 | .dicT _ _ => "dict"
 | .exc _ _ => "NoneType"
def isTM (T : String) (d : D) : Bool := tyM d == T || (T == "int" && tyM d == "bool")
def notE : D -> Bool
 | .exc _ _ => false
 | _ => true
def eIsi (T : String) (a : EF) : EF := fun ρ => (a ρ).bind fun d => if notE d = true then some (.bl (isTM T d)) else none
def rngP (lo : Int) (n : Nat) : List Int := (List.range n).map fun k : Nat => lo + (k : Int)
def rngQ (hi : Int) (n : Nat) : List Int := (List.range n).map fun k : Nat => hi - (k : Int)
def eListR (t : AF) : EF := fun ρ => (t ρ).bind fun ds => match ds with
 | [.int j] => if j.natAbs <= 16777216 then some (.lst ((rngP 0 j.toNat).map D.int)) else none
 | _ => none
def repLM : D -> D -> Option D
 | .lst a, .int n => if a.length * n.toNat <= szL /\ n.natAbs < 9223372036854775808 then some (.lst (List.replicate n.toNat a).flatten) else none
 | _, _ => none
def repTM : D -> D -> Option D
 | .tup a, .int n => if a.length * n.toNat <= szL /\ n.natAbs < 9223372036854775808 then some (.tup (List.replicate n.toNat a).flatten) else none
 | _, _ => none
def catM : D -> D -> Option D
 | .lst a, .lst b => if a.length + b.length <= szL then some (.lst (a ++ b)) else none
 | _, _ => none
def walkM : D -> Option (List D)
 | .lst ds => some ds
 | .tup ds => some ds
 | _ => none
def iWalk (f : EF) : AF := fun ρ => (f ρ).bind walkM
def rangeM : List D -> Option (List D)
 | [.int j] => if j.natAbs < 4611686018427387904 then some ((rngP 0 j.toNat).map D.int) else none
 | [.int i, .int j] => if i.natAbs < 4611686018427387904 /\ j.natAbs < 4611686018427387904 then some ((rngP i (j - i).toNat).map D.int) else none
 | [.int i, .int j, .int k] => if k = -1 /\ i.natAbs < 1000000 /\ j.natAbs < 1000000 then some ((rngQ i (i - j).toNat).map D.int) else none
 | _ => none
def iRange (t : AF) : AF := fun ρ => (t ρ).bind rangeM
def enumM : List D -> Option (List D)
 | [.lst ds] => some (ds.zipIdx.map fun p => .tup [.int (p.2 : Int), p.1])
 | [.tup ds] => some (ds.zipIdx.map fun p => .tup [.int (p.2 : Int), p.1])
 | _ => none
def iEnum (t : AF) : AF := fun ρ => (t ρ).bind enumM
def zipM : List D -> Option (List D)
 | [a, b] => (walkM a).bind fun xs => (walkM b).map fun ys => (xs.zip ys).map fun p => .tup [p.1, p.2]
 | _ => none
def iZip (t : AF) : AF := fun ρ => (t ρ).bind zipM
def revM : List D -> Option (List D)
 | [.lst ds] => some ds.reverse
 | [.tup ds] => some ds.reverse
 | _ => none
def iRev (t : AF) : AF := fun ρ => (t ρ).bind revM
abbrev GEF := D -> DEnv -> Option DEnv
def g1 (i : Nat) : GEF := fun d ρ => some (ρ.set i (some d))
def pairM : D -> Option (D × D)
 | .tup [x, y] => some (x, y)
 | _ => none
def g2 (i j : Nat) : GEF := fun d ρ => (pairM d).map fun p => (ρ.set i (some p.1)).set j (some p.2)
def tTrue : TF := fun _ => some true
def benv (nl : Nat) (fr : List Nat) (ρ : DEnv) : DEnv := List.replicate nl none ++ fr.map fun j => (ρ[j]?).join
def compF (g : GEF) (t : TF) (e : EF) (ρ : DEnv) : List D -> Option (List D)
 | [] => some []
 | d :: ds => (g d ρ).bind fun ρ1 => (t ρ1).bind fun b => if b = true then (e ρ1).bind fun y => (compF g t e ρ ds).map (y :: ·) else compF g t e ρ ds
def eComp (nl : Nat) (fr : List Nat) (it : AF) (g : GEF) (t : TF) (e : EF) : EF := fun ρ => (it ρ).bind fun ds => if ds.length <= szL then (compF g t e (benv nl fr ρ) ds).map D.lst else none
abbrev OF := DEnv -> Option (Option Int)
def oNo : OF := fun _ => some none
def asInt : D -> Option Int
 | .int i => some i
 | _ => none
def oE (f : EF) : OF := fun ρ => (f ρ).bind fun d => (asInt d).map some
def sIxP (n d : Nat) : Option Int -> Nat
 | none => d
 | some i => if i < 0 then (i + n).toNat else min i.toNat n
def cutP (xs : List D) (lo hi : Option Int) : List D := (xs.drop (sIxP xs.length 0 lo)).take (sIxP xs.length xs.length hi - sIxP xs.length 0 lo)
def slM (d : D) (lo hi : Option Int) : Option D := match d with
 | .lst ds => some (.lst (cutP ds lo hi))
 | .tup ds => some (.tup (cutP ds lo hi))
 | _ => none
def eSl (f : EF) (lo hi : OF) : EF := fun ρ => (f ρ).bind fun d => (lo ρ).bind fun l => (hi ρ).bind fun h => slM d l h
def xPure (f : EF) : XF := fun ρ => (f (vAll ρ)).bind fun d => if d.imm = true then some (ρ, d) else none
def xPureR (f : EF) : XF := fun ρ => (f (vRd ρ)).bind fun d => some (ρ, d)
def ownL : Option Sv -> Option (List D)
 | some (.ow (.lst ds)) => some ds
 | _ => none
def xM1 (i : Nat) (m : List D -> D -> Option (List D × D)) (x : XF) : XF := fun ρ => (ownL ρ[i]?).bind fun _ => (x ρ).bind fun p => (ownL p.1[i]?).bind fun ds => (m ds p.2).map fun q => (p.1.set i (.ow (.lst q.1)), q.2)
def appM : List D -> D -> Option (List D × D) := fun ds d => if ds.length < szL then some (ds ++ [d], .non) else none
def popM : List D -> D -> Option (List D × D)
 | ds, .int k => if k.natAbs < 9223372036854775808 then (ixP ds.length k).bind fun j => (ds[j]?).map fun d => (ds.eraseIdx j, d) else none
 | _, _ => none
def extM : List D -> D -> Option (List D × D)
 | ds, .lst es => if ds.length + es.length <= szL then some (ds ++ es, .non) else none
 | _, _ => none
def xPop0 (i : Nat) : XF := fun ρ => (ownL ρ[i]?).bind fun ds => (ds[ds.length - 1]?).map fun d => (ρ.set i (.ow (.lst ds.dropLast)), d)
def sEnd : SF := fun ρ => .nx ρ
def sSeq (f g : SF) : SF := fun ρ => match f ρ with
 | .nx ρ' => g ρ'
 | o => o
def sRet (f : EF) : SF := fun ρ => match f (vAll ρ) with
 | some d => .rt d
 | none => .no
def sIf (t : TF) (a b : SF) : SF := fun ρ => match t (vAll ρ) with
 | some true => a ρ
 | some false => b ρ
 | none => .no
def sSet (i : Nat) (f : EF) : SF := fun ρ => match f (vRd ρ) with
 | some d => .nx (ρ.set i (.ro d))
 | none => .no
def sSetX (i : Nat) (x : XF) : SF := fun ρ => match x ρ with
 | some p => .nx (p.1.set i (.ro p.2))
 | none => .no
def sOwn (i : Nat) (f : EF) : SF := fun ρ => match f (vRd ρ) with
 | some d => .nx (ρ.set i (.ow d))
 | none => .no
def lstImm : D -> Bool
 | .lst ds => imms ds
 | _ => false
def sOwnI (i : Nat) (f : EF) : SF := fun ρ => match f (vAll ρ) with
 | some d => if lstImm d = true then .nx (ρ.set i (.ow d)) else .no
 | none => .no
def sSetF (i : Nat) (f : EF) : SF := fun ρ => match f (vAll ρ) with
 | some d => if lstImm d = true then .nx (ρ.set i (.ro d)) else .no
 | none => .no
def sOwnD (i : Nat) : SF := fun ρ => .nx (ρ.set i (.ow (.dic [] [])))
def sX (x : XF) : SF := fun ρ => match x ρ with
 | some p => .nx p.1
 | none => .no
def ownDic : Option Sv -> Option (List (Sum Int Str) × List D)
 | some (.ow (.dic ks ds)) => some (ks, ds)
 | _ => none
def sPutN (i : Nat) (x : XF) (k : EF) : SF := fun ρ => match ((x ρ).bind fun p => (ownDic p.1[i]?).bind fun kd => (k (vAll p.1)).bind fun kv => (keyM kv).bind fun kk =>
  if (lookM kd.1 kd.2 kk).isNone = true /\ kd.2.length < szL then some (p.1.set i (.ow (.dic (kd.1 ++ [kk]) (kd.2 ++ [p.2])))) else none) with
 | some ρ' => .nx ρ'
 | none => .no
abbrev GSF := D -> SEnv -> Option SEnv
def gN1 (i : Nat) : GSF := fun d ρ => some (ρ.set i (.ro d))
def gN2 (i j : Nat) : GSF := fun d ρ => (pairM d).map fun p => (ρ.set i (.ro p.1)).set j (.ro p.2)
def loopF (g : GSF) (b : SF) : List D -> SEnv -> Out
 | [], ρ => .nx ρ
 | d :: ds, ρ => match g d ρ with
  | none => .no
  | some ρ1 => match b ρ1 with
   | .nx ρ2 => loopF g b ds ρ2
   | o => o
def sFor (it : AF) (g : GSF) (b : SF) : SF := fun ρ => match it (vRd ρ) with
 | some ds => loopF g b ds ρ
 | none => .no
def whileF (t : TF) (b : SF) : Nat -> SEnv -> Out
 | 0, _ => .no
 | n + 1, ρ => match t (vAll ρ) with
  | none => .no
  | some false => .nx ρ
  | some true => match b ρ with
   | .nx ρ' => whileF t b n ρ'
   | o => o
def whileN : Nat := 1000000
def sWhile (n : Nat) (t : TF) (b : SF) : SF := whileF t b n
def startS (n : Nat) (ds : List D) : SEnv := ds.map Sv.ro ++ List.replicate (n - ds.length) Sv.no
def runF (n np : Nat) (b : SF) : FnF := fun ds => if ds.length = np then (match b (startS n ds) with
 | .rt d => .ok d
 | .nx _ => .ok .non
 | .ex c => .ex c
 | .no => .no) else .no
end L4
end
section
namespace L4
open PySem L3
def lexI : List Int -> List Int -> Bool
 | [], [] => false
 | [], _ :: _ => true
 | _ :: _, [] => false
 | a :: as, b :: bs => if a = b then lexI as bs else decide (a < b)
def insT (t : List Int) : List (List Int) -> List (List Int)
 | [] => [t]
 | u :: us => if lexI u t = true then u :: insT t us else t :: u :: us
def sortT : List (List Int) -> List (List Int)
 | [] => []
 | t :: ts => insT t (sortT ts)
def tupD (t : List Int) : D := .tup (t.map D.int)
def tupOf : D -> Option (List Int)
 | .tup ds => intsOf ds
 | _ => none
def tupsOf : List D -> Option (List (List Int))
 | [] => some []
 | d :: ds => (tupOf d).bind fun t => (tupsOf ds).map (t :: ·)
def sortTM : List D -> Option D
 | [.lst a] => (tupsOf a).bind fun ts => if ts.length < 64 /\ ts.all (fun t => !t.isEmpty) = true then some (.lst ((sortT ts).map tupD)) else none
 | _ => none
theorem lex_as : ∀ a b : List Int, lexI a b = true -> lexI b a = false
 | [], [], h => by cases h
 | [], _ :: _, _ => rfl
 | _ :: _, [], h => by cases h
 | a :: as, b :: bs, h => by
  unfold lexI at h ⊢
  by_cases e : a = b
  ·rw [if_pos e] at h; rw [if_pos e.symm]; exact lex_as as bs h
  ·rw [if_neg e] at h; rw [if_neg (Ne.symm e)]; simp at h ⊢; omega
theorem lex_tr : ∀ a b c : List Int, lexI b a = false -> lexI c b = false -> lexI c a = false
 | [], [], c, h1, h2 => h2
 | [], b :: bs, [], h1, h2 => rfl
 | [], b :: bs, c :: cs, h1, h2 => rfl
 | a :: as, [], c, h1, h2 => by cases h1
 | a :: as, b :: bs, [], h1, h2 => by cases h2
 | a :: as, b :: bs, c :: cs, h1, h2 => by
  unfold lexI at h1 h2 ⊢
  by_cases e1 : b = a
  ·subst e1
   rw [if_pos rfl] at h1
   by_cases e2 : c = b
   ·subst e2; rw [if_pos rfl] at h2 ⊢; exact lex_tr as bs cs h1 h2
   ·rw [if_neg e2] at h2 ⊢; exact h2
  ·rw [if_neg e1] at h1
   by_cases e2 : c = b
   ·subst e2; rw [if_neg e1]; exact h1
   ·rw [if_neg e2] at h2
    simp at h1 h2
    rw [if_neg (by omega)]
    simp; omega
theorem lex_eq : ∀ a b : List Int, lexI a b = false -> lexI b a = false -> a = b
 | [], [], _, _ => rfl
 | [], _ :: _, h1, _ => by cases h1
 | _ :: _, [], _, h2 => by cases h2
 | a :: as, b :: bs, h1, h2 => by
  unfold lexI at h1 h2
  by_cases e : a = b
  ·subst e; rw [if_pos rfl] at h1 h2; rw [lex_eq as bs h1 h2]
  ·rw [if_neg e] at h1; rw [if_neg (Ne.symm e)] at h2; simp at h1 h2; omega
theorem insT_perm (t : List Int) : ∀ l, (insT t l).Perm (t :: l)
 | [] => .refl _
 | u :: us => by
  unfold insT
  by_cases h : lexI u t = true
  ·rw [if_pos h]; exact ((insT_perm t us).cons u).trans (.swap t u us)
  ·rw [if_neg h]
theorem sortT_perm : ∀ l, (sortT l).Perm l
 | [] => .refl _
 | t :: ts => (insT_perm t _).trans ((sortT_perm ts).cons t)
def UpT (l : List (List Int)) : Prop := l.Pairwise fun a b => lexI b a = false
theorem insT_up (t : List Int) : ∀ l, UpT l -> UpT (insT t l)
 | [], _ => List.pairwise_singleton _ _
 | u :: us, h => by
  have ⟨h1, h2⟩ := List.pairwise_cons.mp h
  unfold insT
  by_cases e : lexI u t = true
  ·rw [if_pos e]
   refine List.pairwise_cons.mpr ⟨fun x hx => ?_, insT_up t us h2⟩
   rcases List.mem_cons.mp ((insT_perm t us).mem_iff.mp hx) with rfl | hx
   ·exact lex_as _ _ e
   ·exact h1 x hx
  ·rw [if_neg e]
   have e : lexI u t = false := by simpa using e
   refine List.pairwise_cons.mpr ⟨fun x hx => ?_, h⟩
   rcases (List.mem_cons.mp hx : x = u \/ x ∈ us) with rfl | hx
   ·exact e
   ·exact lex_tr t u x e (h1 x hx)
theorem sortT_up : ∀ l, UpT (sortT l)
 | [] => .nil
 | t :: ts => insT_up t _ (sortT_up ts)
theorem upT_one : ∀ {l m : List (List Int)}, l.Perm m -> UpT l -> UpT m -> l = m
 | [], m, p, _, _ => by rw [List.nil_perm.mp p]
 | a :: l, [], p, _, _ => by have := p.length_eq; simp at this
 | a :: l, b :: m, p, h1, h2 => by
  obtain ⟨a1, a2⟩ := List.pairwise_cons.mp h1
  obtain ⟨b1, b2⟩ := List.pairwise_cons.mp h2
  have e : a = b := by
   have ha := List.mem_cons.mp (p.mem_iff.mp List.mem_cons_self)
   have hb := List.mem_cons.mp (p.mem_iff.mpr List.mem_cons_self)
   rcases ha with h | h
   ·exact h
   ·rcases hb with h' | h'
    ·exact h'.symm
    ·exact lex_eq _ _ (b1 a h) (a1 b h')
  subst e
  rw [upT_one p.cons_inv a2 b2]
def eqPs (f : D -> D -> Option Bool) : List D -> List D -> Option Bool
 | d :: ds, e :: es => (f d e).bind fun x => (eqPs f ds es).map (x && ·)
 | _, _ => some true
def eqP : Nat -> D -> D -> Option Bool
 | _, .int i, .int j => some (decide (i = j))
 | _, .bl i, .bl j => if i = j then some true else none
 | _, .str i, .str j => if i = j then some true else none
 | n + 1, .tup a, .tup b => (eqPs (eqP n) a b).map fun r => r && decide (a.length = b.length)
 | _, _, _ => none
def eqTM : D -> D -> Option D := fun x y => (eqP 8 x y).map D.bl
abbrev RF := DEnv -> Option Str
def exOf : M D -> Option Str
 | .ex c => some c
 | _ => none
def rCall (R : FnF) (t : AF) : RF := fun ρ => (t ρ).bind fun ds => exOf (R ds)
def sThr (r : RF) (f : SF) : SF := fun ρ => match r (vAll ρ) with
 | some c => .ex c
 | none => f ρ
def sRaiseA (t : AF) (c : Str) : SF := fun ρ => match t (vAll ρ) with
 | some ds => if ds.length <= 10 then .ex c else .no
 | none => .no
def eIsE (c : Str) (e : Nat) (b : Bool) (i : Nat) : EF := fun ρ => match eVar i ρ with
 | some (.exc c' a) => if c' = c /\ a = e then some (.bl b) else none
 | _ => none
theorem eIsE_of {c : Str} {e i : Nat} {b : Bool} {ρ : DEnv} {d : D} (h : eIsE c e b i ρ = some d) : eVar i ρ = some (.exc c e) /\ d = .bl b := by
 unfold eIsE at h
 split at h
 ·rename_i c' a q
  by_cases z : c' = c /\ a = e
  ·rw [if_pos z] at h
   cases h
   rw [q, z.1, z.2]
   exact ⟨rfl, rfl⟩
  ·rw [if_neg z] at h; cases h
 ·cases h
def sTry (fb : SF) (fh : Str -> Option D) : SF := fun ρ => match fb ρ with
 | .ex c => (match fh c with
  | some d => .rt d
  | none => .no)
 | o => o
def powGM : D -> D -> Option D := intMC (fun i j => decide (0 <= j) && decide (j <= 100) && decide (i.natAbs < 2 ^ 1000)) fun i j => .int (i ^ j.toNat)
def rNext (f : EF) (r : RF) : RF := fun ρ => (f ρ).bind fun _ => r ρ
def splitM : D -> D -> Option D
 | .str x, .str y => if x.length + 2 <= szL /\ (y.length == 0) = false then some (.lst ((Txt.split x y).map D.str)) else none
 | _, _ => none
def xIns (i : Nat) (fa fb : EF) : XF := fun ρ => (ownL ρ[i]?).bind fun ds => (fa (vAll ρ)).bind fun k => (asInt k).bind fun kk => (fb (vAll ρ)).bind fun d =>
 if d.imm = true /\ 0 <= kk /\ kk <= (ds.length : Int) /\ ds.length < szL then some (ρ.set i (.ow (.lst (ds.take kk.toNat ++ d :: ds.drop kk.toNat))), .non) else none
def sAsg (x : XF) (g : GSF) : SF := fun ρ => match (x ρ).bind fun p => g p.2 p.1 with
 | some ρ' => .nx ρ'
 | none => .no
def sNox (f : SF) : SF := fun ρ => match f ρ with
 | .ex _ => .no
 | o => o
def putN (ns : List Int) (k : Int) : List Int := if k ∈ ns then ns else ns ++ [k]
def nubI (ns : List Int) : List Int := ns.foldl putN []
def sortedSetM : List D -> Option D
 | [.tup ds] => (intsOf ds).bind fun ns => if ns.length < 64 then some (.lst ((sortI (nubI ns)).map D.int)) else none
 | _ => none
end L4
end
section
namespace Ord
structure Rows (rows : List (List Int)) : Prop where
 up : ∀ (b : Nat) (r : List Int), rows[b]? = some r -> r.Pairwise (· < ·)
 rng : ∀ (b : Nat) (r : List Int), rows[b]? = some r -> ∀ a ∈ r, 0 <= a /\ a < (rows.length : Int)
 tr : ∀ (b a : Nat) (r v : List Int), rows[b]? = some r -> (a : Int) ∈ r -> rows[a]? = some v -> ∀ c ∈ v, c ∈ r
 irr : ∀ (b : Nat) (r : List Int), rows[b]? = some r -> (b : Int) ∉ r
theorem cons_erase {α : Type} : ∀ (l : List α) (j : Nat) (x : α), l[j]? = some x -> (x :: l.eraseIdx j).Perm l
 | [], j, x, h => by simp at h
 | a :: l, 0, x, h => by simp at h; subst h; simp
 | a :: l, j + 1, x, h => by
  have ih := cons_erase l j x (by simpa using h)
  rw [List.eraseIdx_cons_succ]
  exact (List.Perm.swap a x _).trans (ih.cons a)
theorem nodup_filter {l : List Int} (p : Int -> Bool) (h : l.Nodup) : (l.filter p).Nodup := List.Pairwise.filter p h
def Under (word : List Int) (us : List (List Int)) (t : Nat) (u : List Int) : Prop :=
 u.Nodup /\ ∀ a ∈ u, ∃ (s : Nat) (v : List Int), s < t /\ word[s]? = some a /\ us[s]? = some v /\ ∀ c ∈ v, c ∈ u
def Good (word : List Int) (us : List (List Int)) : Prop := ∀ (t : Nat) (u : List Int), us[t]? = some u -> Under word us t u
theorem Under.mono {word : List Int} {us : List (List Int)} {t t' : Nat} {u : List Int} (h : Under word us t u) (ht : t <= t') : Under word us t' u :=
 ⟨h.1, fun a ha => by obtain ⟨s, v, h1, h2, h3, h4⟩ := h.2 a ha; exact ⟨s, v, by omega, h2, h3, h4⟩⟩
theorem ix_inj {word : List Int} (h : word.Nodup) {i j : Nat} {a : Int} (hi : word[i]? = some a) (hj : word[j]? = some a) : i = j := by
 obtain ⟨h1, e1⟩ := List.getElem?_eq_some_iff.mp hi
 obtain ⟨h2, e2⟩ := List.getElem?_eq_some_iff.mp hj
 exact (List.getElem_inj h).mp (e1.trans e2.symm)
theorem Under.step {word : List Int} {us : List (List Int)} {i : Nat} {u v : List Int} {x : Int} (hw : word.Nodup) (g : Good word us) (h : Under word us i u) (hx : word[i]? = some x) (hv : us[i]? = some v) :
  Under word us (i + 1) (u ++ (v ++ [x]).filter fun a => !u.contains a) := by
 have gv := g i v hv
 have mem : ∀ c, c ∈ v ++ [x] -> c ∈ u ++ (v ++ [x]).filter fun a => !u.contains a := fun c hc => by
  by_cases hu : c ∈ u
  ·exact List.mem_append_left _ hu
  ·exact List.mem_append_right _ (List.mem_filter.mpr ⟨hc, by simpa using hu⟩)
 have nv : (v ++ [x]).Nodup := by
  refine List.nodup_append.mpr ⟨gv.1, by simp, fun a ha b hb e => ?_⟩
  have hb := List.mem_singleton.mp hb
  subst hb
  subst e
  obtain ⟨s, _, h1, h2, _⟩ := gv.2 a ha
  have := ix_inj hw h2 hx
  omega
 refine ⟨List.nodup_append.mpr ⟨h.1, nodup_filter _ nv, fun a ha b hb e => ?_⟩, fun a ha => ?_⟩
 ·subst e
  have := (List.mem_filter.mp hb).2
  simp at this
  exact this ha
 ·rcases List.mem_append.mp ha with h1 | h1
  ·obtain ⟨s, z, a1, a2, a3, a4⟩ := h.2 a h1
   exact ⟨s, z, by omega, a2, a3, fun c hc => List.mem_append_left _ (a4 c hc)⟩
  ·rcases List.mem_append.mp (List.mem_filter.mp h1).1 with h2 | h2
   ·obtain ⟨s, z, a1, a2, a3, a4⟩ := gv.2 a h2
    exact ⟨s, z, by omega, a2, a3, fun c hc => mem c (List.mem_append_left _ (a4 c hc))⟩
   ·have e := List.mem_singleton.mp h2
    subst e
    exact ⟨i, v, by omega, hx, hv, fun c hc => mem c (List.mem_append_left _ hc)⟩
theorem Good.snoc {word : List Int} {us : List (List Int)} {u : List Int} (g : Good word us) (h : Under word us us.length u) : Good word (us ++ [u]) := fun t z e => by
 have old : ∀ {s : Nat} {v : List Int}, us[s]? = some v -> (us ++ [u])[s]? = some v := fun {s v} e => by rw [List.getElem?_append_left (List.getElem?_eq_some_iff.mp e).1]; exact e
 have up : ∀ {t : Nat} {z : List Int}, Under word us t z -> Under word (us ++ [u]) t z := fun {t z} q => ⟨q.1, fun a ha => by obtain ⟨s, v, a1, a2, a3, a4⟩ := q.2 a ha; exact ⟨s, v, a1, a2, old a3, a4⟩⟩
 by_cases ht : t < us.length
 ·rw [List.getElem?_append_left ht] at e
  exact up (g t z e)
 ·have et : t = us.length := by
   have := (List.getElem?_eq_some_iff.mp e).1
   simp at this
   omega
  subst et
  rw [List.getElem?_append_right (Nat.le_refl _), Nat.sub_self] at e
  have e : u = z := by simpa using e
  subst e
  exact up h
theorem Good.rows {word : List Int} {us rows : List (List Int)} {n : Nat} (g : Good word us) (hu : us.length = n) (hw : word.Perm ((List.range n).map fun k : Nat => (k : Int))) (hr : rows.length = n)
  (h : ∀ (b t : Nat) (r u : List Int), rows[b]? = some r -> word[t]? = some (b : Int) -> us[t]? = some u -> r.Perm u /\ r.Pairwise (· <= ·)) : Rows rows := by
 have nd : word.Nodup := hw.nodup_iff.mpr (by
  refine List.Pairwise.map _ (fun a b hab => ?_) List.nodup_range
  intro e
  exact hab (by omega))
 have find : ∀ (b : Nat), b < n -> ∃ t u, word[t]? = some (b : Int) /\ us[t]? = some u := fun b hb => by
  have hm : (b : Int) ∈ word := hw.mem_iff.mpr (List.mem_map.mpr ⟨b, List.mem_range.mpr hb, rfl⟩)
  obtain ⟨t, ht⟩ := List.mem_iff_getElem?.mp hm
  have hl : word.length = n := by rw [hw.length_eq, List.length_map, List.length_range]
  have := (List.getElem?_eq_some_iff.mp ht).1
  exact ⟨t, us[t]'(by omega), ht, List.getElem?_eq_getElem (by omega)⟩
 have row : ∀ (b : Nat) (r : List Int), rows[b]? = some r -> ∃ t u, word[t]? = some (b : Int) /\ us[t]? = some u /\ r.Perm u /\ r.Pairwise (· <= ·) := fun b r e => by
  have hb := (List.getElem?_eq_some_iff.mp e).1
  obtain ⟨t, u, h1, h2⟩ := find b (by omega)
  exact ⟨t, u, h1, h2, h b t r u e h1 h2⟩
 refine ⟨fun b r e => ?_, fun b r e a ha => ?_, fun b a r v e ha ev c hc => ?_, fun b r e hb => ?_⟩
 ·obtain ⟨t, u, h1, h2, h3, h4⟩ := row b r e
  have n1 : r.Nodup := h3.nodup_iff.mpr (g t u h2).1
  exact (List.pairwise_and_iff.mpr ⟨h4, n1⟩).imp fun q => by have := q.1; have := q.2; omega
 ·obtain ⟨t, u, h1, h2, h3, h4⟩ := row b r e
  obtain ⟨s, z, _, a2, _⟩ := (g t u h2).2 a (h3.mem_iff.mp ha)
  have hm := hw.mem_iff.mp (List.mem_of_getElem? a2)
  obtain ⟨k, hk, rfl⟩ := List.mem_map.mp hm
  have := List.mem_range.mp hk
  omega
 ·obtain ⟨t, u, h1, h2, h3, h4⟩ := row b r e
  obtain ⟨t2, u2, k1, k2, k3, k4⟩ := row a v ev
  obtain ⟨s, z, _, a2, a3, a4⟩ := (g t u h2).2 _ (h3.mem_iff.mp ha)
  have es := ix_inj nd a2 k1
  subst es
  rw [k2] at a3
  cases a3
  exact h3.mem_iff.mpr (a4 c (k3.mem_iff.mp hc))
 ·obtain ⟨t, u, h1, h2, h3, h4⟩ := row b r e
  obtain ⟨s, z, a1, a2, _⟩ := (g t u h2).2 _ (h3.mem_iff.mp hb)
  have := ix_inj nd a2 h1
  omega
def tri : Nat -> Nat
 | 0 => 0
 | j + 1 => tri j + j
theorem tri_le {i j : Nat} (h : i <= j) : tri i <= tri j := by
 induction h with
 | refl => exact Nat.le_refl _
 | step _ ih => exact Nat.le_trans ih (Nat.le_add_right _ _)
theorem tri_lt {n j i : Nat} (hj : j < n) (hi : i < j) : tri j + i < tri n := by
 have := tri_le (show j + 1 <= n by omega)
 show tri j + i < tri n
 have e : tri (j + 1) = tri j + j := rfl
 omega
theorem length_sub : ∀ (l m : List Int), l.Nodup -> (∀ a ∈ l, a ∈ m) -> l.length <= m.length
 | [], m, _, _ => Nat.zero_le _
 | a :: l, m, h, hs => by
  obtain ⟨h1, h2⟩ := List.nodup_cons.mp h
  have ha := hs a List.mem_cons_self
  have ih := length_sub l (m.erase a) h2 fun b hb => by
   have : b ≠ a := fun e => h1 (e ▸ hb)
   exact (List.mem_erase_of_ne this).mpr (hs b (List.mem_cons_of_mem _ hb))
  rw [List.length_erase_of_mem ha] at ih
  have : 0 < m.length := List.length_pos_of_mem ha
  rw [List.length_cons]
  omega
end Ord
end
section
namespace LL
open PySem L3 L4
def f_l_cell : FnF := runF 2 2
  (sSeq (sIf (tV (eBin eqM (eCB lenM (aCons (eVar 0) aNil)) (eC (.int 0))))
   (sRet (eC (.int 0)))
   sEnd)
  (sRet (eBin ixM (eVar 0) (eBin modM (eVar 1) (eCB lenM (aCons (eVar 0) aNil))))))
def f_l_mixed : FnF := runF 5 3
  (sSeq (sSet 3 (eBin modM (eBin mulM (eBin addM (eBin addM (eBin addM (eVar 0) (eBin mulM (eBin mulM (eC (.int 11)) (eVar 1)) (eVar 1))) (eBin mulM (eC (.int 17)) (eVar 1))) (eVar 2)) (eC (.int 48271))) (eC (.int 2147483647))))
  (sSeq (sSet 4 (eBin modM (eBin addM (eBin addM (eBin mulM (eVar 3) (eBin addM (eBin divM (eVar 3) (eC (.int 4096))) (eC (.int 5)))) (eBin mulM (eC (.int 29)) (eVar 1))) (eVar 2)) (eC (.int 2147483629))))
  (sRet (eBin modM (eBin mulM (eVar 4) (eC (.int 39373))) (eC (.int 1000000007))))))
def f_l_draws : FnF := runF 6 3
  (sSeq (sOwn 3 (eLst aNil))
  (sSeq (sSet 4 (eC (.int 0)))
  (sSeq (sIf (tV (eBin geM (eVar 0) (eBin powM (eC (.int 10)) (eC (.int 18)))))
   (sSet 4 (eVar 0))
   sEnd)
  (sSeq (sFor (iRange (aCons (eVar 1) aNil)) (gN1 5)
   (sIf (tV (eBin gtM (eVar 4) (eC (.int 0))))
    (sSeq (sX (xM1 3 appM (xPureR (eBin modM (eVar 4) (eC (.int 64))))))
    (sSet 4 (eBin divM (eVar 4) (eC (.int 64)))))
    (sX (xM1 3 appM (xPureR (eCall LL.f_l_mixed (aCons (eVar 0) (aCons (eVar 5) (aCons (eVar 2) aNil)))))))))
  (sRet (eVar 3))))))
def f_l_same : Nat -> FnF
 | 0 => fun _ => .no
 | n + 1 => runF 2 2
  (sSeq (sIf (tV (eIsi "tuple" (eVar 1)))
   (sSeq (sIf (tOr (tNot (tV (eIsi "tuple" (eVar 0)))) (tV (eBin neM (eCB lenM (aCons (eVar 0) aNil)) (eCB lenM (aCons (eVar 1) aNil)))))
    (sRet (eC (.bl false)))
    sEnd)
   (sRet (eCB allM (aCons (eComp 1 [0, 1] (iRange (aCons (eCB lenM (aCons (eVar 1) aNil)) aNil)) (g1 0) tTrue (eCall (f_l_same n) (aCons (eBin ixM (eVar 1) (eVar 0)) (aCons (eBin ixM (eVar 2) (eVar 0)) aNil)))) aNil))))
   sEnd)
  (sSeq (sIf (tV (eBin isM (eVar 1) (eC .non)))
   (sRet (eBin isM (eVar 0) (eC .non)))
   sEnd)
  (sSeq (sIf (tV (eIsi "bool" (eVar 1)))
   (sRet (eAnd (eIsi "bool" (eVar 0)) (eBin eqM (eVar 0) (eVar 1))))
   sEnd)
  (sSeq (sIf (tV (eIsi "int" (eVar 1)))
   (sRet (eAnd (eIsi "int" (eVar 0)) (eAnd (eNot (eIsi "bool" (eVar 0))) (eBin eqM (eVar 0) (eVar 1)))))
   sEnd)
  (sRet (eAnd (eIsi "str" (eVar 0)) (eBin eqM (eVar 0) (eVar 1))))))))
def f_l_order : FnF := runF 11 3
  (sSeq (sOwn 3 (eListR (aCons (eVar 1) aNil)))
  (sSeq (sOwn 4 (eLst aNil))
  (sSeq (sFor (iRange (aCons (eVar 1) aNil)) (gN1 5)
   (sX (xM1 4 appM (xM1 3 popM (xPure (eBin modM (eBin ixM (eVar 0) (eVar 5)) (eCB lenM (aCons (eVar 3) aNil))))))))
  (sSeq (sOwnD 6)
  (sSeq (sSet 7 (eVar 1))
  (sSeq (sFor (iRange (aCons (eVar 1) aNil)) (gN1 8)
   (sSeq (sSet 9 (eLst aNil))
   (sSeq (sFor (iRange (aCons (eVar 8) aNil)) (gN1 10)
    (sSeq (sIf (tV (eBin ltM (eBin modM (eBin ixM (eVar 0) (eVar 7)) (eC (.int 4))) (eVar 2)))
     (sSetF 9 (eBin catM (eVar 9) (eComp 1 [9] (iWalk (eBin addM (eBin ixDM (eVar 6) (eBin ixM (eVar 4) (eVar 10))) (eLst (aCons (eBin ixM (eVar 4) (eVar 10)) aNil)))) (g1 0) (tV (eBin (inM true) (eVar 0) (eVar 1))) (eVar 0))))
     sEnd)
    (sSet 7 (eBin addM (eVar 7) (eC (.int 1))))))
   (sPutN 6 (xPureR (eVar 9)) (eBin ixM (eVar 4) (eVar 8))))))
  (sRet (eCB tupleM (aCons (eComp 1 [6] (iRange (aCons (eVar 1) aNil)) (g1 0) tTrue (eCB tupleM (aCons (eCB sortedM (aCons (eBin ixDM (eVar 1) (eVar 0)) aNil)) aNil))) aNil)))))))))
def f_l_drawn : FnF := runF 7 4
  (sSeq (sSet 4 (eCall LL.f_l_draws (aCons (eCall LL.f_l_cell (aCons (eVar 0) (aCons (eVar 1) aNil))) (aCons (eC (.int 4)) (aCons (eVar 3) aNil)))))
  (sSeq (sSet 5 (eBin modM (eBin ixM (eVar 4) (eC (.int 0))) (eBin addM (eVar 2) (eC (.int 1)))))
  (sSeq (sSet 6 (eCall LL.f_l_draws (aCons (eCall LL.f_l_cell (aCons (eVar 0) (aCons (eBin addM (eVar 1) (eC (.int 1))) aNil))) (aCons (eBin addM (eVar 5) (eBin divM (eBin mulM (eVar 5) (eBin subM (eVar 5) (eC (.int 1)))) (eC (.int 2)))) (aCons (eBin addM (eVar 3) (eC (.int 10007))) aNil)))))
  (sRet (eCall LL.f_l_order (aCons (eVar 6) (aCons (eVar 5) (aCons (eBin ixM (eLst (aCons (eC (.int 1)) (aCons (eC (.int 1)) (aCons (eC (.int 2)) (aCons (eC (.int 2)) (aCons (eC (.int 3)) (aCons (eC (.int 1)) (aCons (eC (.int 0)) (aCons (eC (.int 4)) aNil))))))))) (eBin modM (eBin ixM (eVar 4) (eC (.int 1))) (eC (.int 8)))) aNil))))))))
def tupI (xs : List Int) : D := .tup (xs.map D.int)
def lstI (xs : List Int) : D := .lst (xs.map D.int)
def ordD (rows : List (List Int)) : D := .tup (rows.map tupI)
theorem addM_int {i j : Int} : addM (.int i) (.int j) = some (.int (i + j)) := rfl
theorem subM_int {i j : Int} : subM (.int i) (.int j) = some (.int (i - j)) := rfl
theorem modM_int {i j : Int} (h : 0 < j) : modM (.int i) (.int j) = some (.int (i % j)) := by simp [modM, intMC, h]
theorem divM_int {i j : Int} (h : 0 < j) (h2 : j < 1073741824) : divM (.int i) (.int j) = some (.int (i / j)) := by simp [divM, intMC, h, show j.natAbs < 1073741824 by omega]
theorem ltM_int {i j : Int} : ltM (.int i) (.int j) = some (.bl (decide (i < j))) := rfl
theorem leM_int {i j : Int} : leM (.int i) (.int j) = some (.bl (decide (i <= j))) := rfl
theorem gtM_int {i j : Int} : gtM (.int i) (.int j) = some (.bl (decide (j < i))) := rfl
theorem geM_int {i j : Int} : geM (.int i) (.int j) = some (.bl (decide (j <= i))) := rfl
theorem eqM_int {i j : Int} : eqM (.int i) (.int j) = some (.bl (decide (i = j))) := rfl
theorem neM_int {i j : Int} : neM (.int i) (.int j) = some (.bl (!decide (i = j))) := rfl
theorem eqM_bl {i j : Bool} : eqM (.bl i) (.bl j) = some (.bl (decide (i = j))) := rfl
theorem eqM_str {i j : Str} : eqM (.str i) (.str j) = some (.bl (decide (i = j))) := rfl
theorem isM_non {d : D} : isM d .non = some (.bl (isNon d)) := rfl
theorem ixM_lst {a : List D} {i : Int} : ixM (.lst a) (.int i) = atP a i := rfl
theorem ixM_tup {a : List D} {i : Int} : ixM (.tup a) (.int i) = atP a i := rfl
theorem ixM_scr {a : List Int} {i : Int} : ixM (.scr a) (.int i) = (atP a i).map D.int := rfl
theorem lenM_lst {a : List D} : lenM [.lst a] = some (.int a.length) := rfl
theorem lenM_tup {a : List D} : lenM [.tup a] = some (.int a.length) := rfl
theorem lenM_scr {a : List Int} : lenM [.scr a] = some (.int a.length) := rfl
theorem tupleM_lst {a : List D} : tupleM [.lst a] = some (.tup a) := rfl
theorem tupleM_tup {a : List D} : tupleM [.tup a] = some (.tup a) := rfl
theorem listM_lst {a : List D} : listM [.lst a] = some (.lst a) := rfl
theorem listM_tup {a : List D} : listM [.tup a] = some (.lst a) := rfl
theorem walkM_lst {a : List D} : walkM (.lst a) = some a := rfl
theorem walkM_tup {a : List D} : walkM (.tup a) = some a := rfl
theorem truthM_bl {b : Bool} : truthM (.bl b) = some b := rfl
theorem truthM_lst {b : List D} : truthM (.lst b) = some (!b.isEmpty) := rfl
theorem truthM_tup {b : List D} : truthM (.tup b) = some (!b.isEmpty) := rfl
theorem boolM_bl {b : Bool} : boolM (.bl b) = some b := rfl
theorem appM_ok {ds : List D} {d : D} (h : ds.length < 16777216) : appM ds d = some (ds ++ [d], .non) := if_pos h
theorem enumM_tup {ds : List D} : enumM [.tup ds] = some (ds.zipIdx.map fun p => .tup [.int (p.2 : Int), p.1]) := rfl
theorem enumM_lst {ds : List D} : enumM [.lst ds] = some (ds.zipIdx.map fun p => .tup [.int (p.2 : Int), p.1]) := rfl
theorem revM_tup {ds : List D} : revM [.tup ds] = some ds.reverse := rfl
theorem revM_lst {ds : List D} : revM [.lst ds] = some ds.reverse := rfl
theorem eTup_ok {t : AF} {ρ : DEnv} {ds : List D} (h : t ρ = some ds) (hl : ds.length <= 16777216) : eTup t ρ = some (.tup ds) := by
 unfold eTup; rw [h]; exact if_pos hl
theorem runE {n np : Nat} {b : SF} {ds : List D} {d : D} (hl : ds.length = np) (h : b (startS n ds) = .rt d) : runF n np b ds = .ok d := by
 unfold runF; rw [if_pos hl, h]
theorem seqE {f g : SF} {ρ : SEnv} {o : Out} (ρ' : SEnv) (h1 : f ρ = .nx ρ') (h2 : g ρ' = o) : sSeq f g ρ = o := by
 unfold sSeq; rw [h1]; exact h2
theorem seqR {f g : SF} {ρ : SEnv} {d : D} (h1 : f ρ = .rt d) : sSeq f g ρ = .rt d := by
 unfold sSeq; rw [h1]
theorem retE {f : EF} {ρ : SEnv} {d : D} (h : f (vAll ρ) = some d) : sRet f ρ = .rt d := by
 unfold sRet; rw [h]
theorem setE {i : Nat} {f : EF} {ρ : SEnv} (d : D) {ρ' : SEnv} (h : f (vRd ρ) = some d) (hr : ρ.set i (.ro d) = ρ') : sSet i f ρ = .nx ρ' := by
 unfold sSet; rw [h, <- hr]
theorem ifT {t : TF} {a b : SF} {ρ : SEnv} {o : Out} (h : t (vAll ρ) = some true) (h2 : a ρ = o) : sIf t a b ρ = o := by
 unfold sIf; rw [h]; exact h2
theorem ifF {t : TF} {a b : SF} {ρ : SEnv} {o : Out} (h : t (vAll ρ) = some false) (h2 : b ρ = o) : sIf t a b ρ = o := by
 unfold sIf; rw [h]; exact h2
theorem forE {it : AF} {g : GSF} {b : SF} {ρ : SEnv} {o : Out} (ds : List D) (h : it (vRd ρ) = some ds) (h2 : loopF g b ds ρ = o) : sFor it g b ρ = o := by
 unfold sFor; rw [h]; exact h2
theorem compE {nl : Nat} {fr : List Nat} {it : AF} {g : GEF} {t : TF} {e : EF} {ρ : DEnv} (ds : List D) {ys : List D} (h : it ρ = some ds) (hl : ds.length <= 16777216) (h2 : compF g t e (benv nl fr ρ) ds = some ys) : eComp nl fr it g t e ρ = some (.lst ys) := by
 unfold eComp; rw [h]
 show (if ds.length <= szL then _ else _) = _
 rw [if_pos (show ds.length <= szL from hl), h2]; rfl
theorem addM_lst {a b : List D} (h : a.length + b.length <= 16777216) : addM (.lst a) (.lst b) = some (.lst (a ++ b)) := if_pos h
theorem addM_tup {a b : List D} (h : a.length + b.length <= 16777216) : addM (.tup a) (.tup b) = some (.tup (a ++ b)) := if_pos h
theorem catM_lst {a b : List D} (h : a.length + b.length <= 16777216) : catM (.lst a) (.lst b) = some (.lst (a ++ b)) := if_pos h
theorem mulM_l {i j : Int} (h : i.natAbs < 18446744073709551616) : mulM (.int i) (.int j) = some (.int (i * j)) := by
 simp [mulM, intMC, mulOk, h]
theorem mulM_r {i j : Int} (h : j.natAbs < 18446744073709551616) : mulM (.int i) (.int j) = some (.int (i * j)) := by
 simp [mulM, intMC, mulOk, h]
theorem rangeM_1 {j : Int} (h : j.natAbs < 4611686018427387904) : rangeM [.int j] = some ((rngP 0 j.toNat).map D.int) := if_pos h
theorem rangeM_n {n : Nat} (h : n < 4611686018427387904) : rangeM [.int (n : Int)] = some ((rngP 0 n).map D.int) := by
 rw [rangeM_1 (by omega)]; rfl
theorem intsOf_map : ∀ ns : List Int, intsOf (ns.map D.int) = some ns
 | [] => rfl
 | n :: ns => by simp [intsOf, intsOf_map ns]
theorem inM_tup {neg : Bool} {i : Int} {ns : List Int} : inM neg (.int i) (.tup (ns.map D.int)) = some (.bl (if neg then !ns.contains i else ns.contains i)) := by simp [inM, intsOf_map]
theorem inM_lst {neg : Bool} {i : Int} {ns : List Int} : inM neg (.int i) (.lst (ns.map D.int)) = some (.bl (if neg then !ns.contains i else ns.contains i)) := by simp [inM, intsOf_map]
theorem sorted_ints {ns : List Int} (h : ns.length < 64) : sortedM [.lst (ns.map D.int)] = some (.lst ((sortI ns).map D.int)) := by simp [sortedM, intsOf_map, h]
theorem truths_bl : ∀ bs : List Bool, truths (bs.map D.bl) = some bs
 | [] => rfl
 | b :: bs => by simp [truths, truthM, truths_bl bs]
theorem all_bls {bs : List Bool} : allM [.lst (bs.map D.bl)] = some (.bl (bs.all id)) := by simp [allM, truths_bl]
theorem ixP_ok {n : Nat} {i : Int} (h0 : 0 <= i) (h1 : i < n) : ixP n i = some i.toNat := by
 unfold ixP; rw [if_pos h0, if_pos h1]
theorem ixP_nat {n k : Nat} (h : k < n) : ixP n (k : Int) = some k := by
 rw [ixP_ok (by omega) (by omega)]; rfl
theorem atP_nat {α : Type} {xs : List α} {k : Nat} (h : k < xs.length) : atP xs (k : Int) = xs[k]? := by
 unfold atP; rw [ixP_nat h]; rfl
theorem atP_ok {α : Type} {xs : List α} {i : Int} (h0 : 0 <= i) (h1 : i < xs.length) : ∃ x ∈ xs, atP xs i = some x /\ xs[i.toNat]? = some x := by
 have hl : i.toNat < xs.length := by omega
 refine ⟨xs[i.toNat], List.getElem_mem hl, ?_, by simp [hl]⟩
 unfold atP; rw [ixP_ok h0 h1]; simp [hl]
theorem atP_map {α β : Type} (f : α -> β) (xs : List α) (i : Int) : atP (xs.map f) i = (atP xs i).map f := by
 unfold atP
 rw [List.length_map]
 cases ixP xs.length i with
 | none => rfl
 | some j => simp
theorem atP_get {α : Type} {xs : List α} {k : Nat} {x : α} (h : xs[k]? = some x) : atP xs (k : Int) = some x := by
 rw [atP_nat (List.getElem?_eq_some_iff.mp h).1, h]
theorem rngP_length (lo : Int) (n : Nat) : (rngP lo n).length = n := by simp [rngP]
theorem rngP_get {lo : Int} {n i : Nat} (h : i < n) : (rngP lo n)[i]? = some (lo + (i : Int)) := by simp [rngP, h]
theorem rngP_succ (lo : Int) (n : Nat) : rngP lo (n + 1) = rngP lo n ++ [lo + (n : Int)] := by simp [rngP, List.range_succ]
theorem rngP_mem {lo : Int} {n : Nat} {x : Int} : x ∈ rngP lo n ↔ lo <= x /\ x < lo + n := by
 unfold rngP
 rw [List.mem_map]
 simp only [List.mem_range]
 constructor
 ·rintro ⟨k, hk, rfl⟩; omega
 ·rintro ⟨h1, h2⟩; exact ⟨(x - lo).toNat, by omega, by omega⟩
theorem loop_ind {g : GSF} {b : SF} (P : Nat -> SEnv -> Prop) (ds : List D) {ρ : SEnv} (h0 : P 0 ρ) (step : ∀ (i : Nat) (d : D) (ρ : SEnv), ds[i]? = some d -> P i ρ -> ∃ ρ1 ρ2, g d ρ = some ρ1 /\ b ρ1 = .nx ρ2 /\ P (i + 1) ρ2) :
  ∃ ρ', loopF g b ds ρ = .nx ρ' /\ P ds.length ρ' := by
 suffices H : ∀ (l : List D) (k : Nat) (ρ : SEnv), ds.drop k = l -> k <= ds.length -> P k ρ -> ∃ ρ', loopF g b l ρ = .nx ρ' /\ P ds.length ρ' from H ds 0 ρ (by simp) (Nat.zero_le _) h0
 intro l
 induction l with
 | nil =>
  intro k ρ hl hk hp
  have : ds.length <= k := by simpa using hl
  exact ⟨ρ, rfl, by rwa [show ds.length = k by omega]⟩
 | cons d l ih =>
  intro k ρ hl hk hp
  have hk' : k < ds.length := by
   apply Classical.byContradiction
   intro h
   rw [List.drop_eq_nil_of_le (by omega)] at hl
   cases hl
  have hd : ds[k]? = some d := by
   have := congrArg (fun x => x[0]?) hl
   simpa using this
  obtain ⟨ρ1, ρ2, e1, e2, p2⟩ := step k d ρ hd hp
  have hl2 : ds.drop (k + 1) = l := by
   rw [List.drop_eq_getElem_cons hk'] at hl
   exact (List.cons.inj hl).2
  obtain ⟨ρ', e3, p3⟩ := ih (k + 1) ρ2 hl2 hk' p2
  exact ⟨ρ', by simp only [loopF, e1, e2, e3], p3⟩
theorem loop_rng {g : GSF} {b : SF} (P : Nat -> SEnv -> Prop) (lo : Int) (n : Nat) {ρ : SEnv} (h0 : P 0 ρ) (step : ∀ (i : Nat) (ρ : SEnv), i < n -> P i ρ -> ∃ ρ1 ρ2, g (.int (lo + (i : Int))) ρ = some ρ1 /\ b ρ1 = .nx ρ2 /\ P (i + 1) ρ2) :
  ∃ ρ', loopF g b ((rngP lo n).map D.int) ρ = .nx ρ' /\ P n ρ' := by
 have := loop_ind (g := g) (b := b) P ((rngP lo n).map D.int) h0 fun i d ρ hd hp => by
  have hi : i < n := by
   have := (List.getElem?_eq_some_iff.mp hd).1
   simpa [rngP_length] using this
  rw [List.getElem?_map, rngP_get hi] at hd
  cases hd
  exact step i ρ hi hp
 simpa [rngP_length] using this
theorem comp_mapA {α : Type} {g : GEF} {e : EF} {ρ : DEnv} (mk : α -> D) (f : α -> D) (l : List α) (h : ∀ a ∈ l, (g (mk a) ρ).bind e = some (f a)) : compF g tTrue e ρ (l.map mk) = some (l.map f) := by
 induction l with
 | nil => rfl
 | cons a l ih =>
  have h1 := h a (by simp)
  have h2 := ih fun x hx => h x (by simp [hx])
  cases hg : g (mk a) ρ with
  | none => rw [hg] at h1; cases h1
  | some ρ1 =>
   rw [hg] at h1
   have h1' : e ρ1 = some (f a) := h1
   simp only [List.map_cons, compF, hg, Option.bind_some, tTrue, if_true, h1', h2, Option.map_some]
theorem comp_mapE {α : Type} {g : GEF} {e : EF} {ρ : DEnv} (mk : α -> D) (f : α -> D) (l : List α) (h : ∀ a ∈ l, ∃ ρ1, g (mk a) ρ = some ρ1 /\ e ρ1 = some (f a)) : compF g tTrue e ρ (l.map mk) = some (l.map f) :=
 comp_mapA mk f l fun a ha => by
  obtain ⟨ρ1, h1, h2⟩ := h a ha
  rw [h1]; exact h2
theorem comp_filter {α : Type} {g : GEF} {t : TF} {e : EF} {ρ : DEnv} (mk : α -> D) (p : α -> Bool) (f : α -> D) (l : List α) (h : ∀ a ∈ l, ∃ ρ1, g (mk a) ρ = some ρ1 /\ t ρ1 = some (p a) /\ (p a = true -> e ρ1 = some (f a))) :
  compF g t e ρ (l.map mk) = some ((l.filter p).map f) := by
 induction l with
 | nil => rfl
 | cons a l ih =>
  obtain ⟨ρ1, h1, h2, h3⟩ := h a (by simp)
  have ih := ih fun x hx => h x (by simp [hx])
  cases hp : p a with
  | false => simp [compF, h1, h2, hp, ih]
  | true => simp [compF, h1, h2, hp, h3 hp, ih]
theorem comp_rel {α β : Type} {g : GEF} {e : EF} {ρ : DEnv} (mk : α -> D) (out : β -> D) (R : α -> β -> Prop) (l : List α) (h : ∀ a ∈ l, ∃ ρ1 b, g (mk a) ρ = some ρ1 /\ e ρ1 = some (out b) /\ R a b) :
  ∃ bs : List β, bs.length = l.length /\ (∀ (i : Nat) (a : α) (b : β), l[i]? = some a -> bs[i]? = some b -> R a b) /\ compF g tTrue e ρ (l.map mk) = some (bs.map out) := by
 induction l with
 | nil => exact ⟨[], rfl, fun i a b h => by simp at h, rfl⟩
 | cons a l ih =>
  obtain ⟨ρ1, b, h1, h2, h3⟩ := h a (by simp)
  obtain ⟨bs, hl, hr, hc⟩ := ih fun x hx => h x (by simp [hx])
  refine ⟨b :: bs, by simp [hl], fun i x y hx hy => ?_, by simp [compF, h1, h2, hc, tTrue]⟩
  cases i with
  | zero => simp at hx hy; subst hx hy; exact h3
  | succ i => exact hr i x y (by simpa using hx) (by simpa using hy)
def Rt (o : Out) (Q : D -> Prop) : Prop := ∃ d, o = .rt d /\ Q d
def Nx (o : Out) (Q : SEnv -> Prop) : Prop := ∃ ρ, o = .nx ρ /\ Q ρ
theorem rt_seq {f g : SF} {ρ : SEnv} {Q : D -> Prop} (M : SEnv -> Prop) (h1 : Nx (f ρ) M) (h2 : ∀ ρ', M ρ' -> Rt (g ρ') Q) : Rt (sSeq f g ρ) Q := by
 obtain ⟨ρ', e, m⟩ := h1; unfold sSeq; rw [e]; exact h2 ρ' m
theorem nx_seq {f g : SF} {ρ : SEnv} {Q : SEnv -> Prop} (M : SEnv -> Prop) (h1 : Nx (f ρ) M) (h2 : ∀ ρ', M ρ' -> Nx (g ρ') Q) : Nx (sSeq f g ρ) Q := by
 obtain ⟨ρ', e, m⟩ := h1; unfold sSeq; rw [e]; exact h2 ρ' m
theorem rt_seqE {f g : SF} {ρ : SEnv} {Q : D -> Prop} (ρ' : SEnv) (h1 : f ρ = .nx ρ') (h2 : Rt (g ρ') Q) : Rt (sSeq f g ρ) Q := by
 unfold sSeq; rw [h1]; exact h2
theorem nx_seqE {f g : SF} {ρ : SEnv} {Q : SEnv -> Prop} (ρ' : SEnv) (h1 : f ρ = .nx ρ') (h2 : Nx (g ρ') Q) : Nx (sSeq f g ρ) Q := by
 unfold sSeq; rw [h1]; exact h2
theorem nx_if {t : TF} {a b : SF} {ρ : SEnv} {Q : SEnv -> Prop} (c : Bool) (h : t (vAll ρ) = some c) (h1 : c = true -> Nx (a ρ) Q) (h2 : c = false -> Nx (b ρ) Q) : Nx (sIf t a b ρ) Q := by
 unfold sIf; rw [h]; cases c; exact h2 rfl; exact h1 rfl
theorem rt_ret {f : EF} {ρ : SEnv} {Q : D -> Prop} (d : D) (h : f (vAll ρ) = some d) (q : Q d) : Rt (sRet f ρ) Q := ⟨d, retE h, q⟩
theorem nx_end {ρ : SEnv} {Q : SEnv -> Prop} (q : Q ρ) : Nx (sEnd ρ) Q := ⟨ρ, rfl, q⟩
theorem nx_for {it : AF} {g : GSF} {b : SF} {ρ : SEnv} {Q : SEnv -> Prop} (ds : List D) (P : Nat -> SEnv -> Prop) (h : it (vRd ρ) = some ds) (h0 : P 0 ρ) (step : ∀ (i : Nat) (d : D) (ρ : SEnv), ds[i]? = some d -> P i ρ -> ∃ ρ1, g d ρ = some ρ1 /\ Nx (b ρ1) (P (i + 1)))
  (fin : ∀ ρ', P ds.length ρ' -> Q ρ') : Nx (sFor it g b ρ) Q := by
 obtain ⟨ρ', e, p⟩ := loop_ind (g := g) (b := b) P ds h0 fun i d ρ hd hp => by
  obtain ⟨ρ1, e1, ρ2, e2, p2⟩ := step i d ρ hd hp
  exact ⟨ρ1, ρ2, e1, e2, p2⟩
 exact ⟨ρ', forE ds h e, fin ρ' p⟩
theorem nx_rng {t : AF} {g : GSF} {b : SF} {ρ : SEnv} {Q : SEnv -> Prop} (n : Nat) (P : Nat -> SEnv -> Prop) (h : t (vRd ρ) = some [.int (n : Int)]) (hn : n < 4611686018427387904) (h0 : P 0 ρ) (step : ∀ (i : Nat) (ρ : SEnv), i < n -> P i ρ -> ∃ ρ1, g (.int (i : Int)) ρ = some ρ1 /\ Nx (b ρ1) (P (i + 1)))
  (fin : ∀ ρ', P n ρ' -> Q ρ') : Nx (sFor (iRange t) g b ρ) Q := by
 refine nx_for ((rngP 0 n).map D.int) P (by unfold iRange; rw [h, Option.bind_some, rangeM_n hn]) h0 (fun i d ρ hd hp => ?_) (fun ρ' p => fin ρ' (by simpa [rngP_length] using p))
 have hi : i < n := by
  have := (List.getElem?_eq_some_iff.mp hd).1
  simpa [rngP_length] using this
 rw [List.getElem?_map, rngP_get hi] at hd
 have hd : D.int (0 + (i : Int)) = d := by simpa using hd
 subst hd
 obtain ⟨ρ1, e, q⟩ := step i ρ hi hp
 exact ⟨ρ1, by rw [Int.zero_add]; exact e, q⟩
theorem run_ok {n np : Nat} {b : SF} {ds : List D} {Q : D -> Prop} (hl : ds.length = np) (h : Rt (b (startS n ds)) Q) : ∃ d, runF n np b ds = .ok d /\ Q d := by
 obtain ⟨d, e, q⟩ := h; exact ⟨d, runE hl e, q⟩
theorem erase_map : ∀ (l : List Int) (j : Nat), (l.map D.int).eraseIdx j = (l.eraseIdx j).map D.int
 | [], j => by simp
 | a :: l, 0 => by simp
 | a :: l, j + 1 => by simp [erase_map l j]
theorem binE {g : D -> D -> Option D} {a b : EF} {ρ : DEnv} {z : Option D} {x y : D} (ha : a ρ = some x) (hb : b ρ = some y) (h : g x y = z) : eBin g a b ρ = z := by
 unfold eBin; rw [ha, hb]; exact h
theorem cb1E {g : List D -> Option D} {a : EF} {ρ : DEnv} {z : Option D} {x : D} (ha : a ρ = some x) (h : g [x] = z) : eCB g (aCons a aNil) ρ = z := by
 unfold eCB aCons aNil; rw [ha]; exact h
theorem call1E {f : FnF} {a : EF} {ρ : DEnv} {d x : D} (ha : a ρ = some x) (h : f [x] = .ok d) : eCall f (aCons a aNil) ρ = some d := by
 unfold eCall aCons aNil; rw [ha]; show mOpt (f [x]) = _; rw [h]; rfl
theorem call2E {f : FnF} {a b : EF} {ρ : DEnv} {d x y : D} (ha : a ρ = some x) (hb : b ρ = some y) (h : f [x, y] = .ok d) : eCall f (aCons a (aCons b aNil)) ρ = some d := by
 unfold eCall aCons aNil; rw [ha, hb]; show mOpt (f [x, y]) = _; rw [h]; rfl
theorem call3E {f : FnF} {a b c : EF} {ρ : DEnv} {d x y z : D} (ha : a ρ = some x) (hb : b ρ = some y) (hc : c ρ = some z) (h : f [x, y, z] = .ok d) : eCall f (aCons a (aCons b (aCons c aNil))) ρ = some d := by
 unfold eCall aCons aNil; rw [ha, hb, hc]; show mOpt (f [x, y, z]) = _; rw [h]; rfl
theorem args1 {a : EF} {ρ : DEnv} {x : D} (ha : a ρ = some x) : aCons a aNil ρ = some [x] := by unfold aCons aNil; rw [ha]; rfl
theorem args2 {a b : EF} {ρ : DEnv} {x y : D} (ha : a ρ = some x) (hb : b ρ = some y) : aCons a (aCons b aNil) ρ = some [x, y] := by unfold aCons aNil; rw [ha, hb]; rfl
theorem rng1E {a : EF} {ρ : DEnv} {n : Nat} (ha : a ρ = some (.int (n : Int))) (hn : n < 4611686018427387904) : iRange (aCons a aNil) ρ = some ((rngP 0 n).map D.int) := by
 unfold iRange; rw [args1 ha, Option.bind_some, rangeM_n hn]
theorem tvE {f : EF} {ρ : DEnv} {d : D} {b : Bool} (h : f ρ = some d) (ht : truthM d = some b) : tV f ρ = some b := by unfold tV; rw [h]; exact ht
theorem tnE {t : TF} {ρ : DEnv} {b c : Bool} (h : t ρ = some b) (hc : (!b) = c) : tNot t ρ = some c := by unfold tNot; rw [h, <- hc]; rfl
theorem tandE {t u : TF} {ρ : DEnv} {b c : Bool} (h : t ρ = some b) (h2 : b = true -> u ρ = some c) (h3 : b = false -> c = false) : tAnd t u ρ = some c := by
 unfold tAnd; rw [h]; cases b
 ·rw [h3 rfl]; rfl
 ·exact h2 rfl
theorem torE {t u : TF} {ρ : DEnv} {b c : Bool} (h : t ρ = some b) (h2 : b = false -> u ρ = some c) (h3 : b = true -> c = true) : tOr t u ρ = some c := by
 unfold tOr; rw [h]; cases b
 ·exact h2 rfl
 ·rw [h3 rfl]; rfl
theorem popM_ok {l : List Int} {i : Int} {y : Int} (h0 : 0 <= i) (h1 : i < l.length) (h2 : l.length <= 16777216) (hy : l[i.toNat]? = some y) : popM (l.map D.int) (.int i) = some ((l.eraseIdx i.toNat).map D.int, .int y) := by
 show (if i.natAbs < 9223372036854775808 then _ else _) = _
 rw [if_pos (by omega), List.length_map, ixP_ok h0 h1, Option.bind_some, List.getElem?_map, hy, erase_map]
 rfl
theorem ints_at {ws : List Int} {j : Nat} {x : Int} (h : ws[j]? = some x) : atP (ws.map D.int) (j : Int) = some (.int x) := by
 rw [atP_map, atP_get h]; rfl
theorem take_get {α : Type} {l : List α} {i j : Nat} {x : α} (h : l[i]? = some x) (hij : i < j) : (l.take j)[i]? = some x := by rw [List.getElem?_take_of_lt hij]; exact h
theorem imms_ints : ∀ ns : List Int, imms (ns.map D.int) = true
 | [] => rfl
 | n :: ns => by rw [List.map_cons, imms, imms_ints ns]; rfl
theorem lookM_cons {k q : Sum Int Str} {ks : List (Sum Int Str)} {d : D} {ds : List D} : lookM (q :: ks) (d :: ds) k = if q = k then some d else lookM ks ds k := by
 by_cases e : q = k
 ·simp [lookM, e]
 ·simp [lookM, e]
theorem look_word : ∀ {word : List Int} {us : List (List Int)} {i : Nat} {x : Int} {v : List Int}, word.Nodup -> word[i]? = some x -> us[i]? = some v -> lookM (word.map Sum.inl) (us.map lstI) (Sum.inl x) = some (lstI v)
 | [], us, i, x, v, _, h, _ => by simp at h
 | w :: ws, [], i, x, v, _, _, h => by simp at h
 | w :: ws, u :: us, 0, x, v, _, h1, h2 => by
  simp at h1 h2
  subst h1 h2
  rw [List.map_cons, List.map_cons, lookM_cons, if_pos rfl]
 | w :: ws, u :: us, i + 1, x, v, hn, h1, h2 => by
  obtain ⟨n1, n2⟩ := List.nodup_cons.mp hn
  have h1' : ws[i]? = some x := by simpa using h1
  have ne : (Sum.inl w : Sum Int Str) ≠ Sum.inl x := fun e => n1 (by cases e; exact List.mem_of_getElem? h1')
  rw [List.map_cons, List.map_cons, lookM_cons, if_neg ne]
  exact look_word n2 h1' (by simpa using h2)
theorem look_none : ∀ {word : List Int} {us : List (List Int)} {x : Int}, x ∉ word -> lookM (word.map Sum.inl) (us.map lstI) (Sum.inl x) = none
 | [], us, x, _ => by simp [lookM]
 | w :: ws, [], x, _ => by simp [lookM]
 | w :: ws, u :: us, x, h => by
  have ne : (Sum.inl w : Sum Int Str) ≠ Sum.inl x := fun e => h (by cases e; exact List.mem_cons_self)
  rw [List.map_cons, List.map_cons, lookM_cons, if_neg ne]
  exact look_none fun z => h (List.mem_cons_of_mem _ z)
theorem insI_perm (a : Int) : ∀ l : List Int, (insI a l).Perm (a :: l)
 | [] => .refl _
 | b :: l => by
  unfold insI
  split
  ·exact .refl _
  ·exact ((insI_perm a l).cons b).trans (.swap a b l)
theorem sortI_perm : ∀ l : List Int, (sortI l).Perm l
 | [] => .refl _
 | a :: l => (insI_perm a (sortI l)).trans ((sortI_perm l).cons a)
theorem insI_sorted (a : Int) : ∀ l : List Int, l.Pairwise (· <= ·) -> (insI a l).Pairwise (· <= ·)
 | [], _ => by simp [insI]
 | b :: l, h => by
  unfold insI
  split
  ·rename_i hab
   refine List.pairwise_cons.mpr ⟨fun c hc => ?_, h⟩
   rcases List.mem_cons.mp hc with e | e
   ·subst e; exact hab
   ·exact Int.le_trans hab ((List.pairwise_cons.mp h).1 c e)
  ·rename_i hab
   refine List.pairwise_cons.mpr ⟨fun c hc => ?_, insI_sorted a l (List.pairwise_cons.mp h).2⟩
   rcases List.mem_cons.mp ((insI_perm a l).mem_iff.mp hc) with e | e
   ·subst e; omega
   ·exact (List.pairwise_cons.mp h).1 c e
theorem sortI_sorted : ∀ l : List Int, (sortI l).Pairwise (· <= ·)
 | [] => List.Pairwise.nil
 | a :: l => insI_sorted a _ (sortI_sorted l)
local macro_rules | `(tactic| walk_at "ev") => `(tactic| simp only [startS, sSeq, sIf, sRet, sSet, sSetX, sOwn, sOwnI, sSetF, sOwnD, sX, sFor, sEnd, eVar, eC, eBin, tV, tNot, tAnd, tOr, eAnd, eOr, eNot, eIf, eNeg, eChain, aNil, aCons, eCB, eCall, mOpt, eIsi, iWalk, iRange, iEnum, iZip, iRev, g1, g2, gN1, gN2, pairM, tTrue, benv, eSl, oNo, oE, asInt, xPureR, xM1, ownL, vAll, vRd, Sv.all, Sv.rd, List.map_cons, List.map_nil, List.getElem?_cons_zero, List.getElem?_cons_succ, List.getElem?_nil, Option.join_some, Option.join_none, Option.bind_some, Option.bind_none, Option.map_some, Option.map_none, List.set_cons_zero, List.set_cons_succ, List.set_nil, List.length_cons, List.length_nil, List.length_map, List.cons_append, List.nil_append, List.replicate_succ, List.replicate_zero, Nat.reduceSub, Nat.reduceAdd, Nat.reduceEqDiff, truthM_bl, truthM_lst, truthM_tup, boolM_bl, negM, addM_int, subM_int, ltM_int, leM_int, gtM_int, geM_int, eqM_int, neM_int, eqM_bl, eqM_str, isM_non, isNon, ixM_lst, ixM_tup, ixM_scr, lenM_lst, lenM_tup, lenM_scr, tupleM_lst, tupleM_tup, listM_lst, listM_tup, walkM_lst, walkM_tup, enumM_tup, enumM_lst, revM_tup, revM_lst, if_true, if_false, ite_true, ite_false, reduceIte, decide_true, decide_false, decide_eq_true_eq, Bool.false_eq_true, Bool.not_true, Bool.not_false, inM_tup, inM_lst])
theorem cell_ok (ns : List Int) (k : Int) : ∃ c, f_l_cell [.scr ns, .int k] = .ok (.int c) := by
 unfold f_l_cell
 by_cases h : (ns.length : Int) = 0
 ·exact ⟨0, runE rfl (seqR (ifT (by walk_at "ev"; rw [decide_eq_true h]) rfl))⟩
 ·obtain ⟨x, _, e, _⟩ := atP_ok (xs := ns) (i := k % (ns.length : Int)) (Int.emod_nonneg _ (by omega)) (Int.emod_lt_of_pos _ (by omega))
  refine ⟨x, runE rfl (seqE _ (ifF (by walk_at "ev"; rw [decide_eq_false h]) rfl) (retE ?_))⟩
  walk_at "ev"
  rw [modM_int (by omega)]
  walk_at "ev"
  rw [e]; rfl
def mix1 (c k s : Int) : Int := (c + 11 * k * k + 17 * k + s) * 48271 % 2147483647
def mix2 (c k s : Int) : Int := (mix1 c k s * (mix1 c k s / 4096 + 5) + 29 * k + s) % 2147483629
theorem mixed_ok (c k s : Int) (h0 : 0 <= k) (h1 : k < 1000000) : ∃ r, 0 <= r /\ f_l_mixed [.int c, .int k, .int s] = .ok (.int r) := by
 unfold f_l_mixed
 have ha : 0 <= mix1 c k s := Int.emod_nonneg ((c + 11 * k * k + 17 * k + s) * 48271) (b := 2147483647) (by decide)
 have hb : mix1 c k s < 2147483647 := Int.emod_lt_of_pos ((c + 11 * k * k + 17 * k + s) * 48271) (b := 2147483647) (by decide)
 refine ⟨mix2 c k s * 39373 % 1000000007, Int.emod_nonneg _ (b := 1000000007) (by decide), runE rfl (seqE _ (setE (.int (mix1 c k s)) ?_ rfl) (seqE _ (setE (.int (mix2 c k s)) ?_ rfl) (retE ?_)))⟩
 ·walk_at "ev"
  rw [mulM_l (by decide)]
  walk_at "ev"
  rw [mulM_r (by omega), mulM_l (i := 17) (by decide)]
  walk_at "ev"
  rw [mulM_r (j := 48271) (by decide)]
  walk_at "ev"
  rw [modM_int (by decide)]
  rfl
 ·walk_at "ev"
  rw [divM_int (by decide) (by decide)]
  walk_at "ev"
  rw [mulM_l (by omega), mulM_l (i := 29) (by decide)]
  walk_at "ev"
  rw [modM_int (by decide)]
  rfl
 ·walk_at "ev"
  rw [mulM_r (j := 39373) (by decide)]
  walk_at "ev"
  rw [modM_int (by decide)]
theorem lstI_snoc (xs : List Int) (x : Int) : D.lst (xs.map D.int ++ [.int x]) = lstI (xs ++ [x]) := by simp [lstI]
theorem draws_ok (c many s : Int) (h0 : 0 <= many) (h1 : many < 1000000) : ∃ xs : List Int, xs.length = many.toNat /\ (∀ x ∈ xs, 0 <= x) /\ f_l_draws [.int c, .int many, .int s] = .ok (lstI xs) := by
 unfold f_l_draws
 have key : ∀ left : Int, ∃ ρ', loopF (gN1 5) (sIf (tV (eBin gtM (eVar 4) (eC (.int 0))))
    (sSeq (sX (xM1 3 appM (xPureR (eBin modM (eVar 4) (eC (.int 64))))))
    (sSet 4 (eBin divM (eVar 4) (eC (.int 64)))))
    (sX (xM1 3 appM (xPureR (eCall LL.f_l_mixed (aCons (eVar 0) (aCons (eVar 5) (aCons (eVar 2) aNil))))))))
    ((rngP 0 many.toNat).map D.int) [Sv.ro (.int c), Sv.ro (.int many), Sv.ro (.int s), Sv.ow (.lst []), Sv.ro (.int left), Sv.no] = .nx ρ' /\
    ∃ (xs : List Int) (l : Int) (v : Sv), xs.length = many.toNat /\ (∀ x ∈ xs, 0 <= x) /\ ρ' = [Sv.ro (.int c), Sv.ro (.int many), Sv.ro (.int s), Sv.ow (lstI xs), Sv.ro (.int l), v] := by
  intro left
  refine loop_rng (fun i ρ' => ∃ (xs : List Int) (l : Int) (v : Sv), xs.length = i /\ (∀ x ∈ xs, 0 <= x) /\ ρ' = [Sv.ro (.int c), Sv.ro (.int many), Sv.ro (.int s), Sv.ow (lstI xs), Sv.ro (.int l), v]) 0 _ ⟨[], left, _, rfl, by simp, rfl⟩ ?_
  rintro i _ hi ⟨xs, l, v, hx, hn, rfl⟩
  have hlen : (xs.map D.int).length < 16777216 := by rw [List.length_map]; omega
  by_cases hl : 0 < l
  ·refine ⟨_, _, rfl, ifT (by walk_at "ev"; rw [decide_eq_true hl]) (seqE [Sv.ro (.int c), Sv.ro (.int many), Sv.ro (.int s), Sv.ow (lstI (xs ++ [l % 64])), Sv.ro (.int l), Sv.ro (.int (0 + (i : Int)))] ?_ (setE (.int (l / 64)) ?_ rfl)), xs ++ [l % 64], l / 64, _, by simp [hx], ?_, rfl⟩
   ·walk_at "ev"
    rw [modM_int (by decide)]
    walk_at "ev"
    simp only [lstI, ownL]
    walk_at "ev"
    rw [appM_ok hlen]
    walk_at "ev"
    rw [lstI_snoc]
    rfl
   ·walk_at "ev"
    rw [divM_int (by decide) (by decide)]
   ·intro x hx
    rcases List.mem_append.mp hx with h | h
    ·exact hn x h
    ·rw [List.mem_singleton.mp h]; exact Int.emod_nonneg _ (by decide)
  ·obtain ⟨r, hr, e⟩ := mixed_ok c (0 + (i : Int)) s (by omega) (by omega)
   refine ⟨_, [Sv.ro (.int c), Sv.ro (.int many), Sv.ro (.int s), Sv.ow (lstI (xs ++ [r])), Sv.ro (.int l), Sv.ro (.int (0 + (i : Int)))], rfl, ifF (by walk_at "ev"; rw [decide_eq_false hl]) ?_, xs ++ [r], l, _, by simp [hx], ?_, rfl⟩
   ·walk_at "ev"
    rw [e]
    simp only [lstI, ownL]
    walk_at "ev"
    rw [appM_ok hlen]
    walk_at "ev"
    rw [lstI_snoc]
    rfl
   ·intro x hx
    rcases List.mem_append.mp hx with h | h
    ·exact hn x h
    ·rw [List.mem_singleton.mp h]; exact hr
 have hp : powM (.int 10) (.int 18) = some (.int 1000000000000000000) := rfl
 have fin : ∀ left : Int, (0 = 0) -> ∃ xs : List Int, xs.length = many.toNat /\ (∀ x ∈ xs, 0 <= x) /\ sSeq (sFor (iRange (aCons (eVar 1) aNil)) (gN1 5) (sIf (tV (eBin gtM (eVar 4) (eC (.int 0))))
    (sSeq (sX (xM1 3 appM (xPureR (eBin modM (eVar 4) (eC (.int 64))))))
    (sSet 4 (eBin divM (eVar 4) (eC (.int 64)))))
    (sX (xM1 3 appM (xPureR (eCall LL.f_l_mixed (aCons (eVar 0) (aCons (eVar 5) (aCons (eVar 2) aNil))))))))) (sRet (eVar 3)) [Sv.ro (.int c), Sv.ro (.int many), Sv.ro (.int s), Sv.ow (.lst []), Sv.ro (.int left), Sv.no] = .rt (lstI xs) := by
  intro left _
  obtain ⟨ρ', e, xs, l, v, h1', h2', rfl⟩ := key left
  refine ⟨xs, h1', h2', seqE _ (forE _ ?_ e) (retE rfl)⟩
  walk_at "ev"
  exact rangeM_1 (by omega)
 by_cases hc : 1000000000000000000 <= c
 ·obtain ⟨xs, a, b, e⟩ := fin c rfl
  refine ⟨xs, a, b, runE rfl (seqE _ rfl (seqE _ rfl (seqE _ (ifT ?_ rfl) e)))⟩
  walk_at "ev"
  rw [hp]
  walk_at "ev"
  rw [decide_eq_true hc]
 ·obtain ⟨xs, a, b, e⟩ := fin 0 rfl
  refine ⟨xs, a, b, runE rfl (seqE _ rfl (seqE _ rfl (seqE _ (ifF ?_ rfl) e)))⟩
  walk_at "ev"
  rw [hp]
  walk_at "ev"
  rw [decide_eq_false hc]
theorem order_ok (dr : List Int) (n : Nat) (th : Int) (hn : n <= 9) (hl : n + Ord.tri n <= dr.length) :
  ∃ d, f_l_order [lstI dr, .int n, .int th] = .ok d /\ ∃ rows : List (List Int), rows.length = n /\ Ord.Rows rows /\ d = ordD rows := by
 unfold f_l_order
 refine run_ok rfl ?_
 rw [show startS 11 [lstI dr, .int n, .int th] = [Sv.ro (lstI dr), Sv.ro (.int n), Sv.ro (.int th), Sv.no, Sv.no, Sv.no, Sv.no, Sv.no, Sv.no, Sv.no, Sv.no] from rfl]
 refine rt_seqE [Sv.ro (lstI dr), Sv.ro (.int n), Sv.ro (.int th), Sv.ow (.lst ((rngP 0 n).map D.int)), Sv.no, Sv.no, Sv.no, Sv.no, Sv.no, Sv.no, Sv.no] ?_ ?_
 ·walk_at "ev"
  simp only [eListR]
  walk_at "ev"
  rw [if_pos (by omega)]
  rfl
 refine rt_seqE [Sv.ro (lstI dr), Sv.ro (.int n), Sv.ro (.int th), Sv.ow (.lst ((rngP 0 n).map D.int)), Sv.ow (.lst []), Sv.no, Sv.no, Sv.no, Sv.no, Sv.no, Sv.no] rfl ?_
 refine rt_seq (fun ρ => ∃ (word : List Int) (kv v3 : Sv), word.Perm (rngP 0 n) /\ ρ = [Sv.ro (lstI dr), Sv.ro (.int n), Sv.ro (.int th), v3, Sv.ow (lstI word), kv, Sv.no, Sv.no, Sv.no, Sv.no, Sv.no]) ?_ ?_
 ·refine nx_rng n (fun i ρ => ∃ (rest word : List Int) (kv : Sv), word.length = i /\ (word ++ rest).Perm (rngP 0 n) /\ ρ = [Sv.ro (lstI dr), Sv.ro (.int n), Sv.ro (.int th), Sv.ow (lstI rest), Sv.ow (lstI word), kv, Sv.no, Sv.no, Sv.no, Sv.no, Sv.no])
   rfl (by omega) ⟨rngP 0 n, [], Sv.no, rfl, .refl _, rfl⟩ ?_ ?_
  ·rintro i _ hi ⟨rest, word, kv, hw, hp, rfl⟩
   have hlr : word.length + rest.length = n := by
    have := hp.length_eq
    rw [List.length_append, rngP_length] at this
    exact this
   obtain ⟨x, hx⟩ : ∃ x, dr[i]? = some x := ⟨_, List.getElem?_eq_getElem (by omega)⟩
   have hr0 : (0 : Int) < rest.length := by omega
   have h0 := Int.emod_nonneg x (show (rest.length : Int) ≠ 0 by omega)
   have h1 := Int.emod_lt_of_pos x hr0
   obtain ⟨y, hy⟩ : ∃ y, rest[(x % (rest.length : Int)).toNat]? = some y := ⟨_, List.getElem?_eq_getElem (by omega)⟩
   refine ⟨_, rfl, [Sv.ro (lstI dr), Sv.ro (.int n), Sv.ro (.int th), Sv.ow (lstI (rest.eraseIdx (x % (rest.length : Int)).toNat)), Sv.ow (lstI (word ++ [y])), Sv.ro (.int i), Sv.no, Sv.no, Sv.no, Sv.no, Sv.no], ?_, rest.eraseIdx (x % (rest.length : Int)).toNat, word ++ [y], Sv.ro (.int i), by simp [hw], ?_, rfl⟩
   ·have e1 := popM_ok h0 h1 (by omega) hy
    simp only [lstI]
    walk_at "ev"
    simp only [xPure]
    walk_at "ev"
    rw [ints_at hx]
    walk_at "ev"
    rw [modM_int hr0]
    walk_at "ev"
    simp only [D.imm, ite_true, Option.bind_some]
    walk_at "ev"
    rw [e1]
    walk_at "ev"
    rw [appM_ok (by rw [List.length_map]; omega)]
    walk_at "ev"
    rw [List.map_append]
    rfl
   ·rw [List.append_assoc]
    exact ((Ord.cons_erase rest _ y hy).append_left word).trans hp
  ·rintro _ ⟨rest, word, kv, hw, hp, rfl⟩
   have hlr : word.length + rest.length = n := by
    have := hp.length_eq
    rw [List.length_append, rngP_length] at this
    exact this
   have e : rest = [] := List.length_eq_zero_iff.mp (by omega)
   subst e
   rw [List.append_nil] at hp
   exact ⟨word, kv, _, hp, rfl⟩
 rintro _ ⟨word, kv, v3, hp, rfl⟩
 have hpw : word.Perm ((List.range n).map fun k : Nat => (k : Int)) := by
  have e : rngP 0 n = (List.range n).map fun k : Nat => (k : Int) := List.map_congr_left fun k _ => by show 0 + (k : Int) = k; omega
  rw [<- e]
  exact hp
 have hlw : word.length = n := by rw [hpw.length_eq, List.length_map, List.length_range]
 have ndw : word.Nodup := hpw.nodup_iff.mpr (List.Pairwise.map _ (fun a b hab e => hab (by omega)) List.nodup_range)
 have lenU : ∀ {us : List (List Int)} (t : Nat) (u : List Int), Ord.Under word us t u -> u.length <= n := fun {us} t u h => by
  rw [<- hlw]
  exact Ord.length_sub u word h.1 fun a ha => by obtain ⟨s, _, _, h2, _⟩ := h.2 a ha; exact List.mem_of_getElem? h2
 refine rt_seqE [Sv.ro (lstI dr), Sv.ro (.int n), Sv.ro (.int th), v3, Sv.ow (lstI word), kv, Sv.ow (.dic [] []), Sv.no, Sv.no, Sv.no, Sv.no] rfl ?_
 refine rt_seqE [Sv.ro (lstI dr), Sv.ro (.int n), Sv.ro (.int th), v3, Sv.ow (lstI word), kv, Sv.ow (.dic [] []), Sv.ro (.int n), Sv.no, Sv.no, Sv.no] rfl ?_
 refine rt_seq (fun ρ => ∃ (us : List (List Int)) (v7 v8 v9 v10 : Sv), us.length = n /\ Ord.Good word us /\ ρ = [Sv.ro (lstI dr), Sv.ro (.int n), Sv.ro (.int th), v3, Sv.ow (lstI word), kv, Sv.ow (.dic (word.map Sum.inl) (us.map lstI)), v7, v8, v9, v10]) ?_ ?_
 ·refine nx_rng n (fun j ρ => ∃ (us : List (List Int)) (v8 v9 v10 : Sv), us.length = j /\ Ord.Good word us /\ ρ = [Sv.ro (lstI dr), Sv.ro (.int n), Sv.ro (.int th), v3, Sv.ow (lstI word), kv, Sv.ow (.dic ((word.take j).map Sum.inl) (us.map lstI)), Sv.ro (.int ((n + Ord.tri j : Nat) : Int)), v8, v9, v10])
   rfl (by omega) ⟨[], Sv.no, Sv.no, Sv.no, rfl, (fun t u e => by simp at e), rfl⟩ ?_ ?_
  ·rintro j _ hj ⟨us, v8, v9, v10, hul, hg, rfl⟩
   refine ⟨_, rfl, ?_⟩
   refine nx_seqE [Sv.ro (lstI dr), Sv.ro (.int n), Sv.ro (.int th), v3, Sv.ow (lstI word), kv, Sv.ow (.dic ((word.take j).map Sum.inl) (us.map lstI)), Sv.ro (.int ((n + Ord.tri j : Nat) : Int)), Sv.ro (.int j), Sv.ro (.lst []), v10] rfl ?_
   refine nx_seq (fun ρ => ∃ (u : List Int) (v10 : Sv), Ord.Under word us j u /\ ρ = [Sv.ro (lstI dr), Sv.ro (.int n), Sv.ro (.int th), v3, Sv.ow (lstI word), kv, Sv.ow (.dic ((word.take j).map Sum.inl) (us.map lstI)), Sv.ro (.int ((n + Ord.tri (j + 1) : Nat) : Int)), Sv.ro (.int j), Sv.ro (lstI u), v10]) ?_ ?_
   ·refine nx_rng j (fun i ρ => ∃ (u : List Int) (v10 : Sv), Ord.Under word us i u /\ ρ = [Sv.ro (lstI dr), Sv.ro (.int n), Sv.ro (.int th), v3, Sv.ow (lstI word), kv, Sv.ow (.dic ((word.take j).map Sum.inl) (us.map lstI)), Sv.ro (.int ((n + Ord.tri j + i : Nat) : Int)), Sv.ro (.int j), Sv.ro (lstI u), v10])
     rfl (by omega) ⟨[], _, ⟨List.nodup_nil, fun a ha => (nomatch ha)⟩, rfl⟩ ?_ ?_
    ·rintro i _ hi ⟨u, v10, hU, rfl⟩
     have tl := Ord.tri_lt hj hi
     obtain ⟨y, hy⟩ : ∃ y, dr[n + Ord.tri j + i]? = some y := ⟨_, List.getElem?_eq_getElem (by omega)⟩
     obtain ⟨x, hx⟩ : ∃ x, word[i]? = some x := ⟨_, List.getElem?_eq_getElem (by omega)⟩
     obtain ⟨v, hv⟩ : ∃ v, us[i]? = some v := ⟨_, List.getElem?_eq_getElem (by omega)⟩
     have lv := lenU _ _ (hg i v hv)
     have lu := lenU _ _ hU
     refine ⟨_, rfl, ?_⟩
     refine nx_seq (fun ρ => ∃ u' : List Int, Ord.Under word us (i + 1) u' /\ ρ = [Sv.ro (lstI dr), Sv.ro (.int n), Sv.ro (.int th), v3, Sv.ow (lstI word), kv, Sv.ow (.dic ((word.take j).map Sum.inl) (us.map lstI)), Sv.ro (.int ((n + Ord.tri j + i : Nat) : Int)), Sv.ro (.int j), Sv.ro (lstI u'), Sv.ro (.int i)]) ?_ ?_
     ·refine nx_if (decide (y % 4 < th)) ?_ (fun _ => ?_) (fun _ => nx_end ⟨u, hU.mono (by omega), rfl⟩)
      ·simp only [lstI]
       walk_at "ev"
       rw [ints_at hy]
       walk_at "ev"
       rw [modM_int (by decide)]
       walk_at "ev"
      ·refine ⟨_, ?_, _, hU.step ndw hg hx hv, rfl⟩
       have hf := List.length_filter_le (fun a => !u.contains a) (v ++ [x])
       have e1 : compF (g1 0) (tV (eBin (inM true) (eVar 0) (eVar 1))) (eVar 0) [none, some (.lst (u.map D.int))] ((v ++ [x]).map D.int) = some (((v ++ [x]).filter fun a => !u.contains a).map D.int) :=
        comp_filter D.int _ D.int (v ++ [x]) fun a _ => ⟨_, rfl, by walk_at "ev", fun _ => rfl⟩
       have e2 : eBin addM (eBin ixDM (eVar 6) (eBin ixM (eVar 4) (eVar 10))) (eLst (aCons (eBin ixM (eVar 4) (eVar 10)) aNil)) [some (lstI dr), some (.int n), some (.int th), v3.all, some (lstI word), kv.all, some (.dic ((word.take j).map Sum.inl) (us.map lstI)), some (.int ((n + Ord.tri j + i : Nat) : Int)), some (.int j), some (lstI u), some (.int i)] = some (.lst ((v ++ [x]).map D.int)) := by
        simp only [lstI]
        walk_at "ev"
        rw [ints_at hx]
        walk_at "ev"
        simp only [ixDM, keyM, Option.bind_some]
        have := look_word (List.Nodup.sublist (List.take_sublist j word) ndw) (take_get hx hi) hv
        simp only [lstI] at this
        rw [this]
        simp only [eLst]
        walk_at "ev"
        rw [ints_at hx]
        walk_at "ev"
        rw [if_pos (by decide), Option.bind_some, addM_lst (by simp; omega)]
        simp
       have e3 : eComp 1 [9] (iWalk (eBin addM (eBin ixDM (eVar 6) (eBin ixM (eVar 4) (eVar 10))) (eLst (aCons (eBin ixM (eVar 4) (eVar 10)) aNil)))) (g1 0) (tV (eBin (inM true) (eVar 0) (eVar 1))) (eVar 0) [some (lstI dr), some (.int n), some (.int th), v3.all, some (lstI word), kv.all, some (.dic ((word.take j).map Sum.inl) (us.map lstI)), some (.int ((n + Ord.tri j + i : Nat) : Int)), some (.int j), some (lstI u), some (.int i)] = some (.lst (((v ++ [x]).filter fun a => !u.contains a).map D.int)) :=
        compE ((v ++ [x]).map D.int) (by unfold iWalk; rw [e2]; rfl) (by simp; omega) e1
       unfold sSetF
       have e4 : eBin catM (eVar 9) (eComp 1 [9] (iWalk (eBin addM (eBin ixDM (eVar 6) (eBin ixM (eVar 4) (eVar 10))) (eLst (aCons (eBin ixM (eVar 4) (eVar 10)) aNil)))) (g1 0) (tV (eBin (inM true) (eVar 0) (eVar 1))) (eVar 0)) [some (lstI dr), some (.int n), some (.int th), v3.all, some (lstI word), kv.all, some (.dic ((word.take j).map Sum.inl) (us.map lstI)), some (.int ((n + Ord.tri j + i : Nat) : Int)), some (.int j), some (lstI u), some (.int i)] = some (lstI (u ++ (v ++ [x]).filter fun a => !u.contains a)) := by
        refine binE (x := lstI u) rfl e3 ?_
        show catM (.lst (u.map D.int)) _ = _
        rw [catM_lst (by simp only [List.length_map, List.length_append, List.length_cons, List.length_nil] at hf ⊢; omega), <- List.map_append]
        rfl
       rw [show vAll _ = [some (lstI dr), some (.int n), some (.int th), v3.all, some (lstI word), kv.all, some (.dic ((word.take j).map Sum.inl) (us.map lstI)), some (.int ((n + Ord.tri j + i : Nat) : Int)), some (.int j), some (lstI u), some (.int i)] from rfl, e4]
       show (if lstImm (lstI _) = true then _ else _) = _
       rw [if_pos (show lstImm (lstI _) = true from imms_ints _)]
       rfl
     rintro _ ⟨u', hU', rfl⟩
     exact ⟨_, rfl, u', _, hU', rfl⟩
    ·rintro _ ⟨u, v10, hU, rfl⟩
     exact ⟨u, v10, hU, by rw [Nat.add_assoc]; rfl⟩
   rintro _ ⟨u, v10, hU, rfl⟩
   obtain ⟨x, hx⟩ : ∃ x, word[j]? = some x := ⟨_, List.getElem?_eq_getElem (by omega)⟩
   refine ⟨[Sv.ro (lstI dr), Sv.ro (.int n), Sv.ro (.int th), v3, Sv.ow (lstI word), kv, Sv.ow (.dic ((word.take (j + 1)).map Sum.inl) ((us ++ [u]).map lstI)), Sv.ro (.int ((n + Ord.tri (j + 1) : Nat) : Int)), Sv.ro (.int j), Sv.ro (lstI u), v10], ?_, us ++ [u], Sv.ro (.int j), Sv.ro (lstI u), v10, by simp [hul], hg.snoc (by rw [hul]; exact hU), rfl⟩
   have hno : lookM ((word.take j).map Sum.inl) (us.map lstI) (Sum.inl x) = none := look_none fun hm => by
    obtain ⟨t, ht⟩ := List.mem_iff_getElem?.mp hm
    have htl : t < j := by
     have := (List.getElem?_eq_some_iff.mp ht).1
     rw [List.length_take] at this
     omega
    rw [List.getElem?_take_of_lt htl] at ht
    have := Ord.ix_inj ndw ht hx
    omega
   unfold sPutN
   walk_at "ev"
   simp only [ownDic, Option.bind_some]
   have e5 : ixM (lstI word) (.int (j : Int)) = some (.int x) := ints_at hx
   rw [e5]
   simp only [Option.bind_some, keyM, hno, Option.isNone_none, true_and]
   rw [if_pos (by rw [List.length_map]; show us.length < 16777216; omega), List.take_succ, hx, List.map_append, List.map_append]
   rfl
  ·rintro _ ⟨us, v8, v9, v10, hul, hg, rfl⟩
   refine ⟨us, Sv.ro (.int ((n + Ord.tri n : Nat) : Int)), v8, v9, v10, hul, hg, ?_⟩
   rw [List.take_of_length_le (by omega)]
 rintro _ ⟨us, v7, v8, v9, v10, hul, hg, rfl⟩
 have ec : ∃ rows : List (List Int), rows.length = (List.range n).length /\ (∀ (i : Nat) (b : Nat) (r : List Int), (List.range n)[i]? = some b -> rows[i]? = some r -> ∀ (t : Nat) (u : List Int), word[t]? = some (b : Int) -> us[t]? = some u -> r.Perm u /\ r.Pairwise (· <= ·)) /\
   compF (g1 0) tTrue (eCB tupleM (aCons (eCB sortedM (aCons (eBin ixDM (eVar 1) (eVar 0)) aNil)) aNil)) [none, some (.dic (word.map Sum.inl) (us.map lstI))] ((List.range n).map fun b : Nat => D.int (b : Int)) = some (rows.map tupI) := by
  refine comp_rel (fun b : Nat => D.int (b : Int)) tupI _ (List.range n) fun b hb => ?_
  have hb2 := List.mem_range.mp hb
  have hm : (b : Int) ∈ word := hpw.mem_iff.mpr (List.mem_map.mpr ⟨b, hb, rfl⟩)
  obtain ⟨t, ht⟩ := List.mem_iff_getElem?.mp hm
  obtain ⟨u, hu2⟩ : ∃ u, us[t]? = some u := ⟨_, List.getElem?_eq_getElem (by have := (List.getElem?_eq_some_iff.mp ht).1; omega)⟩
  have lu := lenU _ _ (hg t u hu2)
  refine ⟨_, sortI u, rfl, ?_, fun t' u' e1 e2 => ?_⟩
  ·walk_at "ev"
   simp only [ixDM, keyM, Option.bind_some]
   rw [look_word ndw ht hu2]
   simp only [lstI]
   walk_at "ev"
   rw [sorted_ints (by omega)]
   rfl
  ·have e := Ord.ix_inj ndw e1 ht
   subst e
   rw [hu2] at e2
   cases e2
   exact ⟨sortI_perm u, sortI_sorted u⟩
 obtain ⟨rows, hr1, hr2, ec⟩ := ec
 rw [List.length_range] at hr1
 refine rt_ret (ordD rows) ?_ ⟨rows, hr1, hg.rows hul hpw hr1 fun b t r u e1 e2 e3 => hr2 b b r (by rw [List.getElem?_range (by have := (List.getElem?_eq_some_iff.mp e1).1; omega)]) e1 t u e2 e3, rfl⟩
 have e6 : (rngP 0 n).map D.int = (List.range n).map fun b : Nat => D.int (b : Int) := by
  unfold rngP
  rw [List.map_map]
  exact List.map_congr_left fun b _ => by show D.int (0 + (b : Int)) = _; rw [Int.zero_add]
 have e7 := compE (nl := 1) (fr := [6]) (it := iRange (aCons (eVar 1) aNil)) (g := g1 0) (t := tTrue) (e := eCB tupleM (aCons (eCB sortedM (aCons (eBin ixDM (eVar 1) (eVar 0)) aNil)) aNil)) (ρ := vAll [Sv.ro (lstI dr), Sv.ro (.int n), Sv.ro (.int th), v3, Sv.ow (lstI word), kv, Sv.ow (.dic (word.map Sum.inl) (us.map lstI)), v7, v8, v9, v10]) ((rngP 0 n).map D.int)
  (by walk_at "ev"; exact rangeM_n (by omega)) (by rw [List.length_map, rngP_length]; omega) (by rw [e6]; exact ec)
 exact cb1E e7 rfl
theorem tri_two (n : Nat) : 2 * Ord.tri n + n = n * n := by
 induction n with
 | zero => rfl
 | succ n ih =>
  show 2 * (Ord.tri n + n) + (n + 1) = (n + 1) * (n + 1)
  have : (n + 1) * (n + 1) = n * n + 2 * n + 1 := by rw [Nat.add_mul, Nat.mul_add]; omega
  omega
def f_is_thing : FnF := runF 2 2
  (sRet (eChain leM ltM (eC (.int 0)) (eVar 0) (eVar 1)))
def f_things_above : FnF := runF 2 2
  (sRet (eCB tupleM (aCons (eComp 2 [1] (iEnum (aCons (eVar 0) aNil)) (g2 0 1) (tV (eBin (inM false) (eVar 2) (eVar 1))) (eVar 0)) aNil)))
def f_upside_down : FnF := runF 1 1
  (sRet (eCB tupleM (aCons (eComp 1 [0] (iRange (aCons (eCB lenM (aCons (eVar 0) aNil)) aNil)) (g1 0) tTrue (eCall LL.f_things_above (aCons (eVar 1) (aCons (eVar 0) aNil)))) aNil)))
def plainD : Nat -> D -> Prop
 | 0, _ => False
 | n + 1, .tup ds => ds.length <= 1000000 /\ ∀ d ∈ ds, plainD n d
 | _ + 1, .int _ => True
 | _ + 1, .bl _ => True
 | _ + 1, .non => True
 | _ + 1, .str _ => True
 | _ + 1, _ => False
theorem isi {T : String} {f : EF} {ρ : DEnv} {d : D} (h : f ρ = some d) (hn : notE d = true := by rfl) : eIsi T f ρ = some (.bl (isTM T d)) := by unfold eIsi; rw [h]; exact if_pos hn
theorem same_refl : ∀ (n : Nat) (d : D), plainD n d -> f_l_same n [d, d] = .ok (.bl true)
 | 0, _, h => h.elim
 | n + 1, .tup ds, h => by
  have hl := h.1
  unfold f_l_same
  refine runE rfl (seqR (ifT (by unfold tV; rw [isi rfl]; rfl) (seqE _ (ifF ?_ rfl) (retE ?_))))
  ·simp only [startS, sSeq, sIf, sRet, sSet, sSetX, sOwn, sOwnI, sSetF, sOwnD, sX, sFor, sEnd, eVar, eC, eBin, tV, tNot, tAnd, tOr, eAnd, eOr, eNot, eIf, eNeg, eChain, aNil, aCons, eCB, eCall, mOpt, eIsi, iWalk, iRange, iEnum, iZip, iRev, g1, g2, gN1, gN2, pairM, tTrue, benv, eSl, oNo, oE, asInt, xPureR, xM1, ownL, vAll, vRd, Sv.all, Sv.rd, List.map_cons, List.map_nil, List.getElem?_cons_zero, List.getElem?_cons_succ, List.getElem?_nil, Option.join_some, Option.join_none, Option.bind_some, Option.bind_none, Option.map_some, Option.map_none, List.set_cons_zero, List.set_cons_succ, List.set_nil, List.length_cons, List.length_nil, List.length_map, List.cons_append, List.nil_append, List.replicate_succ, List.replicate_zero, Nat.reduceSub, Nat.reduceAdd, Nat.reduceEqDiff, truthM_bl, truthM_lst, truthM_tup, boolM_bl, negM, addM_int, subM_int, ltM_int, leM_int, gtM_int, geM_int, eqM_int, neM_int, eqM_bl, eqM_str, isM_non, isNon, ixM_lst, ixM_tup, ixM_scr, lenM_lst, lenM_tup, lenM_scr, tupleM_lst, tupleM_tup, listM_lst, listM_tup, walkM_lst, walkM_tup, enumM_tup, enumM_lst, revM_tup, revM_lst, if_true, if_false, ite_true, ite_false, reduceIte, decide_true, decide_false, decide_eq_true_eq, Bool.false_eq_true, Bool.not_true, Bool.not_false, inM_tup, inM_lst]
   simp [isTM, tyM, startS, vAll, eIsi, notE, eVar, Sv.all, truthM]
  ·have e1 := compE (nl := 1) (fr := [0, 1]) (it := iRange (aCons (eCB lenM (aCons (eVar 1) aNil)) aNil)) (g := g1 0) (t := tTrue) (e := eCall (f_l_same n) (aCons (eBin ixM (eVar 1) (eVar 0)) (aCons (eBin ixM (eVar 2) (eVar 0)) aNil))) (ρ := [some (.tup ds), some (.tup ds)]) ((rngP 0 ds.length).map D.int) (ys := (rngP 0 ds.length).map fun _ => D.bl true)
    (by simp only [startS, sSeq, sIf, sRet, sSet, sSetX, sOwn, sOwnI, sSetF, sOwnD, sX, sFor, sEnd, eVar, eC, eBin, tV, tNot, tAnd, tOr, eAnd, eOr, eNot, eIf, eNeg, eChain, aNil, aCons, eCB, eCall, mOpt, eIsi, iWalk, iRange, iEnum, iZip, iRev, g1, g2, gN1, gN2, pairM, tTrue, benv, eSl, oNo, oE, asInt, xPureR, xM1, ownL, vAll, vRd, Sv.all, Sv.rd, List.map_cons, List.map_nil, List.getElem?_cons_zero, List.getElem?_cons_succ, List.getElem?_nil, Option.join_some, Option.join_none, Option.bind_some, Option.bind_none, Option.map_some, Option.map_none, List.set_cons_zero, List.set_cons_succ, List.set_nil, List.length_cons, List.length_nil, List.length_map, List.cons_append, List.nil_append, List.replicate_succ, List.replicate_zero, Nat.reduceSub, Nat.reduceAdd, Nat.reduceEqDiff, truthM_bl, truthM_lst, truthM_tup, boolM_bl, negM, addM_int, subM_int, ltM_int, leM_int, gtM_int, geM_int, eqM_int, neM_int, eqM_bl, eqM_str, isM_non, isNon, ixM_lst, ixM_tup, ixM_scr, lenM_lst, lenM_tup, lenM_scr, tupleM_lst, tupleM_tup, listM_lst, listM_tup, walkM_lst, walkM_tup, enumM_tup, enumM_lst, revM_tup, revM_lst, if_true, if_false, ite_true, ite_false, reduceIte, decide_true, decide_false, decide_eq_true_eq, Bool.false_eq_true, Bool.not_true, Bool.not_false, inM_tup, inM_lst]; exact rangeM_n (by omega)) (by rw [List.length_map, rngP_length]; omega) (comp_mapA D.int (fun _ => D.bl true) (rngP 0 ds.length) fun k hk => by
     have hk := rngP_mem.mp hk
     obtain ⟨x, hx, e, _⟩ := atP_ok (xs := ds) (i := k) (by omega) (by omega)
     show eCall (f_l_same n) _ _ = _
     exact call2E (binE rfl rfl e) (binE rfl rfl e) (same_refl n x (h.2 x hx)))
   refine cb1E e1 ?_
   have : (rngP 0 ds.length).map (fun _ => D.bl true) = ((rngP 0 ds.length).map fun _ => true).map D.bl := by rw [List.map_map]; rfl
   rw [this, all_bls]
   congr 2
   simp
 | n + 1, .int i, _ => by
  unfold f_l_same
  refine runE rfl (seqE _ (ifF rfl rfl) (seqE _ (ifF rfl rfl) (seqE _ (ifF rfl rfl) (seqR (ifT rfl (retE ?_))))))
  show eAnd _ _ _ = _
  simp [eAnd, eNot, eIsi, notE, eVar, isTM, tyM, boolM, eBin, eqM_int, eqM_bl, eqM_str, startS, vAll, Sv.all]
 | n + 1, .bl b, _ => by
  unfold f_l_same
  refine runE rfl (seqE _ (ifF rfl rfl) (seqE _ (ifF rfl rfl) (seqR (ifT rfl (retE ?_)))))
  simp [eAnd, eNot, eIsi, notE, eVar, isTM, tyM, boolM, eBin, eqM_int, eqM_bl, eqM_str, startS, vAll, Sv.all]
 | n + 1, .non, _ => by
  unfold f_l_same
  exact runE rfl (seqE _ (ifF rfl rfl) (seqR (ifT rfl (retE rfl))))
 | n + 1, .str x, _ => by
  unfold f_l_same
  refine runE rfl (seqE _ (ifF rfl rfl) (seqE _ (ifF rfl rfl) (seqE _ (ifF rfl rfl) (seqE _ (ifF rfl rfl) (retE ?_)))))
  simp [eAnd, eNot, eIsi, notE, eVar, isTM, tyM, boolM, eBin, eqM_int, eqM_bl, eqM_str, startS, vAll, Sv.all]
 | n + 1, .lst _, h => h.elim
 | n + 1, .scr _, h => h.elim
 | n + 1, .dic _ _, h => h.elim
 | n + 1, .dicT _ _, h => h.elim
 | n + 1, .exc _ _, h => h.elim
theorem plain_tupI {n : Nat} {xs : List Int} (h : xs.length <= 1000000) : plainD (n + 2) (tupI xs) := ⟨by rw [List.length_map]; exact h, fun d hd => by
 obtain ⟨i, _, rfl⟩ := List.mem_map.mp hd; trivial⟩
theorem plain_ordD {n : Nat} {rows : List (List Int)} (h : rows.length <= 1000000) (h2 : ∀ r ∈ rows, r.length <= 1000000) : plainD (n + 3) (ordD rows) := ⟨by rw [List.length_map]; exact h, fun d hd => by
 obtain ⟨r, hr, rfl⟩ := List.mem_map.mp hd; exact plain_tupI (h2 r hr)⟩
def row (rows : List (List Int)) (b : Int) : List Int := (rows[b.toNat]?).getD []
theorem ord_at {rows : List (List Int)} {i : Int} (h0 : 0 <= i) (h1 : i < rows.length) : ixM (ordD rows) (.int i) = some (tupI (row rows i)) := by
 have hl : i.toNat < rows.length := by omega
 rw [show ordD rows = .tup (rows.map tupI) from rfl, ixM_tup, atP_map]
 unfold atP row
 rw [ixP_ok h0 h1]
 simp [hl]
theorem in_tup {i : Int} {xs : List Int} : inM false (.int i) (tupI xs) = some (.bl (xs.contains i)) := by
 unfold tupI; rw [inM_tup]; rfl
theorem len_ord {rows : List (List Int)} : lenM [ordD rows] = some (.int rows.length) := by unfold ordD; rw [lenM_tup, List.length_map]
theorem zipIdx_map {α β : Type} (f : α -> β) (l : List α) (m : Nat) : (l.map f).zipIdx m = (l.zipIdx m).map fun p => (f p.1, p.2) := by
 induction l generalizing m with
 | nil => rfl
 | cons a l ih => simp [List.zipIdx_cons, ih]
theorem is_thing_ok (a n : Int) : f_is_thing [.int a, .int n] = .ok (.bl (decide (0 <= a) && decide (a < n))) := by
 unfold f_is_thing
 refine runE rfl (retE ?_)
 show eChain leM ltM (eC (.int 0)) (eVar 0) (eVar 1) [some (.int a), some (.int n)] = _
 unfold eChain
 simp only [eC, eVar, List.getElem?_cons_zero, List.getElem?_cons_succ, Option.join_some, Option.bind_some, leM_int, ltM_int, boolM_bl]
 by_cases h : 0 <= a
 ·simp [h]
 ·simp [h]
def pairD (p : Int × Int) : D := .tup [.int p.1, .int p.2]
end LL
end
section
namespace Ord
def rel (rows : List (List Int)) (a b : Nat) : Bool := (rows.getD b []).contains (a : Int)
theorem up_eq : ∀ (l m : List Int), l.Pairwise (· < ·) -> m.Pairwise (· < ·) -> (∀ x, x ∈ l ↔ x ∈ m) -> l = m
 | [], [], _, _, _ => rfl
 | [], b :: m, _, _, h => by have := (h b).mpr List.mem_cons_self; cases this
 | a :: l, [], _, _, h => by have := (h a).mp List.mem_cons_self; cases this
 | a :: l, b :: m, hl, hm, h => by
  obtain ⟨l1, l2⟩ := List.pairwise_cons.mp hl
  obtain ⟨m1, m2⟩ := List.pairwise_cons.mp hm
  have e : a = b := by
   have h1 := List.mem_cons.mp ((h a).mp List.mem_cons_self)
   have h2 := List.mem_cons.mp ((h b).mpr List.mem_cons_self)
   rcases h1 with h1 | h1
   ·exact h1
   ·rcases h2 with h2 | h2
    ·exact h2.symm
    ·have := m1 a h1
     have := l1 b h2
     omega
  subst e
  congr 1
  refine up_eq l m l2 m2 fun x => ⟨fun hx => ?_, fun hx => ?_⟩
  ·rcases List.mem_cons.mp ((h x).mp (List.mem_cons_of_mem _ hx)) with h1 | h1
   ·have := l1 x hx; omega
   ·exact h1
  ·rcases List.mem_cons.mp ((h x).mpr (List.mem_cons_of_mem _ hx)) with h1 | h1
   ·have := m1 x hx; omega
   ·exact h1
theorem Rows.irr' {rows : List (List Int)} (h : Rows rows) {a : Nat} (ha : a < rows.length) : rel rows a a = false := by
 unfold rel
 rw [List.getD_eq_getElem?_getD, List.getElem?_eq_getElem ha]
 have := h.irr a _ (List.getElem?_eq_getElem ha)
 simpa using this
theorem Rows.tr' {rows : List (List Int)} (h : Rows rows) {a b c : Nat} (hb : b < rows.length) (hc : c < rows.length) (h1 : rel rows a b = true) (h2 : rel rows b c = true) : rel rows a c = true := by
 unfold rel at *
 rw [List.getD_eq_getElem?_getD, List.getElem?_eq_getElem hb] at h1
 rw [List.getD_eq_getElem?_getD, List.getElem?_eq_getElem hc] at h2 ⊢
 have h1 : (a : Int) ∈ rows[b] := by simpa using h1
 have h2 : (b : Int) ∈ rows[c] := by simpa using h2
 have := h.tr c b _ _ (List.getElem?_eq_getElem hc) h2 (List.getElem?_eq_getElem hb) _ h1
 simpa using this
end Ord
end
section
namespace Ord
theorem rel_iff {x : List (List Int)} {a b : Nat} {r : List Int} (h : x[b]? = some r) : rel x a b = true ↔ (a : Int) ∈ r := by
 unfold rel
 rw [List.getD_eq_getElem?_getD, h]
 simp
theorem rng_up (lo : Int) (n : Nat) : (L4.rngP lo n).Pairwise (· < ·) := List.Pairwise.map _ (fun a b (h : a < b) => by omega) List.pairwise_lt_range
theorem Rows.short {x : List (List Int)} (h : Rows x) {r : List Int} (hr : r ∈ x) : r.length <= x.length := by
 obtain ⟨b, hb⟩ := List.mem_iff_getElem?.mp hr
 have nd : r.Nodup := (h.up b r hb).imp fun q => by omega
 have := length_sub r (L4.rngP 0 x.length) nd fun a ha => LL.rngP_mem.mpr (by have := h.rng b r hb a ha; omega)
 rwa [LL.rngP_length] at this
end Ord
end
section
namespace K45
open PySem L3 L4
def f_names_in_row_turned : FnF := runF 2 2
  (sRet (eCB tupleM (aCons (eComp 1 [1] (iRev (aCons (eVar 0) aNil)) (g1 0) tTrue (eBin subM (eBin subM (eVar 1) (eC (.int 1))) (eVar 0))) aNil)))
def f_names_turned : FnF := runF 1 1
  (sRet (eCB tupleM (aCons (eComp 1 [0] (iRev (aCons (eVar 0) aNil)) (g1 0) tTrue (eCall f_names_in_row_turned (aCons (eVar 0) (aCons (eCB lenM (aCons (eVar 1) aNil)) aNil)))) aNil)))
def f_l_ties : FnF := runF 3 1
  (sSeq (sSet 1 (eLst aNil))
  (sSeq (sFor (iRange (aCons (eCB lenM (aCons (eVar 0) aNil)) aNil)) (gN1 2)
   (sSet 1 (eBin addM (eVar 1) (eComp 1 [2] (iWalk (eBin ixM (eVar 0) (eVar 2))) (g1 0) tTrue (eTup (aCons (eVar 0) (aCons (eVar 1) aNil)))))))
  (sRet (eCB sortTM (aCons (eVar 1) aNil)))))
def f_l_from : FnF := runF 2 2
  (sRet (eCB tupleM (aCons (eComp 1 [1] (iRange (aCons (eVar 0) aNil)) (g1 0) tTrue (eCB tupleM (aCons (eCB sortedM (aCons (eComp 2 [0] (iWalk (eVar 1)) (g2 0 1) (tV (eBin eqM (eVar 1) (eVar 2))) (eVar 0)) aNil)) aNil))) aNil)))
def f_law : FnF := runF 7 1
  (sSeq (sSet 1 (eCall LL.f_l_drawn (aCons (eVar 0) (aCons (eC (.int 0)) (aCons (eC (.int 9)) (aCons (eC (.int 100003)) aNil))))))
  (sSeq (sSet 2 (eCB lenM (aCons (eVar 1) aNil)))
  (sSeq (sSet 3 (eCall f_l_ties (aCons (eVar 1) aNil)))
  (sSeq (sSet 4 (eCall f_l_from (aCons (eVar 2) (aCons (eComp 2 [2] (iWalk (eVar 3)) (g2 0 1) tTrue (eTup (aCons (eBin subM (eBin subM (eVar 2) (eC (.int 1))) (eVar 0)) (aCons (eBin subM (eBin subM (eVar 2) (eC (.int 1))) (eVar 1)) aNil)))) aNil))))
  (sSeq (sSet 5 (eCall f_l_from (aCons (eVar 2) (aCons (eComp 2 [] (iWalk (eVar 3)) (g2 0 1) tTrue (eTup (aCons (eVar 1) (aCons (eVar 0) aNil)))) aNil))))
  (sSeq (sSet 6 (eCall f_l_from (aCons (eVar 2) (aCons (eComp 2 [2] (iWalk (eVar 3)) (g2 0 1) tTrue (eTup (aCons (eBin subM (eBin subM (eVar 2) (eC (.int 1))) (eVar 1)) (aCons (eBin subM (eBin subM (eVar 2) (eC (.int 1))) (eVar 0)) aNil)))) aNil))))
  (sSeq (sIf (tOr (tNot (tV (eCall (LL.f_l_same 6) (aCons (eCall f_names_turned (aCons (eVar 1) aNil)) (aCons (eVar 4) aNil))))) (tNot (tV (eCall (LL.f_l_same 6) (aCons (eCall LL.f_upside_down (aCons (eVar 1) aNil)) (aCons (eVar 5) aNil))))))
   (sRet (eC (.bl false)))
   sEnd)
  (sSeq (sIf (tOr (tNot (tV (eCall (LL.f_l_same 6) (aCons (eCall f_names_turned (aCons (eVar 4) aNil)) (aCons (eVar 1) aNil))))) (tNot (tV (eCall (LL.f_l_same 6) (aCons (eCall LL.f_upside_down (aCons (eVar 5) aNil)) (aCons (eVar 1) aNil))))))
   (sRet (eC (.bl false)))
   sEnd)
  (sRet (eAnd (eCall (LL.f_l_same 6) (aCons (eCall f_names_turned (aCons (eVar 5) aNil)) (aCons (eVar 6) aNil))) (eCall (LL.f_l_same 6) (aCons (eCall LL.f_upside_down (aCons (eVar 4) aNil)) (aCons (eVar 6) aNil)))))))))))))
end K45
end
section
namespace K45
open PySem L3 L4 LL
def pr (p : Int × Int) : List Int := [p.1, p.2]
def tiesL (x : List (List Int)) (k : Nat) : List (Int × Int) := (rngP 0 k).flatMap fun b => (row x b).map fun a => (a, b)
theorem tiesL_succ (x : List (List Int)) (k : Nat) : tiesL x (k + 1) = tiesL x k ++ (row x (k : Int)).map fun a => (a, (k : Int)) := by
 unfold tiesL
 rw [rngP_succ, List.flatMap_append]
 simp
theorem ties_mem {x : List (List Int)} {p : Int × Int} : p ∈ tiesL x x.length ↔ 0 <= p.2 /\ p.2 < (x.length : Int) /\ p.1 ∈ row x p.2 := by
 unfold tiesL
 rw [List.mem_flatMap]
 constructor
 ·rintro ⟨b, hb, hp⟩
  obtain ⟨a, ha, rfl⟩ := List.mem_map.mp hp
  have := rngP_mem.mp hb
  exact ⟨by omega, by omega, ha⟩
 ·rintro ⟨h0, h1, h2⟩
  exact ⟨p.2, rngP_mem.mpr (by omega), List.mem_map.mpr ⟨p.1, h2, rfl⟩⟩
theorem row_get {x : List (List Int)} {b : Int} (h0 : 0 <= b) (h1 : b < (x.length : Int)) : x[b.toNat]? = some (row x b) := by
 have : b.toNat < x.length := by omega
 unfold row
 rw [List.getElem?_eq_getElem this]
 rfl
theorem ties_rel {x : List (List Int)} {a b : Nat} (hb : b < x.length) : (((a : Int), (b : Int)) ∈ tiesL x x.length) ↔ Ord.rel x a b = true := by
 rw [ties_mem]
 have e := row_get (x := x) (b := (b : Int)) (by omega) (by omega)
 rw [Int.toNat_natCast] at e
 rw [Ord.rel_iff e]
 constructor
 ·rintro ⟨_, _, h⟩; exact h
 ·intro h; exact ⟨by show (0 : Int) <= (b : Int); omega, by show (b : Int) < _; omega, h⟩
theorem ties_nodup {x : List (List Int)} (hx : Ord.Rows x) : (tiesL x x.length).Nodup := by
 unfold tiesL
 rw [List.Nodup, List.pairwise_flatMap]
 constructor
 ·intro b hb
  have hb := rngP_mem.mp hb
  have nd : (row x b).Nodup := (hx.up _ _ (row_get (by omega) (by omega))).imp fun q => by omega
  exact List.Pairwise.map _ (fun a c h e => h (congrArg Prod.fst e)) nd
 ·refine (Ord.rng_up 0 x.length).imp fun {b c} h p hp q hq e => ?_
  obtain ⟨a, _, rfl⟩ := List.mem_map.mp hp
  obtain ⟨a2, _, rfl⟩ := List.mem_map.mp hq
  have := congrArg Prod.snd e
  simp at this
  omega
theorem ties_len {x : List (List Int)} (hx : Ord.Rows x) (hn : x.length <= 9) : ∀ k, k <= x.length -> (tiesL x k).length <= k * 8 := by
 intro k
 induction k with
 | zero => intro _; simp [tiesL, rngP]
 | succ k ih =>
  intro hk
  rw [tiesL_succ, List.length_append, List.length_map]
  have h1 := ih (by omega)
  have e := row_get (x := x) (b := (k : Int)) (by omega) (by omega)
  rw [Int.toNat_natCast] at e
  have nd : (row x (k : Int)).Nodup := (hx.up _ _ e).imp fun q => by omega
  have h2 : ((k : Int) :: row x (k : Int)).length <= (rngP 0 x.length).length := Ord.length_sub _ _ (List.nodup_cons.mpr ⟨hx.irr _ _ e, nd⟩) fun a ha => by
   rcases List.mem_cons.1 ha with rfl | ha
   ·exact rngP_mem.mpr (by omega)
   ·have := hx.rng _ _ e a ha
    exact rngP_mem.mpr (by omega)
  rw [rngP_length, List.length_cons] at h2
  omega
def un (t : List Int) : Int × Int := (t.getD 0 0, t.getD 1 0)
def srt (l : List (Int × Int)) : List (Int × Int) := (sortT (l.map pr)).map un
theorem srt_perm (l : List (Int × Int)) : (srt l).Perm l := by
 have := (sortT_perm (l.map pr)).map un
 rw [List.map_map] at this
 have e : (un ∘ pr) = id := funext fun p => rfl
 rw [e, List.map_id] at this
 exact this
theorem srt_map (l : List (Int × Int)) : (sortT (l.map pr)).map tupD = (srt l).map pairD := by
 unfold srt
 rw [List.map_map]
 refine List.map_congr_left fun t ht => ?_
 obtain ⟨p, _, rfl⟩ := List.mem_map.mp ((sortT_perm (l.map pr)).mem_iff.mp ht)
 rfl
theorem tups_pairs : ∀ l : List (Int × Int), tupsOf (l.map pairD) = some (l.map pr)
 | [] => rfl
 | p :: l => by
  rw [List.map_cons, tupsOf, tups_pairs l]
  rfl
theorem sort_pairs {l : List (Int × Int)} (h : l.length < 64) : sortTM [.lst (l.map pairD)] = some (.lst ((srt l).map pairD)) := by
 unfold sortTM
 simp only [tups_pairs, Option.bind_some]
 rw [if_pos ⟨by simpa using h, List.all_eq_true.mpr fun t ht => by obtain ⟨p, _, rfl⟩ := List.mem_map.mp ht; rfl⟩, srt_map]
theorem ties_ok {x : List (List Int)} (hx : Ord.Rows x) (hn : x.length <= 9) (h64 : (tiesL x x.length).length < 64) : f_l_ties [ordD x] = .ok (.lst ((srt (tiesL x x.length)).map pairD)) := by
 unfold f_l_ties
 refine runE rfl (seqE _ (setE (.lst []) rfl rfl) ?_)
 obtain ⟨ρ', e, v2, rfl⟩ : Nx (sFor (iRange (aCons (eCB lenM (aCons (eVar 0) aNil)) aNil)) (gN1 2)
   (sSet 1 (eBin addM (eVar 1) (eComp 1 [2] (iWalk (eBin ixM (eVar 0) (eVar 2))) (g1 0) tTrue (eTup (aCons (eVar 0) (aCons (eVar 1) aNil))))))
   [Sv.ro (ordD x), Sv.ro (.lst []), Sv.no]) (fun ρ => ∃ v2, ρ = [Sv.ro (ordD x), Sv.ro (.lst ((tiesL x x.length).map pairD)), v2]) := by
  refine nx_rng x.length (fun i ρ => ∃ v2, ρ = [Sv.ro (ordD x), Sv.ro (.lst ((tiesL x i).map pairD)), v2]) (args1 (cb1E rfl len_ord)) (by omega) ⟨_, rfl⟩ ?_ fun ρ h => h
  rintro i _ hi ⟨v2, rfl⟩
  have hl := ties_len hx hn i (by omega)
  have hl2 := ties_len hx hn (i + 1) (by omega)
  rw [tiesL_succ, List.length_append] at hl2
  refine ⟨_, rfl, _, setE (.lst ((tiesL x (i + 1)).map pairD)) (binE (x := .lst ((tiesL x i).map pairD)) (y := .lst (((row x (i : Int)).map fun a => (a, (i : Int))).map pairD)) rfl (compE ((row x (i : Int)).map D.int) ?_ (by simp at hl2 ⊢; omega) ?_) ?_) rfl, _, rfl⟩
  ·unfold iWalk
   rw [binE (x := ordD x) (y := .int (i : Int)) rfl rfl (ord_at (by omega) (by omega))]
   rfl
  ·rw [List.map_map]
   exact comp_mapE D.int _ (row x (i : Int)) fun a _ => ⟨_, rfl, rfl⟩
  ·rw [addM_lst (by simp at hl2 ⊢; omega), tiesL_succ, List.map_append]
 exact seqE _ e (retE (cb1E rfl (sort_pairs h64)))
theorem sort_lt {l : List Int} (h : l.Nodup) : (sortI l).Pairwise (· < ·) := by
 have p := sortI_perm l
 have nd : (sortI l).Nodup := p.nodup_iff.mpr h
 exact (List.pairwise_and_iff.mpr ⟨sortI_sorted l, nd⟩).imp fun q => by have := q.1; have := q.2; omega
def code (p : Int × Int) : Int := if p.1 < p.2 then p.1 * 9 + p.2 else p.2 * 9 + p.1
def codes : List Int := (rngP 0 9).flatMap fun i => (rngP (i + 1) (8 - i).toNat).map fun j => i * 9 + j
theorem ties_dif {x : List (List Int)} (hx : Ord.Rows x) {a b : Int} (h1 : (a, b) ∈ tiesL x x.length) (h2 : (b, a) ∈ tiesL x x.length) : False := by
 obtain ⟨b0, b1, h1'⟩ := ties_mem.mp h1
 obtain ⟨a0, a1, h2'⟩ := ties_mem.mp h2
 simp only at b0 b1 a0 a1 h1' h2'
 obtain ⟨m, rfl⟩ : ∃ m : Nat, a = (m : Int) := ⟨a.toNat, by omega⟩
 obtain ⟨k, rfl⟩ : ∃ k : Nat, b = (k : Int) := ⟨b.toNat, by omega⟩
 have := hx.tr' (by omega) (by omega) ((ties_rel (by omega)).mp h1) ((ties_rel (by omega)).mp h2)
 rw [hx.irr' (by omega)] at this
 cases this
theorem nine_two {a b c d : Int} (hb : 0 <= b /\ b < 9) (hd : 0 <= d /\ d < 9) (e : a * 9 + b = c * 9 + d) : a = c /\ b = d := by omega
theorem ties_36 {x : List (List Int)} (hx : Ord.Rows x) (hn : x.length <= 9) : (tiesL x x.length).length <= 36 := by
 have rg : ∀ p ∈ tiesL x x.length, 0 <= p.1 /\ p.1 < 9 /\ 0 <= p.2 /\ p.2 < 9 /\ p.1 ≠ p.2 := fun p hp => by
  obtain ⟨h0, h1, h2⟩ := ties_mem.mp hp
  have e := row_get h0 h1
  obtain ⟨q1, q2⟩ := hx.rng _ _ e _ h2
  refine ⟨q1, by omega, h0, by omega, fun z => ?_⟩
  obtain ⟨a, b⟩ := p
  simp only at z
  subst z
  exact ties_dif hx hp hp
 have nd : ((tiesL x x.length).map code).Nodup := by
  rw [List.Nodup, List.pairwise_map]
  refine List.Pairwise.imp_of_mem (fun {p q} hp hq hpq e => ?_) (ties_nodup hx)
  have rp := rg p hp
  have rq := rg q hq
  obtain ⟨a, b⟩ := p
  obtain ⟨c, d⟩ := q
  simp only at rp rq
  unfold code at e
  simp only at e
  by_cases h1 : a < b <;> by_cases h2 : c < d
  ·rw [if_pos h1, if_pos h2] at e
   obtain ⟨rfl, rfl⟩ := nine_two ⟨rp.2.2.1, rp.2.2.2.1⟩ ⟨rq.2.2.1, rq.2.2.2.1⟩ e
   exact hpq rfl
  ·rw [if_pos h1, if_neg h2] at e
   obtain ⟨rfl, rfl⟩ := nine_two ⟨rp.2.2.1, rp.2.2.2.1⟩ ⟨rq.1, rq.2.1⟩ e
   exact ties_dif hx hp hq
  ·rw [if_neg h1, if_pos h2] at e
   obtain ⟨rfl, rfl⟩ := nine_two ⟨rp.1, rp.2.1⟩ ⟨rq.2.2.1, rq.2.2.2.1⟩ e
   exact ties_dif hx hp hq
  ·rw [if_neg h1, if_neg h2] at e
   obtain ⟨rfl, rfl⟩ := nine_two ⟨rp.1, rp.2.1⟩ ⟨rq.1, rq.2.1⟩ e
   exact hpq rfl
 have := Ord.length_sub _ codes nd fun z hz => by
  obtain ⟨p, hp, rfl⟩ := List.mem_map.mp hz
  have := rg p hp
  unfold code codes
  by_cases h : p.1 < p.2
  ·rw [if_pos h, List.mem_flatMap]
   exact ⟨p.1, rngP_mem.mpr (by omega), List.mem_map.mpr ⟨p.2, rngP_mem.mpr (by omega), rfl⟩⟩
  ·rw [if_neg h, List.mem_flatMap]
   exact ⟨p.2, rngP_mem.mpr (by omega), List.mem_map.mpr ⟨p.1, rngP_mem.mpr (by omega), rfl⟩⟩
 rw [List.length_map] at this
 have e : codes.length = 36 := by decide +kernel
 omega
theorem ties_few {x : List (List Int)} (hx : Ord.Rows x) (hn : x.length <= 9) : (tiesL x x.length).length < 64 := by
 have := ties_36 hx hn
 omega
end K45
end
section
namespace K03
open PySem L3 L4
def f_ties_of : FnF := runF 4 1
  (sSeq (sOwn 1 (eLst aNil))
  (sSeq (sFor (iEnum (aCons (eVar 0) aNil)) (gN2 2 3)
   (sX (xM1 1 extM (xPureR (eComp 1 [2] (iWalk (eVar 3)) (g1 0) tTrue (eTup (aCons (eVar 0) (aCons (eVar 1) aNil))))))))
  (sRet (eCB tupleM (aCons (eCB sortTM (aCons (eVar 1) aNil)) aNil)))))
def f_is_bare : FnF := runF 4 2
  (sSeq (sSet 2 (eBin ixM (eVar 1) (eC (.int 0))))
  (sSeq (sSet 3 (eBin ixM (eVar 1) (eC (.int 1))))
  (sRet (eNot (eCB anyM (aCons (eComp 1 [2, 0] (iWalk (eBin ixM (eVar 0) (eVar 3))) (g1 0) tTrue (eBin (inM false) (eVar 1) (eBin ixM (eVar 2) (eVar 0)))) aNil))))))
def f_bare_ties : FnF := runF 1 1
  (sRet (eCB tupleM (aCons (eComp 1 [0] (iWalk (eCall f_ties_of (aCons (eVar 0) aNil))) (g1 0) (tV (eCall f_is_bare (aCons (eVar 1) (aCons (eVar 0) aNil)))) (eVar 0)) aNil)))
def f_l_ties : FnF := runF 3 1
  (sSeq (sSet 1 (eLst aNil))
  (sSeq (sFor (iRange (aCons (eCB lenM (aCons (eVar 0) aNil)) aNil)) (gN1 2)
   (sSet 1 (eBin addM (eVar 1) (eComp 1 [2] (iWalk (eBin ixM (eVar 0) (eVar 2))) (g1 0) tTrue (eTup (aCons (eVar 0) (aCons (eVar 1) aNil)))))))
  (sRet (eCB sortTM (aCons (eVar 1) aNil)))))
def f_l_closed : FnF := runF 9 2
  (sSeq (sOwn 2 (eLst aNil))
  (sSeq (sFor (iRange (aCons (eVar 0) aNil)) (gN1 3)
   (sSeq (sOwn 4 (eLst aNil))
   (sSeq (sOwn 5 (eLst (aCons (eVar 3) aNil)))
   (sSeq (sWhile whileN (tV (eBin gtM (eCB lenM (aCons (eVar 5) aNil)) (eC (.int 0))))
    (sSeq (sSetX 6 (xPop0 5))
    (sFor (iWalk (eVar 1)) (gN2 7 8)
     (sIf (tAnd (tV (eBin eqM (eVar 8) (eVar 6))) (tV (eBin (inM true) (eVar 7) (eVar 4))))
      (sSeq (sX (xM1 4 appM (xPureR (eVar 7))))
      (sX (xM1 5 appM (xPureR (eVar 7)))))
      sEnd))))
   (sSeq (sIf (tV (eBin (inM false) (eVar 3) (eVar 4)))
    (sRet (eC .non))
    sEnd)
   (sX (xM1 2 appM (xPure (eCB tupleM (aCons (eCB sortedM (aCons (eVar 4) aNil)) aNil))))))))))
  (sRet (eCB tupleM (aCons (eVar 2) aNil)))))
def f_l_bare : FnF := runF 5 1
  (sSeq (sOwn 1 (eLst aNil))
  (sSeq (sFor (iWalk (eCall f_l_ties (aCons (eVar 0) aNil))) (gN2 2 3)
   (sSeq (sSet 4 (eComp 1 [2, 0, 3] (iRange (aCons (eCB lenM (aCons (eVar 0) aNil)) aNil)) (g1 0) (tAnd (tV (eBin (inM false) (eVar 1) (eBin ixM (eVar 2) (eVar 0)))) (tV (eBin (inM false) (eVar 0) (eBin ixM (eVar 2) (eVar 3))))) (eVar 0)))
   (sIf (tV (eBin eqM (eCB lenM (aCons (eVar 4) aNil)) (eC (.int 0))))
    (sX (xM1 1 appM (xPureR (eTup (aCons (eVar 2) (aCons (eVar 3) aNil))))))
    sEnd)))
  (sRet (eVar 1))))
def f_l_right : FnF := runF 2 1
  (sSeq (sSet 1 (eCall f_bare_ties (aCons (eVar 0) aNil)))
  (sSeq (sIf (tOr (tNot (tV (eCall (LL.f_l_same 6) (aCons (eCall f_ties_of (aCons (eVar 0) aNil)) (aCons (eCB tupleM (aCons (eCall f_l_ties (aCons (eVar 0) aNil)) aNil)) aNil))))) (tNot (tV (eCall (LL.f_l_same 6) (aCons (eVar 1) (aCons (eCB tupleM (aCons (eCall f_l_bare (aCons (eVar 0) aNil)) aNil)) aNil))))))
   (sRet (eC (.bl false)))
   sEnd)
  (sRet (eBin eqTM (eCall f_l_closed (aCons (eCB lenM (aCons (eVar 0) aNil)) (aCons (eVar 1) aNil))) (eVar 0)))))
def f_law : FnF := runF 3 1
  (sSeq (sSet 1 (eCall LL.f_l_drawn (aCons (eVar 0) (aCons (eC (.int 0)) (aCons (eC (.int 9)) (aCons (eC (.int 100003)) aNil))))))
  (sSeq (sSet 2 (eCall LL.f_l_drawn (aCons (eVar 0) (aCons (eC (.int 2)) (aCons (eC (.int 9)) (aCons (eC (.int 300007)) aNil))))))
  (sRet (eAnd (eCall f_l_right (aCons (eVar 1) aNil)) (eAnd (eCall f_l_right (aCons (eVar 2) aNil)) (eCall f_l_right (aCons (eVar 1) aNil)))))))
end K03
end
section
namespace K03
open PySem L3 L4 LL K45
theorem sXE {x : XF} {ρ ρ' : SEnv} {d : D} (h : x ρ = some (ρ', d)) : sX x ρ = .nx ρ' := by unfold sX; rw [h]
theorem xM1E {i : Nat} {m : List D -> D -> Option (List D × D)} {x : XF} {ρ ρ1 : SEnv} {d : D} {ds0 ds : List D} {q : List D × D} (h0 : ownL ρ[i]? = some ds0) (hx : x ρ = some (ρ1, d)) (h1 : ownL ρ1[i]? = some ds) (hm : m ds d = some q) :
  xM1 i m x ρ = some (ρ1.set i (.ow (.lst q.1)), q.2) := by
 unfold xM1
 rw [h0, Option.bind_some, hx, Option.bind_some, h1, Option.bind_some, hm]
 rfl
theorem loopE {g : GSF} {b : SF} {d : D} {ds : List D} {ρ ρ1 ρ2 : SEnv} {o : Out} (hg : g d ρ = some ρ1) (hb : b ρ1 = .nx ρ2) (h : loopF g b ds ρ2 = o) : loopF g b (d :: ds) ρ = o := by
 rw [loopF, hg]
 show (match b ρ1 with | .nx ρ2 => loopF g b ds ρ2 | o => o) = o
 rw [hb]
 exact h
section
variable {x : List (List Int)} (hx : Ord.Rows x)
include hx
theorem r_rng {a c : Int} (h0 : 0 <= c) (h1 : c < (x.length : Int)) (h : a ∈ row x c) : 0 <= a /\ a < (x.length : Int) := hx.rng _ _ (row_get h0 h1) a h
theorem r_tr {a b c : Int} (h0 : 0 <= c) (h1 : c < (x.length : Int)) (hb : b ∈ row x c) (ha : a ∈ row x b) : a ∈ row x c := by
 obtain ⟨b0, b1⟩ := r_rng hx h0 h1 hb
 exact hx.tr c.toNat b.toNat _ _ (row_get h0 h1) (by rw [show ((b.toNat : Nat) : Int) = b by omega]; exact hb) (row_get b0 b1) a ha
theorem r_irr {c : Int} (h0 : 0 <= c) (h1 : c < (x.length : Int)) : c ∉ row x c := fun h => hx.irr c.toNat _ (row_get h0 h1) (by rw [show ((c.toNat : Nat) : Int) = c by omega]; exact h)
end
def isBare (x : List (List Int)) (p : Int × Int) : Bool := !(row x p.2).any fun c => (row x c).contains p.1
def nw (c : Int) : List (Int × Int) -> List Int -> List Int
 | [], _ => []
 | p :: ps, u => if p.2 = c /\ p.1 ∉ u then p.1 :: nw c ps (u ++ [p.1]) else nw c ps u
theorem nw_nodup (c : Int) : ∀ (ps : List (Int × Int)) (u : List Int), u.Nodup -> (u ++ nw c ps u).Nodup
 | [], u, h => by simpa [nw] using h
 | p :: ps, u, h => by
  unfold nw
  split
  ·rename_i q
   have := nw_nodup c ps (u ++ [p.1]) (List.nodup_append.mpr ⟨h, by simp, fun a ha b hb e => by
    have : b = p.1 := by simpa using hb
    exact q.2 (by rw [<- this, <- e]; exact ha)⟩)
   rwa [List.append_assoc] at this
  ·exact nw_nodup c ps u h
theorem nw_mem (c : Int) : ∀ (ps : List (Int × Int)) (u : List Int) (a : Int), a ∈ nw c ps u -> (a, c) ∈ ps
 | [], u, a, h => by simp [nw] at h
 | p :: ps, u, a, h => by
  unfold nw at h
  split at h
  ·rename_i q
   rcases List.mem_cons.1 h with rfl | h
   ·rw [<- q.1]; exact List.mem_cons_self
   ·exact List.mem_cons_of_mem _ (nw_mem c ps _ a h)
  ·exact List.mem_cons_of_mem _ (nw_mem c ps _ a h)
theorem nw_all (c : Int) : ∀ (ps : List (Int × Int)) (u : List Int) (a : Int), (a, c) ∈ ps -> a ∈ u ++ nw c ps u
 | [], u, a, h => by cases h
 | p :: ps, u, a, h => by
  unfold nw
  rcases List.mem_cons.1 h with e | h
  ·subst e
   by_cases hu : a ∈ u
   ·exact List.mem_append_left _ hu
   ·rw [if_pos ⟨rfl, hu⟩]
    exact List.mem_append_right _ List.mem_cons_self
  ·split
   ·have := nw_all c ps (u ++ [p.1]) a h
    rwa [List.append_assoc] at this
   ·exact nw_all c ps u a h
theorem inner {n b c : Int} {t fo : D} : ∀ (ps : List (Int × Int)) (u f : List Int) (v7 v8 : Sv), u.length + ps.length < 1000 -> f.length + ps.length < 1000 -> ∃ w7 w8,
  loopF (gN2 7 8) (sIf (tAnd (tV (eBin eqM (eVar 8) (eVar 6))) (tV (eBin (inM true) (eVar 7) (eVar 4))))
      (sSeq (sX (xM1 4 appM (xPureR (eVar 7))))
      (sX (xM1 5 appM (xPureR (eVar 7)))))
      sEnd) (ps.map pairD) [.ro (.int n), .ro t, .ow fo, .ro (.int b), .ow (lstI u), .ow (lstI f), .ro (.int c), v7, v8] = .nx [.ro (.int n), .ro t, .ow fo, .ro (.int b), .ow (lstI (u ++ nw c ps u)), .ow (lstI (f ++ nw c ps u)), .ro (.int c), w7, w8]
 | [], u, f, v7, v8, _, _ => ⟨v7, v8, by simp [nw, loopF]⟩
 | p :: ps, u, f, v7, v8, hu, hf => by
  simp only [List.length_cons] at hu hf
  have test : tAnd (tV (eBin eqM (eVar 8) (eVar 6))) (tV (eBin (inM true) (eVar 7) (eVar 4))) (vAll [.ro (.int n), .ro t, .ow fo, .ro (.int b), .ow (lstI u), .ow (lstI f), .ro (.int c), .ro (.int p.1), .ro (.int p.2)]) = some (decide (p.2 = c) && !u.contains p.1) := by
   refine tandE (tvE (binE (x := .int p.2) (y := .int c) rfl rfl eqM_int) rfl) (fun h => ?_) (fun h => by rw [h]; rfl)
   rw [h, Bool.true_and]
   exact tvE (binE (x := .int p.1) (y := lstI u) rfl rfl inM_lst) rfl
  unfold nw
  by_cases h : p.2 = c /\ p.1 ∉ u
  ·obtain ⟨w7, w8, e⟩ := inner (n := n) (b := b) (c := c) (t := t) (fo := fo) ps (u ++ [p.1]) (f ++ [p.1]) (.ro (.int p.1)) (.ro (.int p.2)) (by simp; omega) (by simp; omega)
   refine ⟨w7, w8, ?_⟩
   have tt : (decide (p.2 = c) && !u.contains p.1) = true := by simp [h.1, h.2]
   rw [tt] at test
   rw [if_pos h]
   rw [List.append_assoc, List.append_assoc] at e
   rw [List.map_cons]
   refine loopE rfl (ifT test (seqE _ (sXE (xM1E (ds0 := u.map D.int) (ds := u.map D.int) rfl rfl rfl (appM_ok (by simp; omega)))) (sXE (xM1E (ds0 := f.map D.int) (ds := f.map D.int) (d := .int p.1) rfl rfl rfl (appM_ok (by simp; omega)))))) ?_
   rw [show lstI (u ++ [p.1]) = .lst (u.map D.int ++ [.int p.1]) by simp [lstI], show lstI (f ++ [p.1]) = .lst (f.map D.int ++ [.int p.1]) by simp [lstI]] at e
   exact e
  ·obtain ⟨w7, w8, e⟩ := inner (n := n) (b := b) (c := c) (t := t) (fo := fo) ps u f (.ro (.int p.1)) (.ro (.int p.2)) (by omega) (by omega)
   refine ⟨w7, w8, ?_⟩
   have tt : (decide (p.2 = c) && !u.contains p.1) = false := by
    by_cases h1 : p.2 = c
    ·have : p.1 ∈ u := Classical.byContradiction fun z => h ⟨h1, z⟩
     simp [this]
    ·simp [h1]
   rw [tt] at test
   rw [if_neg h, List.map_cons]
   exact loopE rfl (ifF test rfl) e
structure Cl (x : List (List Int)) (P : List (Int × Int)) (b : Int) (u f : List Int) : Prop where
 nd : u.Nodup
 sub : ∀ a ∈ u, a ∈ row x b
 fr : ∀ a ∈ f, a = b \/ a ∈ u
 cl : ∀ c, (c = b \/ c ∈ u) -> c ∉ f -> ∀ a, (a, c) ∈ P -> a ∈ u
def wT : TF := tV (eBin gtM (eCB lenM (aCons (eVar 5) aNil)) (eC (.int 0)))
def wB : SF := (sSeq (sSetX 6 (xPop0 5))
    (sFor (iWalk (eVar 1)) (gN2 7 8)
     (sIf (tAnd (tV (eBin eqM (eVar 8) (eVar 6))) (tV (eBin (inM true) (eVar 7) (eVar 4))))
      (sSeq (sX (xM1 4 appM (xPureR (eVar 7))))
      (sX (xM1 5 appM (xPureR (eVar 7)))))
      sEnd)))
abbrev T (x : List (List Int)) : List (Int × Int) := srt (tiesL x x.length)
abbrev B (x : List (List Int)) : List (Int × Int) := (T x).filter (isBare x)
end K03
end
section
namespace LL
open PySem L3 L4
def f_l_ties : FnF := runF 3 1
  (sSeq (sSet 1 (eLst aNil))
  (sSeq (sFor (iRange (aCons (eCB lenM (aCons (eVar 0) aNil)) aNil)) (gN1 2)
   (sSet 1 (eBin addM (eVar 1) (eComp 1 [2] (iWalk (eBin ixM (eVar 0) (eVar 2))) (g1 0) tTrue (eTup (aCons (eVar 0) (aCons (eVar 1) aNil)))))))
  (sRet (eCB sortTM (aCons (eVar 1) aNil)))))
theorem runX {n np : Nat} {b : SF} {ds : List D} {c : Str} (hl : ds.length = np) (h : b (startS n ds) = .ex c) : runF n np b ds = .ex c := by
 unfold runF
 rw [if_pos hl, h]
theorem runN {n np : Nat} {b : SF} {ds : List D} {ρ : SEnv} (hl : ds.length = np) (h : b (startS n ds) = .nx ρ) : runF n np b ds = .ok .non := by
 unfold runF
 rw [if_pos hl, h]
theorem seqX {f g : SF} {ρ : SEnv} {c : Str} (h : f ρ = .ex c) : sSeq f g ρ = .ex c := by
 unfold sSeq
 rw [h]
theorem thrX {r : RF} {f : SF} {ρ : SEnv} {c : Str} (h : r (vAll ρ) = some c) : sThr r f ρ = .ex c := by
 unfold sThr
 rw [h]
theorem thrN {r : RF} {f : SF} {ρ : SEnv} {o : Out} (h : r (vAll ρ) = none) (h2 : f ρ = o) : sThr r f ρ = o := by
 unfold sThr
 rw [h]
 exact h2
theorem rc2 {R : FnF} {a b : EF} {ρ : DEnv} {x y : D} {c : Option Str} (ha : a ρ = some x) (hb : b ρ = some y) (h : exOf (R [x, y]) = c) : rCall R (aCons a (aCons b aNil)) ρ = c := by
 unfold rCall
 rw [args2 ha hb]
 exact h
theorem rnE {f : EF} {r : RF} {ρ : DEnv} {d : D} {c : Option Str} (hf : f ρ = some d) (h : r ρ = c) : rNext f r ρ = c := by
 unfold rNext
 rw [hf]
 exact h
theorem tryX {fb : SF} {fh : Str -> Option D} {ρ : SEnv} {c : Str} {d : D} (h : fb ρ = .ex c) (h2 : fh c = some d) : sTry fb fh ρ = .rt d := by
 unfold sTry
 rw [h]
 show (match fh c with | some d => Out.rt d | none => .no) = _
 rw [h2]
theorem tryR {fb : SF} {fh : Str -> Option D} {ρ : SEnv} {d : D} (h : fb ρ = .rt d) : sTry fb fh ρ = .rt d := by
 unfold sTry
 rw [h]
theorem raise1 {a : EF} {c : Str} {ρ : SEnv} {d : D} (h : a (vAll ρ) = some d) : sRaiseA (aCons a aNil) c ρ = .ex c := by
 unfold sRaiseA
 rw [args1 h]
 exact if_pos (by simp)
theorem tup1 {a : EF} {ρ : DEnv} {x : D} (ha : a ρ = some x) : eTup (aCons a aNil) ρ = some (.tup [x]) := eTup_ok (args1 ha) (by simp)
theorem tup2 {a b : EF} {ρ : DEnv} {x y : D} (ha : a ρ = some x) (hb : b ρ = some y) : eTup (aCons a (aCons b aNil)) ρ = some (.tup [x, y]) := eTup_ok (args2 ha hb) (by simp)
theorem pow_ok {i : Int} {j : Int} (ρ : DEnv) (h : (decide ((0 : Int) <= j) && decide (j.natAbs <= 1000000) && decide (i.natAbs < 18446744073709551616)) = true) : eBin powM (eC (.int i)) (eC (.int j)) ρ = some (.int (i ^ j.toNat)) :=
 binE rfl rfl (if_pos h)
theorem most_ok (ρ : DEnv) : eBin powGM (eBin powM (eC (.int 10)) (eC (.int 60))) (eC (.int 10)) ρ = some (.int (((10 : Int) ^ 60) ^ 10)) := by
 refine binE (x := .int ((10 : Int) ^ 60)) (y := .int 10) (pow_ok (i := 10) (j := 60) ρ (by decide +kernel)) rfl ?_
 show (if (decide ((0 : Int) <= 10) && decide ((10 : Int) <= 100) && decide (((10 : Int) ^ 60).natAbs < 2 ^ 1000)) = true then some (D.int (((10 : Int) ^ 60) ^ (10 : Int).toNat)) else none) = _
 exact if_pos (by decide +kernel)
theorem l_ties_ok {x : List (List Int)} (hx : Ord.Rows x) (hn : x.length <= 9) : LL.f_l_ties [ordD x] = .ok (.lst ((K03.T x).map pairD)) := K45.ties_ok hx hn (K45.ties_few hx hn)
def at0 (fl : List Int) (a : Int) : Int := (fl[a.toNat]?).getD 0
theorem at_tup {fl : List Int} {a : Int} (h0 : 0 <= a) (h1 : a < (fl.length : Int)) : ixM (tupI fl) (.int a) = some (.int (at0 fl a)) := by
 obtain ⟨x, _, e, e2⟩ := atP_ok h0 h1
 show atP (fl.map D.int) a = _
 rw [atP_map, e]
 unfold at0
 rw [e2]
 rfl
theorem at_lst {fl : List Int} {a : Int} (h0 : 0 <= a) (h1 : a < (fl.length : Int)) : ixM (lstI fl) (.int a) = some (.int (at0 fl a)) := at_tup h0 h1
def f_refuse_strangers : FnF := runF 3 3
  (sIf (tOr (tNot (tV (eCall LL.f_is_thing (aCons (eVar 1) (aCons (eVar 0) aNil))))) (tNot (tV (eCall LL.f_is_thing (aCons (eVar 2) (aCons (eVar 0) aNil))))))
   (sRaiseA (aCons (eC (.str "a number that is no thing of the order")) aNil) "NoThing")
   sEnd)
def f_put_under : FnF := runF 8 3
  (sSeq (sThr (rCall LL.f_refuse_strangers (aCons (eCB lenM (aCons (eVar 0) aNil)) (aCons (eVar 1) (aCons (eVar 2) aNil)))) (sX (xPureR (eCall LL.f_refuse_strangers (aCons (eCB lenM (aCons (eVar 0) aNil)) (aCons (eVar 1) (aCons (eVar 2) aNil)))))))
  (sSeq (sIf (tOr (tV (eBin eqM (eVar 1) (eVar 2))) (tV (eBin (inM false) (eVar 2) (eBin ixM (eVar 0) (eVar 1)))))
   (sRaiseA (aCons (eC (.str "a thing would lie under itself")) aNil) "Looped")
   sEnd)
  (sSeq (sSet 3 (eBin addM (eBin ixM (eVar 0) (eVar 1)) (eTup (aCons (eVar 1) aNil))))
  (sSeq (sOwn 4 (eLst aNil))
  (sSeq (sNox (sFor (iEnum (aCons (eVar 0) aNil)) (gN2 5 6)
   (sSeq (sSet 7 (eOr (eBin eqM (eVar 5) (eVar 2)) (eBin (inM false) (eVar 2) (eVar 6))))
   (sX (xM1 4 appM (xPureR (eIf (tV (eVar 7)) (eCB tupleM (aCons (eCB sortedSetM (aCons (eBin addM (eVar 6) (eVar 3)) aNil)) aNil)) (eVar 6))))))))
  (sRet (eCB tupleM (aCons (eVar 4) aNil))))))))
theorem mem_putN {ns : List Int} {k a : Int} : a ∈ putN ns k ↔ a ∈ ns \/ a = k := by
 unfold putN
 split
 ·rename_i h
  exact ⟨.inl, fun q => q.elim id fun z => z ▸ h⟩
 ·rw [List.mem_append, List.mem_singleton]
theorem nodup_putN {ns : List Int} {k : Int} (h : ns.Nodup) : (putN ns k).Nodup := by
 unfold putN
 split
 ·exact h
 ·rename_i z
  exact List.nodup_append.mpr ⟨h, by simp, fun a ha b hb => by
   rw [List.mem_singleton] at hb
   intro e
   subst e
   subst hb
   exact z ha⟩
theorem fold_putN : ∀ (ks ns : List Int), ns.Nodup -> (ks.foldl putN ns).Nodup /\ ∀ a, a ∈ ks.foldl putN ns ↔ a ∈ ns \/ a ∈ ks
 | [], ns, h => ⟨h, fun a => by simp⟩
 | k :: ks, ns, h => by
  obtain ⟨h1, h2⟩ := fold_putN ks (putN ns k) (nodup_putN h)
  refine ⟨h1, fun a => ?_⟩
  rw [List.foldl_cons, h2, mem_putN, List.mem_cons, or_assoc]
theorem nub_ok (ns : List Int) : (nubI ns).Nodup /\ ∀ a, a ∈ nubI ns ↔ a ∈ ns := by
 obtain ⟨h1, h2⟩ := fold_putN ns [] (by simp)
 exact ⟨h1, fun a => by unfold nubI; rw [h2]; simp⟩
def both (r l : List Int) : List Int := sortI (nubI (r ++ l))
theorem both_up (r l : List Int) : (both r l).Pairwise (· < ·) := by
 have h1 := sortI_sorted (nubI (r ++ l))
 have h2 : (both r l).Nodup := (sortI_perm (nubI (r ++ l))).nodup_iff.mpr (nub_ok _).1
 exact (List.Pairwise.and h1 h2).imp fun q => by omega
theorem both_mem {r l : List Int} {a : Int} : a ∈ both r l ↔ a ∈ r \/ a ∈ l := by
 unfold both
 rw [(sortI_perm _).mem_iff, (nub_ok _).2, List.mem_append]
theorem both_ok {r l : List Int} (h : r.length + l.length < 64) : sortedSetM [.tup (r.map D.int ++ l.map D.int)] = some (.lst ((both r l).map D.int)) := by
 unfold sortedSetM
 rw [<- List.map_append]
 dsimp only
 rw [intsOf_map]
 show (if (r ++ l).length < 64 then _ else _) = _
 rw [if_pos (by rw [List.length_append]; exact h)]
 rfl
theorem rc3 {R : FnF} {a b c : EF} {ρ : DEnv} {x y z : D} {o : Option Str} (ha : a ρ = some x) (hb : b ρ = some y) (hc : c ρ = some z) (h : exOf (R [x, y, z]) = o) : rCall R (aCons a (aCons b (aCons c aNil))) ρ = o := by
 unfold rCall aCons aNil
 rw [ha, hb, hc]
 exact h
def thing (n a : Int) : Bool := decide (0 <= a) && decide (a < n)
theorem refuse_ok {n a b : Int} (ha : thing n a = true) (hb : thing n b = true) : f_refuse_strangers [.int n, .int a, .int b] = .ok .non := by
 unfold f_refuse_strangers
 refine runN (ρ := [Sv.ro (.int n), Sv.ro (.int a), Sv.ro (.int b)]) rfl (ifF ?_ rfl)
 refine torE (b := false) (tnE (tvE (call2E rfl rfl (is_thing_ok a n)) rfl) (by rw [show (decide (0 <= a) && decide (a < n)) = true from ha]; rfl)) (fun _ => ?_) (fun z => by cases z)
 exact tnE (tvE (call2E rfl rfl (is_thing_ok b n)) rfl) (by rw [show (decide (0 <= b) && decide (b < n)) = true from hb]; rfl)
theorem refuse_ex {n a b : Int} (h : (thing n a && thing n b) = false) : f_refuse_strangers [.int n, .int a, .int b] = .ex "NoThing" := by
 unfold f_refuse_strangers
 refine runX rfl (ifT ?_ (raise1 rfl))
 refine torE (b := !thing n a) (tnE (tvE (call2E rfl rfl (is_thing_ok a n)) rfl) rfl) (fun z => ?_) (fun _ => rfl)
 have ha : thing n a = true := by simpa using z
 rw [ha, Bool.true_and] at h
 exact tnE (tvE (call2E rfl rfl (is_thing_ok b n)) rfl) (by rw [show (decide (0 <= b) && decide (b < n)) = false from h]; rfl)
theorem thing_iff {n a : Int} : thing n a = true ↔ 0 <= a /\ a < n := by simp [thing]
theorem refE {ρ : SEnv} {x : List (List Int)} {a b : Int} {r : SEnv} (hr : ρ = Sv.ro (ordD x) :: Sv.ro (.int a) :: Sv.ro (.int b) :: r) (ha : thing x.length a = true) (hb : thing x.length b = true) :
  sThr (rCall LL.f_refuse_strangers (aCons (eCB lenM (aCons (eVar 0) aNil)) (aCons (eVar 1) (aCons (eVar 2) aNil)))) (sX (xPureR (eCall LL.f_refuse_strangers (aCons (eCB lenM (aCons (eVar 0) aNil)) (aCons (eVar 1) (aCons (eVar 2) aNil)))))) ρ = .nx ρ := by
 subst hr
 refine thrN (rc3 (cb1E rfl len_ord) rfl rfl (by rw [refuse_ok ha hb]; rfl)) ?_
 unfold sX xPureR
 rw [call3E (cb1E rfl len_ord) rfl rfl (refuse_ok ha hb)]
 rfl
def putR (b : Int) (lower : List Int) (p : List Int × Nat) : List Int := if decide ((p.2 : Int) = b) || p.1.contains b then both p.1 lower else p.1
def put (x : List (List Int)) (a b : Int) : List (List Int) := x.zipIdx.map (putR b (row x a ++ [a]))
def loopB (x : List (List Int)) (a b : Int) : Bool := decide (a = b) || (row x a).contains b
theorem loop_test {x : List (List Int)} {a b : Int} {r : SEnv} (ha : thing x.length a = true) : (tOr (tV (eBin eqM (eVar 1) (eVar 2))) (tV (eBin (inM false) (eVar 2) (eBin ixM (eVar 0) (eVar 1))))) (vAll (Sv.ro (ordD x) :: Sv.ro (.int a) :: Sv.ro (.int b) :: r)) = some (loopB x a b) := by
 obtain ⟨h0, h1⟩ := thing_iff.mp ha
 refine torE (b := decide (a = b)) (tvE (binE (x := .int a) (y := .int b) rfl rfl eqM_int) rfl) (fun z => ?_) (fun z => by unfold loopB; rw [z]; rfl)
 unfold loopB
 rw [z, Bool.false_or]
 exact tvE (binE (x := .int b) (y := tupI (row x a)) rfl (binE (x := ordD x) (y := .int a) rfl rfl (ord_at h0 h1)) in_tup) rfl
theorem put_loop {x : List (List Int)} {a b : Int} (ha : thing x.length a = true) (hb : thing x.length b = true) (h : loopB x a b = true) : f_put_under [ordD x, .int a, .int b] = .ex "Looped" := by
 unfold f_put_under
 exact runX rfl (seqE _ (refE rfl ha hb) (seqX (ifT ((loop_test ha).trans (congrArg some h)) (raise1 rfl))))
theorem put_ok {x : List (List Int)} {a b : Int} (hn : x.length <= 1000) (hr : ∀ r ∈ x, r.length <= 9) (ha : thing x.length a = true) (hb : thing x.length b = true) (h : loopB x a b = false) : f_put_under [ordD x, .int a, .int b] = .ok (ordD (put x a b)) := by
 obtain ⟨h0, h1⟩ := thing_iff.mp ha
 have hw : (row x a).length <= 9 := by
  unfold row
  rw [List.getElem?_eq_getElem (by omega)]
  exact hr _ (List.getElem_mem _)
 unfold f_put_under
 refine runE rfl (seqE _ (refE rfl ha hb) (seqE _ (ifF ((loop_test ha).trans (congrArg some h)) rfl) (seqE _ (setE (tupI (row x a ++ [a])) (binE (x := tupI (row x a)) (y := .tup [.int a]) (binE (x := ordD x) (y := .int a) rfl rfl (ord_at h0 h1)) (tup1 rfl) ?_) rfl) (seqE [Sv.ro (ordD x), Sv.ro (.int a), Sv.ro (.int b), Sv.ro (tupI (row x a ++ [a])), Sv.ow (.lst []), Sv.no, Sv.no, Sv.no] rfl ?_))))
 ·unfold tupI
  rw [addM_tup (by simp; omega), List.map_append]
  rfl
 ·have L : Nx (sFor (iEnum (aCons (eVar 0) aNil)) (gN2 5 6)
    (sSeq (sSet 7 (eOr (eBin eqM (eVar 5) (eVar 2)) (eBin (inM false) (eVar 2) (eVar 6))))
    (sX (xM1 4 appM (xPureR (eIf (tV (eVar 7)) (eCB tupleM (aCons (eCB sortedSetM (aCons (eBin addM (eVar 6) (eVar 3)) aNil)) aNil)) (eVar 6)))))) [Sv.ro (ordD x), Sv.ro (.int a), Sv.ro (.int b), Sv.ro (tupI (row x a ++ [a])), Sv.ow (.lst []), Sv.no, Sv.no, Sv.no])
    fun ρ => ∃ v5 v6 v7, ρ = [Sv.ro (ordD x), Sv.ro (.int a), Sv.ro (.int b), Sv.ro (tupI (row x a ++ [a])), Sv.ow (.lst ((put x a b).map tupI)), v5, v6, v7] := by
   refine nx_for ((x.map tupI).zipIdx.map fun p => D.tup [.int (p.2 : Int), p.1]) (fun i ρ => ∃ v5 v6 v7, ρ = [Sv.ro (ordD x), Sv.ro (.int a), Sv.ro (.int b), Sv.ro (tupI (row x a ++ [a])), Sv.ow (.lst (((put x a b).take i).map tupI)), v5, v6, v7]) rfl ⟨_, _, _, rfl⟩ ?_ ?_
   ·rintro i d _ hd ⟨v5, v6, v7, rfl⟩
    rw [zipIdx_map, List.map_map, List.getElem?_map] at hd
    obtain ⟨⟨r, j⟩, hz, rfl⟩ := Option.map_eq_some_iff.mp hd
    have hj : j = i /\ x[i]? = some r := by
     rw [List.getElem?_zipIdx] at hz
     obtain ⟨r', e1, e2⟩ := Option.map_eq_some_iff.mp hz
     cases e2
     exact ⟨by omega, e1⟩
    obtain ⟨rfl, hx⟩ := hj
    have rl : r.length <= 9 := hr r (List.mem_of_getElem? hx)
    refine ⟨[Sv.ro (ordD x), Sv.ro (.int a), Sv.ro (.int b), Sv.ro (tupI (row x a ++ [a])), Sv.ow (.lst (((put x a b).take j).map tupI)), Sv.ro (.int j), Sv.ro (tupI r), v7], rfl, ?_⟩
    have hpj : (put x a b)[j]? = some (putR b (row x a ++ [a]) (r, j)) := by
     unfold put
     rw [List.getElem?_map, hz]
     rfl
    have tk : (put x a b).take (j + 1) = (put x a b).take j ++ [putR b (row x a ++ [a]) (r, j)] := by
     rw [List.take_add_one, hpj]
     rfl
    have e7 : (eOr (eBin eqM (eVar 5) (eVar 2)) (eBin (inM false) (eVar 2) (eVar 6))) (vRd [Sv.ro (ordD x), Sv.ro (.int a), Sv.ro (.int b), Sv.ro (tupI (row x a ++ [a])), Sv.ow (.lst (((put x a b).take j).map tupI)), Sv.ro (.int j), Sv.ro (tupI r), v7]) = some (.bl (decide ((j : Int) = b) || r.contains b)) := by
     unfold eOr
     rw [binE (x := .int j) (y := .int b) rfl rfl eqM_int, binE (x := .int b) (y := tupI r) rfl rfl in_tup]
     simp only [Option.bind_some, boolM_bl]
     cases decide ((j : Int) = b) <;> rfl
    refine ⟨_, seqE _ (setE _ e7 rfl) ?_, Sv.ro (.int j), Sv.ro (tupI r), Sv.ro (.bl (decide ((j : Int) = b) || r.contains b)), rfl⟩
    rw [tk]
    unfold sX
    have ev : (xPureR (eIf (tV (eVar 7)) (eCB tupleM (aCons (eCB sortedSetM (aCons (eBin addM (eVar 6) (eVar 3)) aNil)) aNil)) (eVar 6))) [Sv.ro (ordD x), Sv.ro (.int a), Sv.ro (.int b), Sv.ro (tupI (row x a ++ [a])), Sv.ow (.lst (((put x a b).take j).map tupI)), Sv.ro (.int j), Sv.ro (tupI r), Sv.ro (.bl (decide ((j : Int) = b) || r.contains b))]
      = some ([Sv.ro (ordD x), Sv.ro (.int a), Sv.ro (.int b), Sv.ro (tupI (row x a ++ [a])), Sv.ow (.lst (((put x a b).take j).map tupI)), Sv.ro (.int j), Sv.ro (tupI r), Sv.ro (.bl (decide ((j : Int) = b) || r.contains b))], tupI (putR b (row x a ++ [a]) (r, j))) := by
     unfold xPureR eIf
     rw [tvE (b := decide ((j : Int) = b) || r.contains b) rfl rfl]
     unfold putR
     cases decide ((j : Int) = b) || r.contains b with
     | false => rfl
     | true =>
      simp only [Option.bind_some, if_true]
      rw [cb1E (x := .lst ((both r (row x a ++ [a])).map D.int)) (cb1E (x := .tup (r.map D.int ++ (row x a ++ [a]).map D.int)) (binE (x := tupI r) (y := tupI (row x a ++ [a])) rfl rfl (addM_tup (by simp; omega))) (both_ok (by simp; omega))) rfl]
      rfl
    have pl : ((put x a b).take j).length < 1000 + 1 := by
     rw [List.length_take]
     have : (put x a b).length = x.length := by simp [put]
     omega
    have ex := K03.xM1E (i := 4) (m := appM) rfl ev rfl (appM_ok (d := tupI (putR b (row x a ++ [a]) (r, j))) (ds := ((put x a b).take j).map tupI) (by rw [List.length_map]; omega))
    refine (congrArg (fun o : Option (SEnv × D) => match o with | some p => Out.nx p.1 | none => Out.no) ex).trans ?_
    rw [List.map_append]
    rfl
   ·rintro ρ' ⟨v5, v6, v7, rfl⟩
    refine ⟨v5, v6, v7, ?_⟩
    rw [List.take_of_length_le (by simp [put])]
  obtain ⟨ρ', e, v5, v6, v7, rfl⟩ := L
  refine seqE _ (by unfold sNox; rw [e]) (retE ?_)
  exact cb1E rfl rfl
def f_l_closed : FnF := runF 9 2
  (sSeq (sOwn 2 (eLst aNil))
  (sSeq (sFor (iRange (aCons (eVar 0) aNil)) (gN1 3)
   (sSeq (sOwn 4 (eLst aNil))
   (sSeq (sOwn 5 (eLst (aCons (eVar 3) aNil)))
   (sSeq (sWhile whileN (tV (eBin gtM (eCB lenM (aCons (eVar 5) aNil)) (eC (.int 0))))
    (sSeq (sSetX 6 (xPop0 5))
    (sFor (iWalk (eVar 1)) (gN2 7 8)
     (sIf (tAnd (tV (eBin eqM (eVar 8) (eVar 6))) (tV (eBin (inM true) (eVar 7) (eVar 4))))
      (sSeq (sX (xM1 4 appM (xPureR (eVar 7))))
      (sX (xM1 5 appM (xPureR (eVar 7)))))
      sEnd))))
   (sSeq (sIf (tV (eBin (inM false) (eVar 3) (eVar 4)))
    (sRet (eC .non))
    sEnd)
   (sX (xM1 2 appM (xPure (eCB tupleM (aCons (eCB sortedM (aCons (eVar 4) aNil)) aNil))))))))))
  (sRet (eCB tupleM (aCons (eVar 2) aNil)))))
def f_l_refused : FnF := runF 2 1
  (sSeq (sSet 1 (eC (.str "NoThing Looped NoOrder NoNumber TooGreat NoGoing NoRow NoFilling NotLoose NotForest")))
  (sSeq (sSet 1 (eBin addM (eVar 1) (eC (.str " NoShape NoName NoLine"))))
  (sRet (eBin addM (eBin addM (eTup (aCons (eC (.str "refused")) aNil)) (eCB tupleM (aCons (eComp 1 [0] (iWalk (eBin splitM (eVar 1) (eC (.str " ")))) (g1 0) tTrue (eBin eqM (eVar 0) (eVar 1))) aNil))) (eTup (aCons (eC (.bl true)) aNil))))))
end LL
end
section
namespace LL
open PySem L3 L4 K03 K45
theorem rows_of {y : List (List Int)} (up : ∀ d : Int, 0 <= d -> d < (y.length : Int) -> (row y d).Pairwise (· < ·)) (rng : ∀ c d : Int, 0 <= d -> d < (y.length : Int) -> c ∈ row y d -> 0 <= c /\ c < (y.length : Int))
  (tr : ∀ c v d : Int, 0 <= d -> d < (y.length : Int) -> v ∈ row y d -> c ∈ row y v -> c ∈ row y d) (irr : ∀ d : Int, 0 <= d -> d < (y.length : Int) -> d ∉ row y d) : Ord.Rows y := by
 have rw' : ∀ (b : Nat) (r : List Int), y[b]? = some r -> row y (b : Int) = r /\ (b : Int) < (y.length : Int) := fun b r h => by
  unfold row
  rw [Int.toNat_natCast, h]
  have := (List.getElem?_eq_some_iff.1 h).1
  exact ⟨rfl, by omega⟩
 refine ⟨fun b r h => ?_, fun b r h a ha => ?_, fun b a r v h ha hv c hc => ?_, fun b r h => ?_⟩
 ·obtain ⟨e, l⟩ := rw' b r h
  rw [<- e]
  exact up b (by omega) l
 ·obtain ⟨e, l⟩ := rw' b r h
  rw [<- e] at ha
  exact rng a b (by omega) l ha
 ·obtain ⟨e, l⟩ := rw' b r h
  obtain ⟨e2, l2⟩ := rw' a v hv
  rw [<- e] at ha ⊢
  rw [<- e2] at hc
  exact tr c a b (by omega) l ha hc
 ·obtain ⟨e, l⟩ := rw' b r h
  rw [<- e]
  exact irr b (by omega) l
theorem put_length (x : List (List Int)) (a b : Int) : (put x a b).length = x.length := by simp [put]
theorem row_put {x : List (List Int)} {a b d : Int} (h0 : 0 <= d) (h1 : d < (x.length : Int)) : row (put x a b) d = putR b (row x a ++ [a]) (row x d, d.toNat) := by
 have hk : d.toNat < x.length := by omega
 unfold row put
 rw [List.getElem?_map, List.getElem?_zipIdx, List.getElem?_eq_getElem hk]
 simp [row]
theorem mem_put {x : List (List Int)} {a b c d : Int} (h0 : 0 <= d) (h1 : d < (x.length : Int)) : c ∈ row (put x a b) d ↔ c ∈ row x d \/ ((d = b \/ b ∈ row x d) /\ (c = a \/ c ∈ row x a)) := by
 rw [row_put h0 h1]
 unfold putR
 have e : ((d.toNat : Nat) : Int) = d := by omega
 rw [e]
 by_cases h : (decide (d = b) || (row x d).contains b) = true
 ·rw [if_pos h, both_mem, List.mem_append, List.mem_singleton]
  have h' : d = b \/ b ∈ row x d := by simpa using h
  constructor
  ·rintro (z | z | z)
   ·exact .inl z
   ·exact .inr ⟨h', .inr z⟩
   ·exact .inr ⟨h', .inl z⟩
  ·rintro (z | ⟨_, z | z⟩)
   ·exact .inl z
   ·exact .inr (.inr z)
   ·exact .inr (.inl z)
 ·rw [if_neg h]
  have h' : ¬ (d = b \/ b ∈ row x d) := by simpa using h
  exact ⟨.inl, fun z => z.elim id fun q => absurd q.1 h'⟩
theorem not_loop {x : List (List Int)} {a b : Int} (h : loopB x a b = false) : a ≠ b /\ b ∉ row x a := by
 unfold loopB at h
 simpa using h
theorem put_rows {x : List (List Int)} (hx : Ord.Rows x) {a b : Int} (ha : thing x.length a = true) (hb : thing x.length b = true) (h : loopB x a b = false) : Ord.Rows (put x a b) := by
 obtain ⟨a0, a1⟩ := thing_iff.mp ha
 obtain ⟨b0, b1⟩ := thing_iff.mp hb
 obtain ⟨nab, nba⟩ := not_loop h
 refine rows_of (fun d d0 d1 => ?_) (fun c d d0 d1 hc => ?_) (fun c v d d0 d1 hv hc => ?_) fun d d0 d1 hd => ?_
 ·rw [put_length] at d1
  rw [row_put d0 d1]
  unfold putR
  split
  ·exact both_up _ _
  ·exact hx.up _ _ (row_get d0 d1)
 ·rw [put_length] at d1 ⊢
  rcases (mem_put d0 d1).1 hc with z | ⟨_, z | z⟩
  ·exact r_rng hx d0 d1 z
  ·omega
  ·exact r_rng hx a0 a1 z
 ·rw [put_length] at d1
  have hv' := (mem_put d0 d1).1 hv
  have vr : 0 <= v /\ v < (x.length : Int) := by
   rcases hv' with z | ⟨_, z | z⟩
   ·exact r_rng hx d0 d1 z
   ·omega
   ·exact r_rng hx a0 a1 z
  refine (mem_put d0 d1).2 ?_
  rcases (mem_put vr.1 vr.2).1 hc with z | ⟨u, l⟩
  ·rcases hv' with y | ⟨u, l⟩
   ·exact .inl (r_tr hx d0 d1 y z)
   ·refine .inr ⟨u, .inr ?_⟩
    rcases l with e | l
    ·rw [e] at z
     exact z
    ·exact r_tr hx a0 a1 l z
  ·refine .inr ⟨?_, l⟩
   rcases hv' with y | ⟨u2, _⟩
   ·rcases u with e | u
    ·rw [e] at y
     exact .inr y
    ·exact .inr (r_tr hx d0 d1 y u)
   ·exact u2
 ·rw [put_length] at d1
  rcases (mem_put d0 d1).1 hd with z | ⟨u, l⟩
  ·exact r_irr hx d0 d1 z
  ·rcases u with e | u
   ·rcases l with e2 | l
    ·exact nab (e2.symm.trans e)
    ·rw [e] at l
     exact nba l
   ·rcases l with e2 | l
    ·rw [e2] at u
     exact nba u
    ·exact nba (r_tr hx a0 a1 l u)
inductive TC (P : List (Int × Int)) : Int -> Int -> Prop where
 | one {a b : Int} (h : (a, b) ∈ P) : TC P a b
 | more {a c b : Int} (h : (a, c) ∈ P) (t : TC P c b) : TC P a b
theorem TC.trans {P : List (Int × Int)} {a b c : Int} (h : TC P a b) (g : TC P b c) : TC P a c := by
 induction h with
 | one h => exact .more h g
 | more h _ ih => exact .more h (ih g)
theorem TC.mono {P Q : List (Int × Int)} (s : ∀ p ∈ P, p ∈ Q) {a b : Int} (h : TC P a b) : TC Q a b := by
 induction h with
 | one h => exact .one (s _ h)
 | more h _ ih => exact .more (s _ h) ih
def InR (n : Nat) (P : List (Int × Int)) : Prop := ∀ p ∈ P, (0 <= p.1 /\ p.1 < (n : Int)) /\ 0 <= p.2 /\ p.2 < (n : Int)
theorem TC.rng {n : Nat} {P : List (Int × Int)} (hP : InR n P) {a b : Int} (h : TC P a b) : 0 <= a /\ a < (n : Int) := by
 cases h with
 | one h => exact (hP _ h).1
 | more h _ => exact (hP _ h).1
structure Cg (P : List (Int × Int)) (b : Int) (u f : List Int) : Prop where
 nd : u.Nodup
 sub : ∀ a ∈ u, TC P a b
 fr : ∀ a ∈ f, a = b \/ a ∈ u
 cl : ∀ c, (c = b \/ c ∈ u) -> c ∉ f -> ∀ a, (a, c) ∈ P -> a ∈ u
theorem Cg.step {P : List (Int × Int)} {b : Int} {u f : List Int} {c : Int} (h : Cg P b u (f ++ [c])) : Cg P b (u ++ nw c P u) (f ++ nw c P u) := by
 refine ⟨nw_nodup c P u h.nd, fun a ha => ?_, fun a ha => ?_, fun d hd hf a ha => ?_⟩
 ·rcases List.mem_append.1 ha with ha | ha
  ·exact h.sub a ha
  ·have q := nw_mem c P u a ha
   rcases h.fr c (by simp) with e | e
   ·rw [<- e]; exact .one q
   ·exact .more q (h.sub c e)
 ·rcases List.mem_append.1 ha with ha | ha
  ·exact (h.fr a (List.mem_append_left _ ha)).imp id fun z => List.mem_append_left _ z
  ·exact .inr (List.mem_append_right _ ha)
 ·by_cases e : d = c
  ·subst e
   exact nw_all d P u a ha
  ·refine List.mem_append_left _ (h.cl d ?_ (fun z => ?_) a ha)
   ·rcases hd with hd | hd
    ·exact .inl hd
    ·rcases List.mem_append.1 hd with hd | hd
     ·exact .inr hd
     ·exact absurd (List.mem_append_right _ hd) hf
   ·rcases List.mem_append.1 z with z | z
    ·exact hf (List.mem_append_left _ z)
    ·exact e (by simpa using z)
theorem Cg.all {P : List (Int × Int)} {b : Int} {u : List Int} (h : Cg P b u []) {a : Int} (t : TC P a b) : a ∈ u := by
 have key : ∀ {a c : Int}, TC P a c -> c = b -> a ∈ u := fun {a c} t => by
  induction t with
  | one q => intro e; subst e; exact h.cl _ (.inl rfl) (by simp) _ q
  | more q _ ih => intro e; exact h.cl _ (.inr (ih e)) (by simp) _ q
 exact key t rfl
theorem Cg.few {n : Nat} {P : List (Int × Int)} (hP : InR n P) {b : Int} {u f : List Int} (h : Cg P b u f) : u.length <= n := by
 have q := Ord.length_sub u (rngP 0 n) h.nd fun a ha => rngP_mem.mpr (by have := TC.rng hP (h.sub a ha); omega)
 rwa [rngP_length] at q
theorem wholeG {n : Nat} (hn : n <= 9) {P : List (Int × Int)} (hP : InR n P) (hl : P.length <= 800) {Pd : D} (hW : walkM Pd = some (P.map pairD)) {b : Int} {fo : D} :
  ∀ (m N : Nat) (u f : List Int) (v6 v7 v8 : Sv), f.length + 2 * (n - u.length) <= m -> m < N -> m < 100 -> Cg P b u f -> ∃ u' w6 w7 w8, Cg P b u' [] /\
   whileF wT wB N [.ro (.int n), .ro Pd, .ow fo, .ro (.int b), .ow (lstI u), .ow (lstI f), v6, v7, v8] = .nx [.ro (.int n), .ro Pd, .ow fo, .ro (.int b), .ow (lstI u'), .ow (lstI []), w6, w7, w8] := by
 intro m
 induction m with
 | zero =>
  intro N u f v6 v7 v8 hm hN _ h
  obtain ⟨N, rfl⟩ : ∃ k, N = k + 1 := ⟨N - 1, by omega⟩
  have : f = [] := List.eq_nil_of_length_eq_zero (by omega)
  subst this
  exact ⟨u, v6, v7, v8, h, rfl⟩
 | succ m ih =>
  intro N u f v6 v7 v8 hm hN h100 h
  obtain ⟨N, rfl⟩ : ∃ k, N = k + 1 := ⟨N - 1, by omega⟩
  rcases List.eq_nil_or_concat f with rfl | ⟨f', c, e⟩
  ·exact ⟨u, v6, v7, v8, h, rfl⟩
  ·rw [List.concat_eq_append] at e
   subst e
   rw [List.length_append, List.length_singleton] at hm
   have ul := h.few hP
   have hs := h.step
   have ul2 := hs.few hP
   rw [List.length_append] at ul2
   obtain ⟨w7, w8, e⟩ := inner (n := n) (b := b) (c := c) (t := Pd) (fo := fo) P u f' v7 v8 (by omega) (by omega)
   obtain ⟨u', x6, x7, x8, hc, ew⟩ := ih N (u ++ nw c P u) (f' ++ nw c P u) (.ro (.int c)) w7 w8 (by rw [List.length_append, List.length_append]; omega) (by omega) (by omega) hs
   refine ⟨u', x6, x7, x8, hc, ?_⟩
   have ht : wT (vAll [.ro (.int n), .ro Pd, .ow fo, .ro (.int b), .ow (lstI u), .ow (lstI (f' ++ [c])), v6, v7, v8]) = some true := by
    have e : wT (vAll [.ro (.int n), .ro Pd, .ow fo, .ro (.int b), .ow (lstI u), .ow (lstI (f' ++ [c])), v6, v7, v8]) = some (decide ((0 : Int) < ((f' ++ [c]).map D.int).length)) := rfl
    rw [e, List.length_map, List.length_append, List.length_singleton, decide_eq_true (by omega)]
   have hb : wB [.ro (.int n), .ro Pd, .ow fo, .ro (.int b), .ow (lstI u), .ow (lstI (f' ++ [c])), v6, v7, v8] = .nx [.ro (.int n), .ro Pd, .ow fo, .ro (.int b), .ow (lstI (u ++ nw c P u)), .ow (lstI (f' ++ nw c P u)), .ro (.int c), w7, w8] := by
    refine seqE [.ro (.int n), .ro Pd, .ow fo, .ro (.int b), .ow (lstI u), .ow (lstI f'), .ro (.int c), v7, v8] ?_ (forE _ (show walkM Pd = some (P.map pairD) from hW) e)
    have hp : xPop0 5 [.ro (.int n), .ro Pd, .ow fo, .ro (.int b), .ow (lstI u), .ow (lstI (f' ++ [c])), v6, v7, v8] = some ([.ro (.int n), .ro Pd, .ow fo, .ro (.int b), .ow (lstI u), .ow (lstI f'), v6, v7, v8], .int c) := by
     unfold xPop0
     show (Option.map _ (((f' ++ [c]).map D.int)[((f' ++ [c]).map D.int).length - 1]?)) = _
     rw [List.map_append]
     simp [lstI]
    unfold sSetX
    rw [hp]
    rfl
   rw [whileF, ht]
   show (match wB _ with | .nx ρ' => whileF wT wB N ρ' | o => o) = _
   rw [hb]
   exact ew
theorem loop_app {g : GSF} {b : SF} : ∀ (ds es : List D) (ρ : SEnv), loopF g b (ds ++ es) ρ = match loopF g b ds ρ with | .nx ρ' => loopF g b es ρ' | o => o
 | [], es, ρ => rfl
 | d :: ds, es, ρ => by
  rw [List.cons_append]
  cases h1 : g d ρ with
  | none => simp only [loopF, h1]
  | some ρ1 =>
   cases h2 : b ρ1 with
   | nx ρ2 => simp only [loopF, h1, h2]; exact loop_app ds es ρ2
   | rt d => simp only [loopF, h1, h2]
   | ex c => simp only [loopF, h1, h2]
   | no => simp only [loopF, h1, h2]
def clB : SF := (sSeq (sOwn 4 (eLst aNil))
   (sSeq (sOwn 5 (eLst (aCons (eVar 3) aNil)))
   (sSeq (sWhile whileN wT wB)
   (sSeq (sIf (tV (eBin (inM false) (eVar 3) (eVar 4)))
    (sRet (eC .non))
    sEnd)
   (sX (xM1 2 appM (xPure (eCB tupleM (aCons (eCB sortedM (aCons (eVar 4) aNil)) aNil)))))))))
theorem turn_ok {n : Nat} (hn : n <= 9) {P : List (Int × Int)} (hP : InR n P) (hl : P.length <= 800) {Pd : D} (hW : walkM Pd = some (P.map pairD)) {fs : List D} (hf : fs.length < 1000) {b : Int} {v4 v5 v6 v7 v8 : Sv} :
  (TC P b b -> clB [.ro (.int n), .ro Pd, .ow (.lst fs), .ro (.int b), v4, v5, v6, v7, v8] = .rt .non) /\
  (¬ TC P b b -> ∃ r : List Int, r.Pairwise (· < ·) /\ (∀ a, a ∈ r ↔ TC P a b) /\ ∃ w4 w5 w6 w7 w8, clB [.ro (.int n), .ro Pd, .ow (.lst fs), .ro (.int b), v4, v5, v6, v7, v8] = .nx [.ro (.int n), .ro Pd, .ow (.lst (fs ++ [tupI r])), .ro (.int b), w4, w5, w6, w7, w8]) := by
 obtain ⟨u, w6, w7, w8, hc, e⟩ := wholeG hn hP hl hW (b := b) (fo := .lst fs) 50 whileN [] [b] v6 v7 v8 (by simp; omega) (by decide) (by omega)
  ⟨List.nodup_nil, fun a ha => by simp at ha, fun a ha => .inl (by simpa using ha), fun c hc hf => hc.elim (fun e => absurd (by simp [e]) hf) fun z => by simp at z⟩
 have mem : ∀ a, a ∈ u ↔ TC P a b := fun a => ⟨hc.sub a, hc.all⟩
 have ul := hc.few hP
 have tst : (tV (eBin (inM false) (eVar 3) (eVar 4))) (vAll [.ro (.int n), .ro Pd, .ow (.lst fs), .ro (.int b), .ow (lstI u), .ow (lstI []), w6, w7, w8]) = some (u.contains b) := tvE (binE (x := .int b) (y := lstI u) rfl rfl inM_lst) rfl
 constructor
 ·intro t
  have hb : u.contains b = true := by simpa using (mem b).2 t
  unfold clB
  exact seqE _ rfl (seqE _ rfl (seqE _ e (seqR (ifT (tst.trans (congrArg some hb)) (retE rfl)))))
 ·intro t
  have hb : u.contains b = false := by
   cases q : u.contains b with
   | false => rfl
   | true => exact absurd ((mem b).1 (by simpa using q)) t
  refine ⟨sortI u, sort_lt hc.nd, fun a => by rw [(sortI_perm u).mem_iff]; exact mem a, .ow (lstI u), .ow (lstI []), w6, w7, w8, ?_⟩
  unfold clB
  refine seqE _ rfl (seqE _ rfl (seqE _ e (seqE _ (ifF (tst.trans (congrArg some hb)) rfl) (sXE (xM1E (ρ1 := [.ro (.int n), .ro Pd, .ow (.lst fs), .ro (.int b), .ow (lstI u), .ow (lstI []), w6, w7, w8]) (ds0 := fs) (ds := fs) (d := tupI (sortI u)) rfl ?_ rfl (appM_ok (by omega)))))))
  unfold xPure
  rw [cb1E (x := lstI (sortI u)) (cb1E (x := lstI u) rfl (sorted_ints (by omega))) (z := some (tupI (sortI u))) rfl]
  show (if (tupI (sortI u)).imm = true then _ else _) = _
  rw [if_pos (show (tupI (sortI u)).imm = true from imms_ints _)]
theorem turns_ok {n : Nat} (hn : n <= 9) {P : List (Int × Int)} (hP : InR n P) (hl : P.length <= 800) {Pd : D} (hW : walkM Pd = some (P.map pairD)) : ∀ i : Nat, i <= n ->
  ((∃ b : Nat, b < i /\ TC P b b) -> loopF (gN1 3) clB ((rngP 0 i).map D.int) [.ro (.int n), .ro Pd, .ow (.lst []), .no, .no, .no, .no, .no, .no] = .rt .non) /\
  ((∀ b : Nat, b < i -> ¬ TC P b b) -> ∃ rs : List (List Int), rs.length = i /\ (∀ (b : Nat) (r : List Int), rs[b]? = some r -> r.Pairwise (· < ·) /\ ∀ a, a ∈ r ↔ TC P a b) /\ ∃ v3 v4 v5 v6 v7 v8,
   loopF (gN1 3) clB ((rngP 0 i).map D.int) [.ro (.int n), .ro Pd, .ow (.lst []), .no, .no, .no, .no, .no, .no] = .nx [.ro (.int n), .ro Pd, .ow (.lst (rs.map tupI)), v3, v4, v5, v6, v7, v8]) := by
 intro i
 induction i with
 | zero => exact fun _ => ⟨fun ⟨b, hb, _⟩ => by omega, fun _ => ⟨[], rfl, fun b r h => by simp at h, _, _, _, _, _, _, rfl⟩⟩
 | succ i ih =>
  intro hi
  obtain ⟨ih1, ih2⟩ := ih (by omega)
  rw [rngP_succ, List.map_append, Int.zero_add]
  by_cases hb : ∃ b : Nat, b < i /\ TC P b b
  ·refine ⟨fun _ => by rw [loop_app, ih1 hb], fun h => ?_⟩
   obtain ⟨b, h1, h2⟩ := hb
   exact absurd h2 (h b (by omega))
  ·obtain ⟨rs, lr, sp, v3, v4, v5, v6, v7, v8, e⟩ := ih2 fun b h1 h2 => hb ⟨b, h1, h2⟩
   obtain ⟨t1, t2⟩ := turn_ok hn hP hl hW (fs := rs.map tupI) (by rw [List.length_map]; omega) (b := (i : Int)) (v4 := v4) (v5 := v5) (v6 := v6) (v7 := v7) (v8 := v8)
   have go : ∀ o, clB [.ro (.int n), .ro Pd, .ow (.lst (rs.map tupI)), .ro (.int (i : Int)), v4, v5, v6, v7, v8] = o -> loopF (gN1 3) clB ((rngP 0 i).map D.int ++ [(i : Int)].map D.int) [.ro (.int n), .ro Pd, .ow (.lst []), .no, .no, .no, .no, .no, .no] = o := fun o h => by
    rw [loop_app, e]
    show (match clB [.ro (.int n), .ro Pd, .ow (.lst (rs.map tupI)), .ro (.int (i : Int)), v4, v5, v6, v7, v8] with | .nx ρ2 => Out.nx ρ2 | o => o) = o
    rw [h]
    cases o <;> rfl
   refine ⟨fun ⟨b, h1, h2⟩ => ?_, fun h => ?_⟩
   ·have : b = i := by
     apply Classical.byContradiction
     intro z
     exact hb ⟨b, by omega, h2⟩
    subst this
    exact go _ (t1 h2)
   ·obtain ⟨r, up, mr, w4, w5, w6, w7, w8, e2⟩ := t2 (h i (by omega))
    refine ⟨rs ++ [r], by simp [lr], fun b q hq => ?_, _, w4, w5, w6, w7, w8, (go _ e2).trans (by rw [List.map_append]; rfl)⟩
    by_cases hbi : b < i
    ·rw [List.getElem?_append_left (by omega)] at hq
     exact sp b q hq
    ·rw [List.getElem?_append_right (by omega)] at hq
     have : b = i := by
      have := (List.getElem?_eq_some_iff.1 hq).1
      simp at this
      omega
     subst this
     rw [lr, Nat.sub_self] at hq
     cases hq
     exact ⟨up, mr⟩
theorem closed_none {n : Nat} (hn : n <= 9) {P : List (Int × Int)} (hP : InR n P) (hl : P.length <= 800) {Pd : D} (hW : walkM Pd = some (P.map pairD)) (h : ∃ b : Int, TC P b b) : LL.f_l_closed [.int n, Pd] = .ok .non := by
 obtain ⟨b, t⟩ := h
 have hr := TC.rng hP t
 have e := (turns_ok hn hP hl hW n (Nat.le_refl _)).1 ⟨b.toNat, by omega, by rw [show ((b.toNat : Nat) : Int) = b by omega]; exact t⟩
 unfold LL.f_l_closed
 exact runE rfl (seqE [.ro (.int n), .ro Pd, .ow (.lst []), .no, .no, .no, .no, .no, .no] rfl (seqR (forE _ (rng1E rfl (by omega)) e)))
theorem closed_some {x : List (List Int)} (hx : Ord.Rows x) (hn : x.length <= 9) {P : List (Int × Int)} (hP : InR x.length P) (hl : P.length <= 800) {Pd : D} (hW : walkM Pd = some (P.map pairD)) (h : ∀ a b : Int, 0 <= b -> b < (x.length : Int) -> (a ∈ row x b ↔ TC P a b)) :
  LL.f_l_closed [.int x.length, Pd] = .ok (ordD x) := by
 obtain ⟨rs, lr, sp, v3, v4, v5, v6, v7, v8, e⟩ := (turns_ok hn hP hl hW x.length (Nat.le_refl _)).2 fun b hb t => r_irr hx (c := (b : Int)) (by omega) (by omega) ((h b b (by omega) (by omega)).2 t)
 have er : rs = x := by
  refine List.ext_getElem? fun k => ?_
  by_cases hk : k < x.length
  ·have e1 : rs[k]? = some rs[k] := List.getElem?_eq_getElem (by omega)
   have e2 : x[k]? = some (row x (k : Int)) := by
    have := row_get (x := x) (b := (k : Int)) (by omega) (by omega)
    rwa [Int.toNat_natCast] at this
   rw [e1, e2]
   obtain ⟨up, mr⟩ := sp k _ e1
   exact congrArg some (Ord.up_eq _ _ up (hx.up _ _ e2) fun a => by rw [mr, h a k (by omega) (by omega)])
  ·rw [List.getElem?_eq_none (by omega), List.getElem?_eq_none (by omega)]
 rw [er] at e
 unfold LL.f_l_closed
 exact runE rfl (seqE [.ro (.int x.length), .ro Pd, .ow (.lst []), .no, .no, .no, .no, .no, .no] rfl (seqE _ (forE _ (rng1E rfl (by omega)) e) (retE (cb1E rfl rfl))))
end LL
end
section
namespace K02
open PySem L3 L4
def f_order_of : FnF := runF 5 2
  (sSeq (sFor (iWalk (eVar 1)) (gN2 2 3)
   (sThr (rCall LL.f_refuse_strangers (aCons (eVar 0) (aCons (eVar 2) (aCons (eVar 3) aNil)))) (sX (xPureR (eCall LL.f_refuse_strangers (aCons (eVar 0) (aCons (eVar 2) (aCons (eVar 3) aNil))))))))
  (sSeq (sSet 4 (eBin repTM (eTup (aCons (eTup aNil) aNil)) (eVar 0)))
  (sSeq (sFor (iWalk (eVar 1)) (gN2 2 3)
   (sThr (rCall LL.f_put_under (aCons (eVar 4) (aCons (eVar 2) (aCons (eVar 3) aNil)))) (sSet 4 (eCall LL.f_put_under (aCons (eVar 4) (aCons (eVar 2) (aCons (eVar 3) aNil)))))))
  (sRet (eVar 4)))))
def f_l_asked : FnF := runF 3 2
  (sTry (sThr (rNext (eC (.str "told")) (rCall f_order_of (aCons (eVar 0) (aCons (eVar 1) aNil)))) (sRet (eTup (aCons (eC (.str "told")) (aCons (eCall f_order_of (aCons (eVar 0) (aCons (eVar 1) aNil))) aNil))))) (fun c => if c = "NoThing" then some (.tup [.str "refused", .bl true, .bl false, .bl false, .bl false, .bl false, .bl false, .bl false, .bl false, .bl false, .bl false, .bl false, .bl false, .bl false, .bl true]) else if c = "Looped" then some (.tup [.str "refused", .bl false, .bl true, .bl false, .bl false, .bl false, .bl false, .bl false, .bl false, .bl false, .bl false, .bl false, .bl false, .bl false, .bl true]) else none))
def f_l_made : FnF := runF 13 3
  (sSeq (sSet 3 (eCall LL.f_l_draws (aCons (eCall LL.f_l_cell (aCons (eVar 0) (aCons (eVar 1) aNil))) (aCons (eC (.int 24)) (aCons (eVar 2) aNil)))))
  (sSeq (sSet 4 (eBin modM (eBin ixM (eVar 3) (eC (.int 0))) (eC (.int 10))))
  (sSeq (sIf (tAnd (tV (eBin eqM (eBin modM (eBin ixM (eVar 3) (eC (.int 1))) (eC (.int 4))) (eC (.int 1)))) (tV (eBin gtM (eVar 4) (eC (.int 0)))))
   (sOwn 5 (eComp 1 [4, 3] (iRange (aCons (eBin modM (eBin ixM (eVar 3) (eC (.int 2))) (eC (.int 9))) aNil)) (g1 0) tTrue (eTup (aCons (eBin modM (eBin ixM (eVar 2) (eBin addM (eC (.int 3)) (eBin mulM (eC (.int 2)) (eVar 0)))) (eVar 1)) (aCons (eBin modM (eBin ixM (eVar 2) (eBin addM (eC (.int 4)) (eBin mulM (eC (.int 2)) (eVar 0)))) (eVar 1)) aNil)))))
   (sSeq (sSet 6 (eCall LL.f_l_draws (aCons (eCall LL.f_l_cell (aCons (eVar 0) (aCons (eBin addM (eVar 1) (eC (.int 1))) aNil))) (aCons (eBin addM (eVar 4) (eBin divM (eBin mulM (eVar 4) (eBin subM (eVar 4) (eC (.int 1)))) (eC (.int 2)))) (aCons (eBin addM (eVar 2) (eC (.int 10007))) aNil)))))
   (sSeq (sOwn 5 (eLst aNil))
   (sSeq (sSet 7 (eCall LL.f_l_draws (aCons (eCall LL.f_l_cell (aCons (eVar 0) (aCons (eBin addM (eVar 1) (eC (.int 2))) aNil))) (aCons (eC (.int 36)) (aCons (eBin addM (eVar 2) (eC (.int 20011))) aNil)))))
   (sFor (iEnum (aCons (eCall LL.f_l_ties (aCons (eCall LL.f_l_order (aCons (eVar 6) (aCons (eVar 4) (aCons (eBin addM (eC (.int 1)) (eBin modM (eBin ixM (eVar 3) (eC (.int 2))) (eC (.int 4)))) aNil)))) aNil)) aNil)) (gN2 8 9)
    (sSeq (sIf (tV (eBin gtM (eBin modM (eBin ixM (eVar 7) (eVar 8)) (eC (.int 5))) (eC (.int 0))))
     (sX (xIns 5 (eBin modM (eBin divM (eBin ixM (eVar 7) (eVar 8)) (eC (.int 5))) (eBin addM (eCB lenM (aCons (eVar 5) aNil)) (eC (.int 1)))) (eVar 9)))
     sEnd)
    (sIf (tV (eBin eqM (eBin modM (eBin ixM (eVar 7) (eVar 8)) (eC (.int 7))) (eC (.int 0))))
     (sX (xM1 5 appM (xPureR (eVar 9))))
     sEnd)))))))
  (sSeq (sIf (tAnd (tV (eBin eqM (eBin modM (eBin ixM (eVar 3) (eC (.int 19))) (eC (.int 6))) (eC (.int 1)))) (tV (eBin gtM (eCB lenM (aCons (eVar 5) aNil)) (eC (.int 1)))))
   (sSeq (sSetX 10 (xM1 5 popM (xPure (eBin modM (eBin ixM (eVar 3) (eC (.int 20))) (eCB lenM (aCons (eVar 5) aNil))))))
   (sOwnI 5 (eBin catM (eSl (eBin repLM (eVar 5) (eC (.int 298))) oNo (oE (eC (.int 298)))) (eLst (aCons (eVar 10) aNil)))))
   sEnd)
  (sSeq (sIf (tV (eBin eqM (eBin modM (eBin ixM (eVar 3) (eC (.int 21))) (eC (.int 6))) (eC (.int 1))))
   (sSeq (sSet 11 (eBin ixM (eLst (aCons (eNeg (eC (.int 1))) (aCons (eVar 4) (aCons (eBin addM (eVar 4) (eC (.int 7))) (aCons (eBin subM (eNeg (eVar 4)) (eC (.int 1))) (aCons (eBin subM (eBin powGM (eBin powM (eC (.int 10)) (eC (.int 60))) (eC (.int 10))) (eC (.int 1))) aNil)))))) (eBin modM (eBin ixM (eVar 3) (eC (.int 22))) (eC (.int 5)))))
   (sSeq (sSet 12 (eBin ixM (eLst (aCons (eTup (aCons (eVar 11) (aCons (eC (.int 0)) aNil))) (aCons (eTup (aCons (eC (.int 0)) (aCons (eVar 11) aNil))) (aCons (eTup (aCons (eVar 11) (aCons (eVar 11) aNil))) aNil)))) (eBin modM (eBin ixM (eVar 3) (eC (.int 23))) (eC (.int 3)))))
   (sX (xIns 5 (eBin modM (eBin ixM (eVar 3) (eC (.int 2))) (eBin addM (eCB lenM (aCons (eVar 5) aNil)) (eC (.int 1)))) (eVar 12)))))
   sEnd)
  (sRet (eTup (aCons (eVar 4) (aCons (eCB tupleM (aCons (eVar 5) aNil)) aNil)))))))))
def f_l_due : FnF := runF 5 2
  (sSeq (sFor (iWalk (eVar 1)) (gN2 2 3)
   (sIf (tOr (tV (eBin ltM (eVar 2) (eC (.int 0)))) (tOr (tV (eBin geM (eVar 2) (eVar 0))) (tOr (tV (eBin ltM (eVar 3) (eC (.int 0)))) (tV (eBin geM (eVar 3) (eVar 0))))))
    (sRet (eCall LL.f_l_refused (aCons (eC (.str "NoThing")) aNil)))
    sEnd))
  (sSeq (sSet 4 (eCall LL.f_l_closed (aCons (eVar 0) (aCons (eVar 1) aNil))))
  (sSeq (sIf (tV (eBin isM (eVar 4) (eC .non)))
   (sRet (eCall LL.f_l_refused (aCons (eC (.str "Looped")) aNil)))
   sEnd)
  (sRet (eTup (aCons (eC (.str "told")) (aCons (eVar 4) aNil)))))))
def f_law : FnF := runF 6 1
  (sSeq (sAsg (xPureR (eCall f_l_made (aCons (eVar 0) (aCons (eC (.int 0)) (aCons (eC (.int 100003)) aNil))))) (gN2 1 2))
  (sSeq (sAsg (xPureR (eCall f_l_made (aCons (eVar 0) (aCons (eC (.int 3)) (aCons (eC (.int 400009)) aNil))))) (gN2 3 4))
  (sSeq (sSet 5 (eCall f_l_due (aCons (eVar 1) (aCons (eVar 2) aNil))))
  (sSeq (sIf (tOr (tNot (tV (eCall (LL.f_l_same 6) (aCons (eCall f_l_asked (aCons (eVar 1) (aCons (eVar 2) aNil))) (aCons (eVar 5) aNil))))) (tNot (tV (eCall (LL.f_l_same 6) (aCons (eCall f_l_asked (aCons (eVar 3) (aCons (eVar 4) aNil))) (aCons (eCall f_l_due (aCons (eVar 3) (aCons (eVar 4) aNil))) aNil))))))
   (sRet (eC (.bl false)))
   sEnd)
  (sRet (eCall (LL.f_l_same 6) (aCons (eCall f_l_asked (aCons (eVar 1) (aCons (eVar 2) aNil))) (aCons (eVar 5) aNil))))))))
end K02
end
section
namespace K02
open PySem L3 L4 LL K03 K45
def refT : D := .tup [.str "refused", .bl true, .bl false, .bl false, .bl false, .bl false, .bl false, .bl false, .bl false, .bl false, .bl false, .bl false, .bl false, .bl false, .bl true]
def refL : D := .tup [.str "refused", .bl false, .bl true, .bl false, .bl false, .bl false, .bl false, .bl false, .bl false, .bl false, .bl false, .bl false, .bl false, .bl false, .bl true]
theorem refused_t : f_l_refused [.str "NoThing"] = .ok refT := by kernel_rfl
theorem refused_l : f_l_refused [.str "Looped"] = .ok refL := by kernel_rfl
theorem short {x : List (List Int)} (hx : Ord.Rows x) (hn : x.length <= 9) : ∀ r ∈ x, r.length <= 9 := fun r hr => Nat.le_trans (Ord.Rows.short hx hr) hn
def good (n : Nat) (P : List (Int × Int)) : Bool := P.all fun p => thing n p.1 && thing n p.2
theorem good_in {n : Nat} {P : List (Int × Int)} (h : good n P = true) : InR n P := fun p hp => by
 have := List.all_eq_true.mp h p hp
 rw [Bool.and_eq_true, thing_iff, thing_iff] at this
 exact this
def B1 : SF := sThr (rCall LL.f_refuse_strangers (aCons (eVar 0) (aCons (eVar 2) (aCons (eVar 3) aNil)))) (sX (xPureR (eCall LL.f_refuse_strangers (aCons (eVar 0) (aCons (eVar 2) (aCons (eVar 3) aNil))))))
theorem loop1 {n : Nat} {Pd : D} : ∀ (P : List (Int × Int)) (v2 v3 : Sv),
  (good n P = false -> loopF (gN2 2 3) B1 (P.map pairD) [.ro (.int n), .ro Pd, v2, v3, .no] = .ex "NoThing") /\
  (good n P = true -> ∃ w2 w3, loopF (gN2 2 3) B1 (P.map pairD) [.ro (.int n), .ro Pd, v2, v3, .no] = .nx [.ro (.int n), .ro Pd, w2, w3, .no])
 | [], v2, v3 => ⟨fun h => (by cases h), fun _ => ⟨v2, v3, rfl⟩⟩
 | p :: P, v2, v3 => by
  obtain ⟨i1, i2⟩ := loop1 (n := n) (Pd := Pd) P (.ro (.int p.1)) (.ro (.int p.2))
  have eq : good n (p :: P) = ((thing n p.1 && thing n p.2) && good n P) := rfl
  rw [eq]
  cases h : (thing n p.1 && thing n p.2) with
  | false =>
   refine ⟨fun _ => ?_, fun z => by cases z⟩
   have e : B1 [.ro (.int n), .ro Pd, .ro (.int p.1), .ro (.int p.2), .no] = .ex "NoThing" := thrX (rc3 rfl rfl rfl (by rw [refuse_ex h]; rfl))
   show (match B1 [.ro (.int n), .ro Pd, .ro (.int p.1), .ro (.int p.2), .no] with | .nx ρ2 => loopF (gN2 2 3) B1 (P.map pairD) ρ2 | o => o) = _
   rw [e]
  | true =>
   rw [Bool.true_and]
   have h' := Bool.and_eq_true_iff.mp h
   have e : B1 [.ro (.int n), .ro Pd, .ro (.int p.1), .ro (.int p.2), .no] = .nx [.ro (.int n), .ro Pd, .ro (.int p.1), .ro (.int p.2), .no] := by
    refine thrN (rc3 rfl rfl rfl (by rw [refuse_ok h'.1 h'.2]; rfl)) ?_
    unfold sX xPureR
    rw [call3E (x := .int n) (y := .int p.1) (z := .int p.2) rfl rfl rfl (refuse_ok h'.1 h'.2)]
    rfl
   have go : loopF (gN2 2 3) B1 ((p :: P).map pairD) [.ro (.int n), .ro Pd, v2, v3, .no] = loopF (gN2 2 3) B1 (P.map pairD) [.ro (.int n), .ro Pd, .ro (.int p.1), .ro (.int p.2), .no] := by
    show (match B1 [.ro (.int n), .ro Pd, .ro (.int p.1), .ro (.int p.2), .no] with | .nx ρ2 => loopF (gN2 2 3) B1 (P.map pairD) ρ2 | o => o) = _
    rw [e]
   rw [go]
   exact ⟨i1, i2⟩
structure Inv (n : Nat) (Q : List (Int × Int)) (x : List (List Int)) : Prop where
 len : x.length = n
 rows : Ord.Rows x
 rng : InR n Q
 has : ∀ p ∈ Q, p.1 ∈ row x p.2
 sub : ∀ a b : Int, 0 <= b -> b < (n : Int) -> a ∈ row x b -> TC Q a b
theorem Inv.put {n : Nat} {Q : List (Int × Int)} {x : List (List Int)} (h : Inv n Q x) {a b : Int} (ha : thing n a = true) (hb : thing n b = true) (hl : loopB x a b = false) : Inv n (Q ++ [(a, b)]) (LL.put x a b) := by
 have hn := h.len
 subst hn
 obtain ⟨a0, a1⟩ := thing_iff.mp ha
 obtain ⟨b0, b1⟩ := thing_iff.mp hb
 have one : TC (Q ++ [(a, b)]) a b := .one (by simp)
 have old : ∀ {c d : Int}, TC Q c d -> TC (Q ++ [(a, b)]) c d := fun t => t.mono fun p hp => List.mem_append_left _ hp
 refine ⟨put_length x a b, put_rows h.rows ha hb hl, fun p hp => ?_, fun p hp => ?_, fun c d d0 d1 hc => ?_⟩
 ·rcases List.mem_append.1 hp with z | z
  ·exact h.rng p z
  ·rw [List.mem_singleton] at z
   subst z
   exact ⟨⟨a0, a1⟩, b0, b1⟩
 ·rcases List.mem_append.1 hp with z | z
  ·have := h.rng p z
   exact (mem_put this.2.1 this.2.2).2 (.inl (h.has p z))
  ·rw [List.mem_singleton] at z
   subst z
   exact (mem_put b0 b1).2 (.inr ⟨.inl rfl, .inl rfl⟩)
 ·rcases (mem_put d0 d1).1 hc with z | ⟨u, l⟩
  ·exact old (h.sub c d d0 d1 z)
  ·have t1 : TC (Q ++ [(a, b)]) c b := by
    rcases l with e | l
    ·rw [e]; exact one
    ·exact (old (h.sub c a a0 a1 l)).trans one
   rcases u with e | u
   ·rw [e]; exact t1
   ·exact t1.trans (old (h.sub b d d0 d1 u))
theorem Inv.loop {n : Nat} {Q : List (Int × Int)} {x : List (List Int)} (h : Inv n Q x) {a b : Int} (ha : thing n a = true) (hl : loopB x a b = true) : ∃ c, TC (Q ++ [(a, b)]) c c := by
 have hn := h.len
 subst hn
 obtain ⟨a0, a1⟩ := thing_iff.mp ha
 have one : TC (Q ++ [(a, b)]) a b := .one (by simp)
 unfold loopB at hl
 rw [Bool.or_eq_true, decide_eq_true_eq, List.contains_iff_mem] at hl
 rcases hl with e | m
 ·refine ⟨b, ?_⟩
  rw [e] at one ⊢
  exact one
 ·exact ⟨b, ((h.sub b a a0 a1 m).mono fun p hp => List.mem_append_left _ hp).trans one⟩
theorem Inv.all {n : Nat} {Q : List (Int × Int)} {x : List (List Int)} (h : Inv n Q x) {a b : Int} (t : TC Q a b) : 0 <= b /\ b < (n : Int) /\ a ∈ row x b := by
 have hn := h.len
 subst hn
 induction t with
 | one q => exact ⟨(h.rng _ q).2.1, (h.rng _ q).2.2, h.has _ q⟩
 | more q _ ih => exact ⟨ih.1, ih.2.1, r_tr h.rows ih.1 ih.2.1 ih.2.2 (h.has _ q)⟩
theorem Inv.nil (n : Nat) : Inv n [] (List.replicate n []) := by
 have r0 : ∀ d : Int, row (List.replicate n ([] : List Int)) d = [] := fun d => by
  unfold row
  rw [List.getElem?_replicate]
  split <;> rfl
 refine ⟨by simp, rows_of (fun d _ _ => by rw [r0]; exact List.Pairwise.nil) (fun c d _ _ h => by rw [r0] at h; cases h) (fun c v d _ _ h _ => by rw [r0] at h; cases h) (fun d _ _ h => by rw [r0] at h; cases h), fun p hp => (by cases hp), fun p hp => (by cases hp), fun a b _ _ h => (by rw [r0] at h; cases h)⟩
def B2 : SF := sThr (rCall LL.f_put_under (aCons (eVar 4) (aCons (eVar 2) (aCons (eVar 3) aNil)))) (sSet 4 (eCall LL.f_put_under (aCons (eVar 4) (aCons (eVar 2) (aCons (eVar 3) aNil)))))
theorem loop2 {n : Nat} (hn : n <= 9) {Pd : D} : ∀ (P Q : List (Int × Int)) (x : List (List Int)) (v2 v3 : Sv), good n P = true -> Inv n Q x ->
  (loopF (gN2 2 3) B2 (P.map pairD) [.ro (.int n), .ro Pd, v2, v3, .ro (ordD x)] = .ex "Looped" /\ ∃ b, TC (Q ++ P) b b) \/
  (∃ y w2 w3, Inv n (Q ++ P) y /\ loopF (gN2 2 3) B2 (P.map pairD) [.ro (.int n), .ro Pd, v2, v3, .ro (ordD x)] = .nx [.ro (.int n), .ro Pd, w2, w3, .ro (ordD y)])
 | [], Q, x, v2, v3, _, h => .inr ⟨x, v2, v3, by rw [List.append_nil]; exact h, rfl⟩
 | p :: P, Q, x, v2, v3, hg, h => by
  have hg' : ((thing n p.1 && thing n p.2) && good n P) = true := hg
  rw [Bool.and_eq_true, Bool.and_eq_true] at hg'
  obtain ⟨⟨ha, hb⟩, hP⟩ := hg'
  have hl := h.len
  have ap : Q ++ p :: P = (Q ++ [(p.1, p.2)]) ++ P := by simp
  cases hlp : loopB x p.1 p.2 with
  | true =>
   refine .inl ⟨?_, ?_⟩
   ·have e : B2 [.ro (.int n), .ro Pd, .ro (.int p.1), .ro (.int p.2), .ro (ordD x)] = .ex "Looped" := thrX (rc3 rfl rfl rfl (by rw [put_loop (by rw [hl]; exact ha) (by rw [hl]; exact hb) hlp]; rfl))
    show (match B2 [.ro (.int n), .ro Pd, .ro (.int p.1), .ro (.int p.2), .ro (ordD x)] with | .nx ρ2 => loopF (gN2 2 3) B2 (P.map pairD) ρ2 | o => o) = _
    rw [e]
   ·obtain ⟨c, t⟩ := h.loop ha hlp
    exact ⟨c, by rw [ap]; exact t.mono fun q hq => List.mem_append_left _ hq⟩
  | false =>
   have e : B2 [.ro (.int n), .ro Pd, .ro (.int p.1), .ro (.int p.2), .ro (ordD x)] = .nx [.ro (.int n), .ro Pd, .ro (.int p.1), .ro (.int p.2), .ro (ordD (LL.put x p.1 p.2))] := by
    have e := put_ok (x := x) (a := p.1) (b := p.2) (by omega) (short h.rows (by omega)) (by rw [hl]; exact ha) (by rw [hl]; exact hb) hlp
    exact thrN (rc3 rfl rfl rfl (by rw [e]; rfl)) (setE _ (call3E rfl rfl rfl e) rfl)
   have go : loopF (gN2 2 3) B2 ((p :: P).map pairD) [.ro (.int n), .ro Pd, v2, v3, .ro (ordD x)] = loopF (gN2 2 3) B2 (P.map pairD) [.ro (.int n), .ro Pd, .ro (.int p.1), .ro (.int p.2), .ro (ordD (LL.put x p.1 p.2))] := by
    show (match B2 [.ro (.int n), .ro Pd, .ro (.int p.1), .ro (.int p.2), .ro (ordD x)] with | .nx ρ2 => loopF (gN2 2 3) B2 (P.map pairD) ρ2 | o => o) = _
    rw [e]
   rw [go, ap]
   exact loop2 hn P (Q ++ [(p.1, p.2)]) (LL.put x p.1 p.2) _ _ hP (h.put ha hb hlp)
theorem rep_ok {n : Nat} (hn : n <= 9) : repTM (.tup [.tup []]) (.int n) = some (ordD (List.replicate n [])) := by
 show (if _ /\ _ then _ else _) = _
 rw [if_pos ⟨by simp [szL]; omega, by omega⟩]
 unfold ordD
 simp [tupI]
theorem order_none {n : Nat} {P : List (Int × Int)} (h : good n P = false) : f_order_of [.int n, .tup (P.map pairD)] = .ex "NoThing" := by
 unfold f_order_of
 exact runX rfl (seqX (forE _ rfl ((loop1 P .no .no).1 h)))
theorem order_some {n : Nat} (hn : n <= 9) {P : List (Int × Int)} (h : good n P = true) :
  (f_order_of [.int n, .tup (P.map pairD)] = .ex "Looped" /\ ∃ b, TC P b b) \/ (∃ y, Inv n P y /\ f_order_of [.int n, .tup (P.map pairD)] = .ok (ordD y)) := by
 obtain ⟨w2, w3, e1⟩ := (loop1 (n := n) (Pd := .tup (P.map pairD)) P .no .no).2 h
 have st : ∀ o, loopF (gN2 2 3) B2 (P.map pairD) [.ro (.int n), .ro (.tup (P.map pairD)), w2, w3, .ro (ordD (List.replicate n []))] = o -> (sSeq (sFor (iWalk (eVar 1)) (gN2 2 3) B1) (sSeq (sSet 4 (eBin repTM (eTup (aCons (eTup aNil) aNil)) (eVar 0))) (sFor (iWalk (eVar 1)) (gN2 2 3) B2))) (startS 5 [.int n, .tup (P.map pairD)]) = o := fun o e =>
  seqE _ (forE _ rfl e1) (seqE _ (setE _ (binE (x := .tup [.tup []]) (y := .int n) rfl rfl (rep_ok hn)) rfl) (forE _ rfl e))
 rcases loop2 hn P [] (List.replicate n []) w2 w3 (Pd := .tup (P.map pairD)) h (Inv.nil n) with ⟨e, b, t⟩ | ⟨y, u2, u3, hy, e⟩
 ·refine .inl ⟨?_, b, t⟩
  unfold f_order_of
  exact runX rfl (seqE _ (forE _ rfl e1) (seqE _ (setE _ (binE (x := .tup [.tup []]) (y := .int n) rfl rfl (rep_ok hn)) rfl) (seqX (forE _ rfl e))))
 ·refine .inr ⟨y, hy, ?_⟩
  unfold f_order_of
  exact runE rfl (seqE _ (forE _ rfl e1) (seqE _ (setE _ (binE (x := .tup [.tup []]) (y := .int n) rfl rfl (rep_ok hn)) rfl) (seqE _ (forE _ rfl e) (retE rfl))))
theorem strange_test {n : Nat} {a b : Int} {d : D} {r : SEnv} : (tOr (tV (eBin ltM (eVar 2) (eC (.int 0)))) (tOr (tV (eBin geM (eVar 2) (eVar 0))) (tOr (tV (eBin ltM (eVar 3) (eC (.int 0)))) (tV (eBin geM (eVar 3) (eVar 0)))))) (vAll (Sv.ro (.int n) :: Sv.ro d :: Sv.ro (.int a) :: Sv.ro (.int b) :: r)) = some (!(thing n a && thing n b)) := by
 refine torE (b := decide (a < 0)) (tvE rfl rfl) (fun h1 => ?_) (fun h1 => ?_)
 ·refine torE (b := decide ((n : Int) <= a)) (tvE rfl rfl) (fun h2 => ?_) (fun h2 => ?_)
  ·refine torE (b := decide (b < 0)) (tvE rfl rfl) (fun h3 => ?_) (fun h3 => ?_)
   ·refine tvE (d := .bl (decide ((n : Int) <= b))) rfl ?_
    simp only [decide_eq_false_iff_not] at h1 h2 h3
    have ta : thing n a = true := thing_iff.mpr (by omega)
    have tb : thing n b = !decide ((n : Int) <= b) := by
     unfold thing
     rw [decide_eq_true (show 0 <= b by omega), Bool.true_and]
     by_cases hb : (n : Int) <= b
     ·rw [decide_eq_true hb, decide_eq_false (by omega)]; rfl
     ·rw [decide_eq_false hb, decide_eq_true (by omega)]; rfl
    rw [ta, Bool.true_and, tb, Bool.not_not]
    rfl
   ·simp only [decide_eq_true_eq] at h3
    unfold thing
    simp; omega
  ·simp only [decide_eq_true_eq] at h2
   unfold thing
   simp; omega
 ·simp only [decide_eq_true_eq] at h1
  unfold thing
  simp; omega
def B3 : SF := (sIf (tOr (tV (eBin ltM (eVar 2) (eC (.int 0)))) (tOr (tV (eBin geM (eVar 2) (eVar 0))) (tOr (tV (eBin ltM (eVar 3) (eC (.int 0)))) (tV (eBin geM (eVar 3) (eVar 0))))))
    (sRet (eCall LL.f_l_refused (aCons (eC (.str "NoThing")) aNil)))
    sEnd)
theorem loop3 {n : Nat} {Pd : D} : ∀ (P : List (Int × Int)) (v2 v3 : Sv),
  (good n P = false -> loopF (gN2 2 3) B3 (P.map pairD) [.ro (.int n), .ro Pd, v2, v3, .no] = .rt refT) /\
  (good n P = true -> ∃ w2 w3, loopF (gN2 2 3) B3 (P.map pairD) [.ro (.int n), .ro Pd, v2, v3, .no] = .nx [.ro (.int n), .ro Pd, w2, w3, .no])
 | [], v2, v3 => ⟨fun h => (by cases h), fun _ => ⟨v2, v3, rfl⟩⟩
 | p :: P, v2, v3 => by
  obtain ⟨i1, i2⟩ := loop3 (n := n) (Pd := Pd) P (.ro (.int p.1)) (.ro (.int p.2))
  have eq : good n (p :: P) = ((thing n p.1 && thing n p.2) && good n P) := rfl
  rw [eq]
  cases h : (thing n p.1 && thing n p.2) with
  | false =>
   refine ⟨fun _ => ?_, fun z => by cases z⟩
   have e : B3 [.ro (.int n), .ro Pd, .ro (.int p.1), .ro (.int p.2), .no] = .rt refT := ifT (strange_test.trans (by rw [h]; rfl)) (retE (call1E rfl refused_t))
   show (match B3 [.ro (.int n), .ro Pd, .ro (.int p.1), .ro (.int p.2), .no] with | .nx ρ2 => loopF (gN2 2 3) B3 (P.map pairD) ρ2 | o => o) = _
   rw [e]
  | true =>
   rw [Bool.true_and]
   have e : B3 [.ro (.int n), .ro Pd, .ro (.int p.1), .ro (.int p.2), .no] = .nx [.ro (.int n), .ro Pd, .ro (.int p.1), .ro (.int p.2), .no] := ifF (strange_test.trans (by rw [h]; rfl)) rfl
   have go : loopF (gN2 2 3) B3 ((p :: P).map pairD) [.ro (.int n), .ro Pd, v2, v3, .no] = loopF (gN2 2 3) B3 (P.map pairD) [.ro (.int n), .ro Pd, .ro (.int p.1), .ro (.int p.2), .no] := by
    show (match B3 [.ro (.int n), .ro Pd, .ro (.int p.1), .ro (.int p.2), .no] with | .nx ρ2 => loopF (gN2 2 3) B3 (P.map pairD) ρ2 | o => o) = _
    rw [e]
   rw [go]
   exact ⟨i1, i2⟩
theorem plain_of {l : List D} (hl : l.length <= 1000000) (h : ∀ d ∈ l, d = .bl true \/ d = .bl false \/ d = .str "refused") : plainD 6 (.tup l) := ⟨hl, fun d hd => by
 rcases h d hd with rfl | rfl | rfl <;> trivial⟩
theorem plain_t : plainD 6 refT := by
 unfold refT
 refine plain_of (by simp) fun d hd => ?_
 simp only [List.mem_cons, List.not_mem_nil, or_false] at hd
 rcases hd with h | h | h | h | h | h | h | h | h | h | h | h | h | h | h <;> simp [h]
theorem plain_l : plainD 6 refL := by
 unfold refL
 refine plain_of (by simp) fun d hd => ?_
 simp only [List.mem_cons, List.not_mem_nil, or_false] at hd
 rcases hd with h | h | h | h | h | h | h | h | h | h | h | h | h | h | h <;> simp [h]
theorem same_ans {n : Nat} (hn : n <= 9) {P : List (Int × Int)} (hP : P.length <= 800) : ∃ d, plainD 6 d /\ f_l_asked [.int n, .tup (P.map pairD)] = .ok d /\ f_l_due [.int n, .tup (P.map pairD)] = .ok d := by
 unfold f_l_asked f_l_due
 cases hg : good n P with
 | false =>
  refine ⟨refT, plain_t, ?_, ?_⟩
  ·exact runE rfl (tryX (thrX (rnE rfl (rc2 rfl rfl (by rw [order_none hg]; rfl)))) rfl)
  ·exact runE rfl (seqR (forE _ rfl ((loop3 P .no .no).1 hg)))
 | true =>
  obtain ⟨w2, w3, e3⟩ := (loop3 (n := n) (Pd := .tup (P.map pairD)) P .no .no).2 hg
  rcases order_some hn hg with ⟨e, t⟩ | ⟨y, hy, e⟩
  ·refine ⟨refL, plain_l, ?_, ?_⟩
   ·exact runE rfl (tryX (thrX (rnE rfl (rc2 rfl rfl (by rw [e]; rfl)))) rfl)
   ·exact runE rfl (seqE _ (forE _ rfl e3) (seqE _ (setE .non (call2E rfl rfl (closed_none hn (good_in hg) hP rfl t)) rfl) (seqR (ifT (tvE rfl rfl) (retE (call1E rfl refused_l))))))
  ·have hl := hy.len
   refine ⟨.tup [.str "told", ordD y], ?_, ?_, ?_⟩
   ·refine ⟨by simp, fun d hd => ?_⟩
    simp only [List.mem_cons, List.not_mem_nil, or_false] at hd
    rcases hd with rfl | rfl
    ·trivial
    ·exact plain_ordD (by omega) fun r hr => by have := short hy.rows (by omega) r hr; omega
   ·exact runE rfl (tryR (thrN (rnE rfl (rc2 rfl rfl (by rw [e]; rfl))) (retE (tup2 rfl (call2E rfl rfl e)))))
   ·have ec : LL.f_l_closed [.int n, .tup (P.map pairD)] = .ok (ordD y) := by
     have := closed_some hy.rows (by omega) (P := P) (by rw [hl]; exact good_in hg) hP (Pd := .tup (P.map pairD)) rfl fun a b b0 b1 => ⟨hy.sub a b b0 (by omega), fun t => (hy.all t).2.2⟩
     rwa [hl] at this
    exact runE rfl (seqE _ (forE _ rfl e3) (seqE _ (setE (ordD y) (call2E rfl rfl ec) rfl) (seqE _ (ifF (tvE rfl rfl) rfl) (retE (tup2 rfl rfl)))))
theorem imms_pairs : ∀ Q : List (Int × Int), imms (Q.map pairD) = true
 | [] => rfl
 | p :: Q => by
  show ((pairD p).imm && imms (Q.map pairD)) = true
  rw [imms_pairs Q]
  rfl
theorem insP {i : Nat} {fa fb : EF} {ρ : SEnv} {l : List (Int × Int)} {k : Int} {p : Int × Int} (h0 : ownL ρ[i]? = some (l.map pairD)) (ha : fa (vAll ρ) = some (.int k)) (hb : fb (vAll ρ) = some (pairD p)) (k0 : 0 <= k) (k1 : k <= (l.length : Int)) (hl : l.length < 1000) :
  ∃ m : List (Int × Int), m.length = l.length + 1 /\ sX (xIns i fa fb) ρ = .nx (ρ.set i (.ow (.lst (m.map pairD)))) := by
 refine ⟨l.take k.toNat ++ p :: l.drop k.toNat, by simp; omega, ?_⟩
 unfold sX xIns
 rw [h0, Option.bind_some, ha, Option.bind_some, show asInt (.int k) = some k from rfl, Option.bind_some, hb, Option.bind_some, if_pos ⟨rfl, k0, by rw [List.length_map]; exact k1, by rw [List.length_map]; exact Nat.lt_of_lt_of_le hl (by decide)⟩]
 show Out.nx (ρ.set i _) = Out.nx (ρ.set i _)
 rw [List.map_append, List.map_cons, List.map_take, List.map_drop]
theorem asgE {f : EF} {i j : Nat} {ρ : SEnv} {p q : D} (h : f (vRd ρ) = some (.tup [p, q])) : sAsg (xPureR f) (gN2 i j) ρ = .nx ((ρ.set i (.ro p)).set j (.ro q)) := by
 unfold sAsg xPureR
 rw [h]
 rfl
theorem erase_p : ∀ (Q : List (Int × Int)) (j : Nat), (Q.map pairD).eraseIdx j = (Q.eraseIdx j).map pairD
 | [], j => rfl
 | p :: Q, 0 => rfl
 | p :: Q, j + 1 => congrArg (pairD p :: ·) (erase_p Q j)
theorem made_ok (ns : List Int) (k s : Int) : ∃ (n : Nat) (P : List (Int × Int)), n <= 9 /\ P.length <= 800 /\ f_l_made [.scr ns, .int k, .int s] = .ok (.tup [.int n, .tup (P.map pairD)]) := by
 obtain ⟨c, ec⟩ := cell_ok ns k
 obtain ⟨hd, hl, hp, ex⟩ := draws_ok c 24 s (by decide) (by decide)
 have hl : hd.length = 24 := hl
 obtain ⟨c1, ec1⟩ := cell_ok ns (k + 1)
 obtain ⟨c2, ec2⟩ := cell_ok ns (k + 2)
 have m0 := Int.emod_nonneg (at0 hd 0) (show (10 : Int) ≠ 0 by decide)
 have m1 := Int.emod_lt_of_pos (at0 hd 0) (show (0 : Int) < 10 by decide)
 obtain ⟨n, en⟩ : ∃ n : Nat, at0 hd 0 % 10 = (n : Int) := ⟨(at0 hd 0 % 10).toNat, by omega⟩
 have hn : n <= 9 := by omega
 have at' : ∀ (ρ : DEnv) (j : Int), eVar 3 ρ = some (lstI hd) -> 0 <= j -> j < 24 -> eBin ixM (eVar 3) (eC (.int j)) ρ = some (.int (at0 hd j)) := fun ρ j e h0 h1 => binE (x := lstI hd) (y := .int j) e rfl (at_lst h0 (by omega))
 have md : ∀ (ρ : DEnv) (j m : Int), eVar 3 ρ = some (lstI hd) -> 0 <= j -> j < 24 -> 0 < m -> eBin modM (eBin ixM (eVar 3) (eC (.int j))) (eC (.int m)) ρ = some (.int (at0 hd j % m)) := fun ρ j m e h0 h1 hm => binE (y := .int m) (at' ρ j e h0 h1) rfl (modM_int hm)
 have eqt : ∀ (ρ : DEnv) (j m v : Int), 0 <= j -> j < 24 -> 0 < m -> eVar 3 ρ = some (lstI hd) -> tV (eBin eqM (eBin modM (eBin ixM (eVar 3) (eC (.int j))) (eC (.int m))) (eC (.int v))) ρ = some (decide (at0 hd j % m = v)) := fun ρ j m v h0 h1 hm e => tvE (binE (y := .int v) (md ρ j m e h0 h1 hm) rfl eqM_int) rfl
 let S : List (Int × Int) -> Sv -> Sv -> Sv -> Sv -> Sv -> Sv -> Sv -> SEnv := fun Q v6 v7 v8 v9 v10 v11 v12 => [.ro (.scr ns), .ro (.int k), .ro (.int s), .ro (lstI hd), .ro (.int n), .ow (.lst (Q.map pairD)), v6, v7, v8, v9, v10, v11, v12]
 have R : Rt ((sSeq (sSet 3 (eCall LL.f_l_draws (aCons (eCall LL.f_l_cell (aCons (eVar 0) (aCons (eVar 1) aNil))) (aCons (eC (.int 24)) (aCons (eVar 2) aNil)))))
  (sSeq (sSet 4 (eBin modM (eBin ixM (eVar 3) (eC (.int 0))) (eC (.int 10))))
  (sSeq (sIf (tAnd (tV (eBin eqM (eBin modM (eBin ixM (eVar 3) (eC (.int 1))) (eC (.int 4))) (eC (.int 1)))) (tV (eBin gtM (eVar 4) (eC (.int 0)))))
   (sOwn 5 (eComp 1 [4, 3] (iRange (aCons (eBin modM (eBin ixM (eVar 3) (eC (.int 2))) (eC (.int 9))) aNil)) (g1 0) tTrue (eTup (aCons (eBin modM (eBin ixM (eVar 2) (eBin addM (eC (.int 3)) (eBin mulM (eC (.int 2)) (eVar 0)))) (eVar 1)) (aCons (eBin modM (eBin ixM (eVar 2) (eBin addM (eC (.int 4)) (eBin mulM (eC (.int 2)) (eVar 0)))) (eVar 1)) aNil)))))
   (sSeq (sSet 6 (eCall LL.f_l_draws (aCons (eCall LL.f_l_cell (aCons (eVar 0) (aCons (eBin addM (eVar 1) (eC (.int 1))) aNil))) (aCons (eBin addM (eVar 4) (eBin divM (eBin mulM (eVar 4) (eBin subM (eVar 4) (eC (.int 1)))) (eC (.int 2)))) (aCons (eBin addM (eVar 2) (eC (.int 10007))) aNil)))))
   (sSeq (sOwn 5 (eLst aNil))
   (sSeq (sSet 7 (eCall LL.f_l_draws (aCons (eCall LL.f_l_cell (aCons (eVar 0) (aCons (eBin addM (eVar 1) (eC (.int 2))) aNil))) (aCons (eC (.int 36)) (aCons (eBin addM (eVar 2) (eC (.int 20011))) aNil)))))
   (sFor (iEnum (aCons (eCall LL.f_l_ties (aCons (eCall LL.f_l_order (aCons (eVar 6) (aCons (eVar 4) (aCons (eBin addM (eC (.int 1)) (eBin modM (eBin ixM (eVar 3) (eC (.int 2))) (eC (.int 4)))) aNil)))) aNil)) aNil)) (gN2 8 9)
    (sSeq (sIf (tV (eBin gtM (eBin modM (eBin ixM (eVar 7) (eVar 8)) (eC (.int 5))) (eC (.int 0))))
     (sX (xIns 5 (eBin modM (eBin divM (eBin ixM (eVar 7) (eVar 8)) (eC (.int 5))) (eBin addM (eCB lenM (aCons (eVar 5) aNil)) (eC (.int 1)))) (eVar 9)))
     sEnd)
    (sIf (tV (eBin eqM (eBin modM (eBin ixM (eVar 7) (eVar 8)) (eC (.int 7))) (eC (.int 0))))
     (sX (xM1 5 appM (xPureR (eVar 9))))
     sEnd)))))))
  (sSeq (sIf (tAnd (tV (eBin eqM (eBin modM (eBin ixM (eVar 3) (eC (.int 19))) (eC (.int 6))) (eC (.int 1)))) (tV (eBin gtM (eCB lenM (aCons (eVar 5) aNil)) (eC (.int 1)))))
   (sSeq (sSetX 10 (xM1 5 popM (xPure (eBin modM (eBin ixM (eVar 3) (eC (.int 20))) (eCB lenM (aCons (eVar 5) aNil))))))
   (sOwnI 5 (eBin catM (eSl (eBin repLM (eVar 5) (eC (.int 298))) oNo (oE (eC (.int 298)))) (eLst (aCons (eVar 10) aNil)))))
   sEnd)
  (sSeq (sIf (tV (eBin eqM (eBin modM (eBin ixM (eVar 3) (eC (.int 21))) (eC (.int 6))) (eC (.int 1))))
   (sSeq (sSet 11 (eBin ixM (eLst (aCons (eNeg (eC (.int 1))) (aCons (eVar 4) (aCons (eBin addM (eVar 4) (eC (.int 7))) (aCons (eBin subM (eNeg (eVar 4)) (eC (.int 1))) (aCons (eBin subM (eBin powGM (eBin powM (eC (.int 10)) (eC (.int 60))) (eC (.int 10))) (eC (.int 1))) aNil)))))) (eBin modM (eBin ixM (eVar 3) (eC (.int 22))) (eC (.int 5)))))
   (sSeq (sSet 12 (eBin ixM (eLst (aCons (eTup (aCons (eVar 11) (aCons (eC (.int 0)) aNil))) (aCons (eTup (aCons (eC (.int 0)) (aCons (eVar 11) aNil))) (aCons (eTup (aCons (eVar 11) (aCons (eVar 11) aNil))) aNil)))) (eBin modM (eBin ixM (eVar 3) (eC (.int 23))) (eC (.int 3)))))
   (sX (xIns 5 (eBin modM (eBin ixM (eVar 3) (eC (.int 2))) (eBin addM (eCB lenM (aCons (eVar 5) aNil)) (eC (.int 1)))) (eVar 12)))))
   sEnd)
  (sRet (eTup (aCons (eVar 4) (aCons (eCB tupleM (aCons (eVar 5) aNil)) aNil))))))))) (startS 13 [.scr ns, .int k, .int s])) fun d => ∃ P : List (Int × Int), P.length <= 800 /\ d = .tup [.int n, .tup (P.map pairD)] := by
  refine rt_seqE _ (setE (lstI hd) (call3E (call2E rfl rfl ec) rfl rfl ex) rfl) (rt_seqE [.ro (.scr ns), .ro (.int k), .ro (.int s), .ro (lstI hd), .ro (.int n), .no, .no, .no, .no, .no, .no, .no, .no] (setE (.int n) (by rw [<- en]; exact md _ 0 10 rfl (by decide) (by decide) (by decide)) rfl) ?_)
  refine rt_seq (fun ρ => ∃ Q v6 v7 v8 v9, Q.length <= 80 /\ ρ = S Q v6 v7 v8 v9 .no .no .no) ?_ ?_
  ·refine nx_if (decide (at0 hd 1 % 4 = 1) && decide (0 < (n : Int))) (tandE (eqt _ 1 4 1 (by decide) (by decide) (by decide) rfl) (fun h => by rw [h, Bool.true_and]; exact tvE (binE (x := .int n) (y := .int 0) rfl rfl gtM_int) rfl) (fun h => by rw [h]; rfl)) (fun h => ?_) (fun _ => ?_)
   ·have h0 : 0 < (n : Int) := by simp only [Bool.and_eq_true, decide_eq_true_eq] at h; exact h.2
    obtain ⟨m, em⟩ : ∃ m : Nat, at0 hd 2 % 9 = (m : Int) := ⟨(at0 hd 2 % 9).toNat, by have := Int.emod_nonneg (at0 hd 2) (show (9 : Int) ≠ 0 by decide); omega⟩
    have hm : m < 9 := by have := Int.emod_lt_of_pos (at0 hd 2) (show (0 : Int) < 9 by decide); omega
    have at2 : ∀ (ρ : DEnv) (j i : Int), eVar 2 ρ = some (lstI hd) -> eVar 0 ρ = some (.int i) -> eVar 1 ρ = some (.int n) -> 0 <= j + 2 * i -> j + 2 * i < 24 -> eBin modM (eBin ixM (eVar 2) (eBin addM (eC (.int j)) (eBin mulM (eC (.int 2)) (eVar 0)))) (eVar 1) ρ = some (.int (at0 hd (j + 2 * i) % n)) := fun ρ j i e e2 e3 h1 h2 =>
     binE (y := .int n) (binE (x := lstI hd) (y := .int (j + 2 * i)) e (binE (x := .int j) (y := .int (2 * i)) rfl (binE (x := .int 2) rfl e2 (mulM_l (by decide))) addM_int) (at_lst h1 (by omega))) e3 (modM_int h0)
    have ev : eComp 1 [4, 3] (iRange (aCons (eBin modM (eBin ixM (eVar 3) (eC (.int 2))) (eC (.int 9))) aNil)) (g1 0) tTrue (eTup (aCons (eBin modM (eBin ixM (eVar 2) (eBin addM (eC (.int 3)) (eBin mulM (eC (.int 2)) (eVar 0)))) (eVar 1)) (aCons (eBin modM (eBin ixM (eVar 2) (eBin addM (eC (.int 4)) (eBin mulM (eC (.int 2)) (eVar 0)))) (eVar 1)) aNil))) (vRd [.ro (.scr ns), .ro (.int k), .ro (.int s), .ro (lstI hd), .ro (.int n), .no, .no, .no, .no, .no, .no, .no, .no])
      = some (.lst (((rngP 0 m).map fun i => (at0 hd (3 + 2 * i) % (n : Int), at0 hd (4 + 2 * i) % (n : Int))).map pairD)) := by
     refine Eq.trans (compE ((rngP 0 m).map D.int) (rng1E (by rw [<- em]; exact md _ 2 9 rfl (by decide) (by decide) (by decide)) (by omega)) (by rw [List.length_map, rngP_length]; omega) (ys := (rngP 0 m).map fun i => pairD (at0 hd (3 + 2 * i) % (n : Int), at0 hd (4 + 2 * i) % (n : Int))) ?_) (by rw [List.map_map]; rfl)
     refine comp_mapE D.int _ (rngP 0 m) fun i hi => ⟨[some (.int i), some (.int n), some (lstI hd)], rfl, ?_⟩
     have := rngP_mem.mp hi
     exact tup2 (at2 _ 3 i rfl rfl rfl (by omega) (by omega)) (at2 _ 4 i rfl rfl rfl (by omega) (by omega))
    refine ⟨S ((rngP 0 m).map fun i => (at0 hd (3 + 2 * i) % (n : Int), at0 hd (4 + 2 * i) % (n : Int))) .no .no .no .no .no .no .no, ?_, _, _, _, _, _, ?_, rfl⟩
    ·unfold sOwn
     rw [ev]
     rfl
    ·rw [List.length_map, rngP_length]
     omega
   ·have et := tri_two n
    have hq : (n : Int) * ((n : Int) - 1) / 2 = (Ord.tri n : Int) := by
     have : (n : Int) * ((n : Int) - 1) = 2 * (Ord.tri n : Int) := by
      have e2 : ((n * n : Nat) : Int) = (n : Int) * n := by simp
      rw [Int.mul_sub, Int.mul_one]
      omega
     rw [this, Int.mul_ediv_cancel_left _ (by decide)]
    have htri : Ord.tri n <= 36 := Ord.tri_le hn
    obtain ⟨ys, hy, hyn, ey⟩ := draws_ok c1 ((n : Int) + Ord.tri n) (s + 10007) (by omega) (by omega)
    obtain ⟨pk, hpk, _, ep⟩ := draws_ok c2 36 (s + 20011) (by decide) (by decide)
    have hpk : pk.length = 36 := hpk
    obtain ⟨d, ed, x, lx, rx, rfl⟩ := order_ok ys n (1 + at0 hd 2 % 4) hn (by omega)
    have hxn : x.length <= 9 := by omega
    have tl : (T x).length <= 36 := by
     rw [(srt_perm _).length_eq]
     exact ties_36 rx hxn
    refine nx_seqE [.ro (.scr ns), .ro (.int k), .ro (.int s), .ro (lstI hd), .ro (.int n), .no, .ro (lstI ys), .no, .no, .no, .no, .no, .no] (setE (lstI ys) (call3E (call2E (x := .scr ns) (y := .int (k + 1)) rfl rfl ec1) (y := .int ((n : Int) + Ord.tri n)) (binE (y := .int (Ord.tri n)) rfl (binE (x := .int ((n : Int) * ((n : Int) - 1))) (y := .int 2) (binE (x := .int n) (y := .int ((n : Int) - 1)) rfl rfl (mulM_l (by omega))) rfl (by rw [divM_int (by decide) (by decide), hq])) addM_int) (z := .int (s + 10007)) rfl ey) rfl) ?_
    refine nx_seqE (S [] (.ro (lstI ys)) .no .no .no .no .no .no) rfl (nx_seqE (S [] (.ro (lstI ys)) (.ro (lstI pk)) .no .no .no .no .no) (setE (lstI pk) (call3E (call2E (x := .scr ns) (y := .int (k + 2)) rfl rfl ec2) rfl (z := .int (s + 20011)) rfl ep) rfl) ?_)
    refine nx_for ((((T x).map pairD).zipIdx).map fun p => .tup [.int (p.2 : Int), p.1]) (fun i ρ => ∃ Q v8 v9, Q.length <= 2 * i /\ ρ = S Q (.ro (lstI ys)) (.ro (lstI pk)) v8 v9 .no .no .no) ?_ ⟨[], .no, .no, by simp, rfl⟩ ?_ ?_
    ·have e0 : eCall LL.f_l_ties (aCons (eCall LL.f_l_order (aCons (eVar 6) (aCons (eVar 4) (aCons (eBin addM (eC (.int 1)) (eBin modM (eBin ixM (eVar 3) (eC (.int 2))) (eC (.int 4)))) aNil)))) aNil) (vRd (S [] (.ro (lstI ys)) (.ro (lstI pk)) .no .no .no .no .no)) = some (.lst ((T x).map pairD)) :=
      call1E (call3E (x := lstI ys) (y := .int n) (z := .int (1 + at0 hd 2 % 4)) rfl rfl (binE (x := .int 1) rfl (md _ 2 4 rfl (by decide) (by decide) (by decide)) addM_int) ed) (l_ties_ok rx hxn)
     exact (congrArg (fun o : Option D => (o.bind fun d => (some ([] : List D)).bind fun ds => some (d :: ds)).bind enumM) e0).trans rfl
    ·rintro i d _ hd' ⟨Q, v8, v9, hQ, rfl⟩
     rw [zipIdx_map, List.map_map, List.getElem?_map] at hd'
     obtain ⟨⟨p, j⟩, hz, rfl⟩ := Option.map_eq_some_iff.mp hd'
     have hj : j = i /\ (T x)[i]? = some p := by
      rw [List.getElem?_zipIdx] at hz
      obtain ⟨r', e1, e2⟩ := Option.map_eq_some_iff.mp hz
      cases e2
      exact ⟨by omega, e1⟩
     obtain ⟨rfl, hx⟩ := hj
     have hj : j < 36 := by have := (List.getElem?_eq_some_iff.1 hx).1; omega
     refine ⟨S Q (.ro (lstI ys)) (.ro (lstI pk)) (.ro (.int j)) (.ro (pairD p)) .no .no .no, rfl, ?_⟩
     have pa : ∀ ρ : DEnv, eVar 7 ρ = some (lstI pk) -> eVar 8 ρ = some (.int (j : Int)) -> eBin ixM (eVar 7) (eVar 8) ρ = some (.int (at0 pk j)) := fun ρ e1 e2 => binE (x := lstI pk) (y := .int (j : Int)) e1 e2 (at_lst (by omega) (by omega))
     refine nx_seq (fun ρ => ∃ Q', Q'.length <= 2 * j + 1 /\ ρ = S Q' (.ro (lstI ys)) (.ro (lstI pk)) (.ro (.int j)) (.ro (pairD p)) .no .no .no) ?_ ?_
     ·refine nx_if (decide (0 < at0 pk j % 5)) (tvE (binE (x := .int (at0 pk j % 5)) (y := .int 0) (binE (y := .int 5) (pa _ rfl rfl) rfl (modM_int (by decide))) rfl gtM_int) rfl) (fun _ => ?_) (fun _ => nx_end ⟨Q, by omega, rfl⟩)
      have ql : 0 < (Q.length : Int) + 1 := by omega
      obtain ⟨M, lm, em⟩ := insP (i := 5) (ρ := S Q (.ro (lstI ys)) (.ro (lstI pk)) (.ro (.int j)) (.ro (pairD p)) .no .no .no) (l := Q) (k := at0 pk j / 5 % ((Q.length : Int) + 1)) (p := p) (fa := eBin modM (eBin divM (eBin ixM (eVar 7) (eVar 8)) (eC (.int 5))) (eBin addM (eCB lenM (aCons (eVar 5) aNil)) (eC (.int 1)))) (fb := eVar 9) rfl
       (binE (x := .int (at0 pk j / 5)) (y := .int ((Q.length : Int) + 1)) (binE (y := .int 5) (pa _ rfl rfl) rfl (divM_int (by decide) (by decide))) (binE (x := .int Q.length) (y := .int 1) (cb1E rfl (by rw [lenM_lst, List.length_map])) rfl addM_int) (modM_int ql)) rfl (Int.emod_nonneg _ (by omega)) (by have := Int.emod_lt_of_pos (at0 pk j / 5) ql; omega) (by omega)
      exact ⟨_, em, M, by omega, rfl⟩
     ·rintro _ ⟨Q', hQ', rfl⟩
      refine nx_if (decide (at0 pk j % 7 = 0)) (tvE (binE (x := .int (at0 pk j % 7)) (y := .int 0) (binE (y := .int 7) (pa _ rfl rfl) rfl (modM_int (by decide))) rfl eqM_int) rfl) (fun _ => ?_) (fun _ => nx_end ⟨Q', _, _, by omega, rfl⟩)
      refine ⟨_, sXE (xM1E (ρ1 := S Q' (.ro (lstI ys)) (.ro (lstI pk)) (.ro (.int j)) (.ro (pairD p)) .no .no .no) (ds0 := Q'.map pairD) (ds := Q'.map pairD) (d := pairD p) rfl rfl rfl (appM_ok (by rw [List.length_map]; omega))), Q' ++ [p], .ro (.int j), .ro (pairD p), by simp; omega, ?_⟩
      rw [show S (Q' ++ [p]) = fun v6 v7 v8 v9 v10 v11 v12 => [.ro (.scr ns), .ro (.int k), .ro (.int s), .ro (lstI hd), .ro (.int n), .ow (.lst ((Q' ++ [p]).map pairD)), v6, v7, v8, v9, v10, v11, v12] from rfl, List.map_append]
      rfl
    ·rintro ρ ⟨Q, v8, v9, hQ, rfl⟩
     refine ⟨Q, _, _, v8, v9, ?_, rfl⟩
     simp only [List.length_map, List.length_zipIdx] at hQ
     omega
  ·rintro _ ⟨Q, v6, v7, v8, v9, hQ, rfl⟩
   refine rt_seq (fun ρ => ∃ Q v10, Q.length <= 400 /\ ρ = S Q v6 v7 v8 v9 v10 .no .no) ?_ ?_
   ·refine nx_if (decide (at0 hd 19 % 6 = 1) && decide (1 < (Q.length : Int))) (tandE (eqt _ 19 6 1 (by decide) (by decide) (by decide) rfl) (fun h => by rw [h, Bool.true_and]; exact tvE (binE (x := .int Q.length) (y := .int 1) (cb1E rfl (by rw [lenM_lst, List.length_map])) rfl gtM_int) rfl) (fun h => by rw [h]; rfl)) (fun h => ?_) (fun _ => nx_end ⟨Q, _, by omega, rfl⟩)
    have h1 : 1 < (Q.length : Int) := by simp only [Bool.and_eq_true, decide_eq_true_eq] at h; exact h.2
    have j0 := Int.emod_nonneg (at0 hd 20) (show (Q.length : Int) ≠ 0 by omega)
    have j1 := Int.emod_lt_of_pos (at0 hd 20) (show 0 < (Q.length : Int) by omega)
    generalize hj : at0 hd 20 % (Q.length : Int) = j at j0 j1
    have jl : j.toNat < Q.length := by omega
    have ej : eBin modM (eBin ixM (eVar 3) (eC (.int 20))) (eCB lenM (aCons (eVar 5) aNil)) (vAll (S Q v6 v7 v8 v9 .no .no .no)) = some (.int j) := by
     rw [<- hj]
     exact binE (y := .int Q.length) (at' _ 20 rfl (by decide) (by decide)) (cb1E rfl (by rw [lenM_lst, List.length_map])) (modM_int (by omega))
    have epop : popM (Q.map pairD) (.int j) = some ((Q.eraseIdx j.toNat).map pairD, pairD Q[j.toNat]) := by
     show (if j.natAbs < 9223372036854775808 then _ else _) = _
     rw [if_pos (by omega), List.length_map, ixP_ok j0 j1, Option.bind_some, List.getElem?_map, List.getElem?_eq_getElem jl, erase_p]
     rfl
    refine nx_seqE (S (Q.eraseIdx j.toNat) v6 v7 v8 v9 (.ro (pairD Q[j.toNat])) .no .no) ?_ ?_
    ·have px : (xPure (eBin modM (eBin ixM (eVar 3) (eC (.int 20))) (eCB lenM (aCons (eVar 5) aNil)))) (S Q v6 v7 v8 v9 .no .no .no) = some (S Q v6 v7 v8 v9 .no .no .no, .int j) := by
      unfold xPure
      rw [ej]
      rfl
     have := xM1E (i := 5) (ρ1 := S Q v6 v7 v8 v9 .no .no .no) (ds0 := Q.map pairD) (ds := Q.map pairD) (d := .int j) rfl px rfl epop
     unfold sSetX
     rw [this]
     rfl
    ·generalize he : Q.eraseIdx j.toNat = E
     have el : E.length <= 80 := by rw [<- he, List.length_eraseIdx_of_lt jl]; omega
     generalize Q[j.toNat] = z
     let F : List (Int × Int) := (List.replicate 298 E).flatten.take 298 ++ [z]
     have fl : F.length <= 300 := by
      have := List.length_take_le 298 (List.replicate 298 E).flatten
      simp only [F, List.length_append, List.length_singleton]
      omega
     refine ⟨S F v6 v7 v8 v9 (.ro (pairD z)) .no .no, ?_, F, _, by omega, rfl⟩
     have e1 : eBin repLM (eVar 5) (eC (.int 298)) (vAll (S E v6 v7 v8 v9 (.ro (pairD z)) .no .no)) = some (.lst ((List.replicate 298 E).flatten.map pairD)) := by
      refine binE (x := .lst (E.map pairD)) (y := .int 298) rfl rfl ?_
      show (if _ /\ _ then _ else _) = _
      rw [if_pos ⟨by rw [List.length_map]; show E.length * 298 <= 16777216; omega, by decide⟩, List.map_flatten, List.map_replicate]
      rfl
     have e2 : slM (.lst ((List.replicate 298 E).flatten.map pairD)) none (some 298) = some (.lst (((List.replicate 298 E).flatten.take 298).map pairD)) := by
      show some (D.lst ((((List.replicate 298 E).flatten.map pairD).drop 0).take (min 298 ((List.replicate 298 E).flatten.map pairD).length - 0))) = _
      rw [List.drop_zero, Nat.sub_zero, List.map_take, Nat.min_def]
      split
      ·rfl
      ·rw [List.take_of_length_le (Nat.le_refl _), List.take_of_length_le (by omega)]
     have e3 : eBin catM (eSl (eBin repLM (eVar 5) (eC (.int 298))) oNo (oE (eC (.int 298)))) (eLst (aCons (eVar 10) aNil)) (vAll (S E v6 v7 v8 v9 (.ro (pairD z)) .no .no)) = some (.lst (F.map pairD)) := by
      refine binE (x := .lst (((List.replicate 298 E).flatten.take 298).map pairD)) (y := .lst [pairD z]) ?_ rfl ?_
      ·unfold eSl
       rw [e1]
       exact e2
      ·show (if _ then _ else _) = _
       rw [if_pos]
       ·show some (D.lst (((List.replicate 298 E).flatten.take 298).map pairD ++ [z].map pairD)) = _
        rw [<- List.map_append]
       ·show _ <= 16777216
        have := List.length_take_le 298 (List.replicate 298 E).flatten
        rw [List.length_map]
        simp only [List.length_singleton]
        omega
     unfold sOwnI
     rw [e3]
     show (if lstImm (.lst (F.map pairD)) = true then _ else _) = _
     rw [if_pos (show lstImm (.lst (F.map pairD)) = true from imms_pairs F)]
     rfl
   ·rintro _ ⟨Q, v10, hQ, rfl⟩
    refine rt_seq (fun ρ => ∃ Q v11 v12, Q.length <= 500 /\ ρ = S Q v6 v7 v8 v9 v10 v11 v12) ?_ ?_
    ·refine nx_if _ (eqt _ 21 6 1 (by decide) (by decide) (by decide) rfl) (fun _ => ?_) (fun _ => nx_end ⟨Q, _, _, by omega, rfl⟩)
     obtain ⟨v, _, ev, _⟩ := atP_ok (xs := [-1, (n : Int), (n : Int) + 7, -(n : Int) - 1, ((10 : Int) ^ 60) ^ 10 - 1]) (i := at0 hd 22 % 5) (Int.emod_nonneg _ (by decide)) (by have := Int.emod_lt_of_pos (at0 hd 22) (show (0 : Int) < 5 by decide); simpa using this)
     have most := most_ok (vRd (S Q v6 v7 v8 v9 v10 .no .no))
     refine nx_seqE (S Q v6 v7 v8 v9 v10 (.ro (.int v)) .no) (setE (.int v) (binE (x := lstI [-1, (n : Int), (n : Int) + 7, -(n : Int) - 1, ((10 : Int) ^ 60) ^ 10 - 1]) (y := .int (at0 hd 22 % 5)) ?_ (md _ 22 5 rfl (by decide) (by decide) (by decide)) (by unfold lstI; rw [ixM_lst, atP_map, ev]; rfl)) rfl) ?_
     ·unfold eLst aCons
      simp only [show eBin subM (eBin powGM (eBin powM (eC (.int 10)) (eC (.int 60))) (eC (.int 10))) (eC (.int 1)) (vRd (S Q v6 v7 v8 v9 v10 .no .no)) = some (.int (((10 : Int) ^ 60) ^ 10 - 1)) from binE most rfl subM_int]
      rfl
     ·obtain ⟨p, _, ep, _⟩ := atP_ok (xs := [(v, (0 : Int)), (0, v), (v, v)]) (i := at0 hd 23 % 3) (Int.emod_nonneg _ (by decide)) (by have := Int.emod_lt_of_pos (at0 hd 23) (show (0 : Int) < 3 by decide); simpa using this)
      refine nx_seqE (S Q v6 v7 v8 v9 v10 (.ro (.int v)) (.ro (pairD p))) (setE (pairD p) (binE (x := .lst ([(v, (0 : Int)), (0, v), (v, v)].map pairD)) (y := .int (at0 hd 23 % 3)) rfl (md _ 23 3 rfl (by decide) (by decide) (by decide)) (by rw [ixM_lst, atP_map, ep]; rfl)) rfl) ?_
      have ql : 0 < (Q.length : Int) + 1 := by omega
      obtain ⟨M, lm, em⟩ := insP (i := 5) (ρ := S Q v6 v7 v8 v9 v10 (.ro (.int v)) (.ro (pairD p))) (l := Q) (k := at0 hd 2 % ((Q.length : Int) + 1)) (p := p) (fa := eBin modM (eBin ixM (eVar 3) (eC (.int 2))) (eBin addM (eCB lenM (aCons (eVar 5) aNil)) (eC (.int 1)))) (fb := eVar 12) rfl
       (binE (y := .int ((Q.length : Int) + 1)) (at' _ 2 rfl (by decide) (by decide)) (binE (x := .int Q.length) (y := .int 1) (cb1E rfl (by rw [lenM_lst, List.length_map])) rfl addM_int) (modM_int ql)) rfl (Int.emod_nonneg _ (by omega)) (by have := Int.emod_lt_of_pos (at0 hd 2) ql; omega) (by omega)
      exact ⟨_, em, M, _, _, by omega, rfl⟩
    ·rintro _ ⟨Q, v11, v12, hQ, rfl⟩
     exact rt_ret _ (tup2 rfl (cb1E rfl tupleM_lst)) ⟨Q, by omega, rfl⟩
 unfold f_l_made
 obtain ⟨d, e, P, hP, rfl⟩ := R
 exact ⟨n, P, hn, hP, runE rfl e⟩
theorem law_true (ns : List Int) (hns : ns.length <= 63) : f_law [.scr ns] = .ok (.bl true) := by
 unfold f_law
 obtain ⟨n, P, hn, hP, e1⟩ := made_ok ns 0 100003
 obtain ⟨m, Q, hm, hQ, e2⟩ := made_ok ns 3 400009
 obtain ⟨d, pd, ea, ed⟩ := same_ans hn hP
 obtain ⟨f, pf, fa, fd⟩ := same_ans hm hQ
 exact runE rfl (seqE [Sv.ro (.scr ns), Sv.ro (.int n), Sv.ro (.tup (P.map pairD)), Sv.no, Sv.no, Sv.no] (asgE (call3E rfl rfl rfl e1)) (seqE [Sv.ro (.scr ns), Sv.ro (.int n), Sv.ro (.tup (P.map pairD)), Sv.ro (.int m), Sv.ro (.tup (Q.map pairD)), Sv.no] (asgE (call3E rfl rfl rfl e2)) (seqE _ (setE d (call2E rfl rfl ed) rfl) (seqE _ (ifF (torE (b := false) (tnE (tvE (call2E (call2E rfl rfl ea) rfl (same_refl 6 d pd)) rfl) rfl) (fun _ => tnE (tvE (call2E (call2E rfl rfl fa) (call2E rfl rfl fd) (same_refl 6 f pf)) rfl) rfl) (fun z => by cases z)) rfl) (retE (call2E (call2E rfl rfl ea) rfl (same_refl 6 d pd)))))))
end K02
end
section
-- CHANGE: your row's module here, as the last of these rows
namespace L2
open PySem PySem.Spec PyProof.Rows
abbrev Key := Sum Int Str
def keyIs : Key -> Value -> Bool
 | .inl k, v => Value.isInt k v
 | .inr x, v => Value.isStrOf x v
def keyH (w : World) : Key -> Int
 | .inl k => hashInt k
 | .inr x => hashStr w x
theorem keyIs_shape : ∀ {k : Key} {v : Value}, keyIs k v = true -> (∃ i t, k = Sum.inl i /\ v = Value.int i t) \/ (∃ x t, k = Sum.inr x /\ v = Value.str x t)
 | .inl i, v, h => by
  obtain ⟨t, e⟩ := Value.isInt_shape (k := i) (v := v) h
  exact .inl ⟨i, t, rfl, e⟩
 | .inr x, v, h => by
  obtain ⟨t, e⟩ := Value.isStrOf_shape (x := x) (v := v) h
  exact .inr ⟨x, t, rfl, e⟩
theorem keyIs_int (i : Int) (t : Tok) : keyIs (.inl i) (.int i t) = true := by simp [keyIs, Value.isInt]
theorem keyIs_str (x : Str) (t : Tok) : keyIs (.inr x) (.str x t) = true := by simp [keyIs, Value.isStrOf]
theorem key_ll (a b : Int) : decide ((Sum.inl a : Key) = Sum.inl b) = (a == b) := by
 by_cases e : a = b
 ·subst e; simp
 ·have h : ¬ (Sum.inl a : Key) = Sum.inl b := fun q => e (Sum.inl.inj q)
  rw [decide_eq_false h]
  exact (beq_eq_false_iff_ne.mpr e).symm
theorem key_rr (a b : Str) : decide ((Sum.inr a : Key) = Sum.inr b) = decide (a = b) := by
 by_cases e : a = b
 ·subst e; simp
 ·have h : ¬ (Sum.inr a : Key) = Sum.inr b := fun q => e (Sum.inr.inj q)
  rw [decide_eq_false h, decide_eq_false e]
theorem key_lr (a : Int) (b : Str) : decide ((Sum.inl a : Key) = Sum.inr b) = false := decide_eq_false (fun q => nomatch q)
theorem key_rl (a : Str) (b : Int) : decide ((Sum.inr a : Key) = Sum.inl b) = false := decide_eq_false (fun q => nomatch q)
def mixKind (prog : Program) (w : World) : PySem.KeyKind prog w Key where
 is := keyIs
 hash := keyH w
 inj := fun v a b ha hb => by
  rcases keyIs_shape ha with ⟨i, t, rfl, rfl⟩ | ⟨x, t, rfl, rfl⟩
  ·rcases keyIs_shape hb with ⟨j, u, rfl, e⟩ | ⟨y, u, rfl, e⟩
   ·injection e with e1 _; rw [e1]
   ·exact nomatch e
  ·rcases keyIs_shape hb with ⟨j, u, rfl, e⟩ | ⟨y, u, rfl, e⟩
   ·exact nomatch e
   ·injection e with e1 _; rw [e1]
 byValue := fun k v h => by
  rcases keyIs_shape h with ⟨i, t, rfl, rfl⟩ | ⟨x, t, rfl, rfl⟩ <;> rfl
 pyHash := fun hv h => by
  rcases keyIs_shape hv with ⟨i, t, rfl, rfl⟩ | ⟨x, t, rfl, rfl⟩
  ·exact wpAny_pyHash_int h
  ·exact wpAny_pyHash_str h
 eqBool := fun hu hv h => by
  rcases keyIs_shape hu with ⟨i, t, rfl, rfl⟩ | ⟨x, t, rfl, rfl⟩
  ·rcases keyIs_shape hv with ⟨j, u, rfl, rfl⟩ | ⟨y, u, rfl, rfl⟩
   ·rw [key_ll] at h; exact wpAny_eqBool_int h
   ·rw [key_lr] at h; exact SeqAt.EqAt.int_str i t y u _ _ _ _ h
  ·rcases keyIs_shape hv with ⟨j, u, rfl, rfl⟩ | ⟨y, u, rfl, rfl⟩
   ·rw [key_rl] at h; exact SeqAt.EqAt.str_int x t j u _ _ _ _ h
   ·rw [key_rr] at h; exact wpAny_eqBool_str h
 «strs» := fun k x t v h => by
  rcases keyIs_shape h with ⟨i, u, rfl, e⟩ | ⟨y, u, rfl, e⟩
  ·exact nomatch e
  ·injection e with e1 _
   subst e1
   cases v <;> rfl
theorem mixKind_int (prog : Program) (w : World) (i : Int) (t : Tok) : (mixKind prog w).is (.inl i) (.int i t) = true := keyIs_int i t
theorem mixKind_str (prog : Program) (w : World) (x : Str) (t : Tok) : (mixKind prog w).is (.inr x) (.str x t) = true := keyIs_str x t
end L2
namespace L2
open PySem PySem.Spec PyProof.Rows
inductive V where
 | non | bl (b : Bool) | int (i : Int) | str (x : Str) | byt (b : Array UInt8) | flt (b : UInt64) | ref (a : Addr) | ty (n : String)
 deriving DecidableEq
def RelV : V -> Value -> Prop
 | .non, u => u = Value.none
 | .bl b, u => u = Value.bool b
 | .int i, u => ∃ t, u = Value.int i t
 | .str x, u => ∃ t, u = Value.str x t
 | .byt b, u => ∃ t, u = Value.bytes b t
 | .flt b, u => ∃ t, u = Value.float b t
 | .ref a, u => u = Value.ref a
 | .ty n, u => u = Value.type n
abbrev Vals : List V -> List Value -> Prop := Paired RelV
theorem Vals.length {xs : List V} {us : List Value} (r : Vals xs us) : xs.length = us.length := Paired.length r
theorem Vals.get : ∀ {xs : List V} {us : List Value} {i : Nat} {x : V}, Vals xs us -> xs[i]? = some x -> ∃ u, us[i]? = some u /\ RelV x u
 | _, _, _, _, .nil, e => by simp at e
 | _, _, 0, _, .cons r _, e => by simp at e; subst e; exact ⟨_, rfl, r⟩
 | _, _, i + 1, x, .cons _ t, e => by
  obtain ⟨u, h1, h2⟩ := Vals.get (i := i) (x := x) t (by simpa using e)
  exact ⟨u, by simpa using h1, h2⟩
theorem Vals.append : ∀ {xs ys : List V} {us ws : List Value}, Vals xs us -> Vals ys ws -> Vals (xs ++ ys) (us ++ ws)
 | _, _, _, _, .nil, s => s
 | _, _, _, _, .cons r t, s => .cons r (Vals.append t s)
theorem Vals.take : ∀ {xs : List V} {us : List Value} (n : Nat), Vals xs us -> Vals (xs.take n) (us.take n)
 | _, _, 0, _ => .nil
 | _, _, _ + 1, .nil => .nil
 | _, _, n + 1, .cons r t => .cons r (Vals.take n t)
theorem Vals.drop : ∀ {xs : List V} {us : List Value} (n : Nat), Vals xs us -> Vals (xs.drop n) (us.drop n)
 | _, _, 0, r => r
 | _, _, _ + 1, .nil => .nil
 | _, _, n + 1, .cons _ t => Vals.drop n t
def RelO : Option V -> Option Value -> Prop
 | some v, some u => RelV v u
 | none, none => True
 | _, _ => False
def KV {κ : Type} : List (κ × V) -> List (κ × Value) -> Prop := Paired fun (p : κ × V) (q : κ × Value) => p.1 = q.1 /\ RelV p.2 q.2
def kV : Key -> V
 | .inl i => .int i
 | .inr x => .str x
inductive HO where
 | lst (xs : List V)
 | tup (xs : List V)
 | dK (kvs : List (Key × V)) | dT (kvs : List (List Key × V))
 | set (S : Int -> Bool) (n : Nat)
 | ins (C dx : Addr) (fs : List (Str × V))
 | own (x : Addr)
 | xd (fs : List (Str × V))
 | met (f x : Addr)
 | rng (lo hi : Int)
 | frz (o : Obj) (u : HO)
 | tbl (ps : Array Value)
 | ext (φ : Heap -> Prop)
abbrev Hp := Addr -> Option HO
def upd (H : Hp) (a : Addr) (o : HO) : Hp := fun b => if b = a then some o else H b
theorem upd_same {H : Hp} {a : Addr} {o : HO} : upd H a o a = some o := by unfold upd; rw [if_pos rfl]
theorem upd_ne {H : Hp} {a b : Addr} {o : HO} (h : b ≠ a) : upd H a o b = H b := by unfold upd; rw [if_neg h]
theorem ne_of {H : Hp} {a b : Addr} {o u : HO} (h : H a = some o) (h' : H b = some u) (d : o ≠ u) : a ≠ b := by
 intro e; subst e; rw [h] at h'; exact d (Option.some.inj h')
theorem ne_of_none {H : Hp} {a b : Addr} {o : HO} (h : H a = some o) (h' : H b = none) : a ≠ b := by
 intro e; subst e; rw [h] at h'; cases h'
section
variable (P : Program) (w : World)
def ObjOk (H : Hp) (h : Heap) (a : Addr) : HO -> Prop
 | .lst xs => xs.length <= sizeLine /\ ∃ (its : List Value) (n : Nat), Vals xs its /\ h.get? a = some { cls := .type "list", data := .seq its.toArray n }
 | .tup xs => xs.length <= sizeLine /\ ∃ its : List Value, Vals xs its /\ IsTup h a its.toArray
 | .dK kvs => kvs.length <= sizeLine /\ (a == sysModules) = false /\ ∃ vs, KV kvs vs /\ h.DictOf (mixKind P w) a vs
 | .dT kvs => kvs.length <= sizeLine /\ (a == sysModules) = false /\ ∃ xs : List (List Key × Addr × Value),
   Paired (fun (p : List Key × V) (q : List Key × Addr × Value) => p.1 = q.1 /\ H q.2.1 = some (.tup (p.1.map kV)) /\ RelV p.2 q.2.2) kvs xs /\
   ∃ o es ep, h.get? a = some o /\ o.ExactDict /\ o.data = .dict es ep /\ es.toList = xs.map (entryOfKey (tupleKind (mixKind P w))) /\ (xs.map (·.1)).Nodup
 | .set S n => h.SetOf (intKind P w) a S n
 | .ins C dx fs => H dx = some (.own a) /\ fs.length <= 1000 /\ dx ≠ a /\ h.get? a = some (PySem.W.instObj C dx) /\
   ∃ mA, h.Ns1 dx mA /\ (∀ f, RelO (fs.lookup f) (mA f)) /\ PySem.Within mA (fs.map (·.1))
 | .own _ => ∃ o, h.get? a = some o
 | .xd fs => ∃ mA, h.Ns1 a mA /\ ∀ f, RelO (fs.lookup f) (mA f)
 | .rng lo hi => ∃ t u v, h.get? a = some { cls := .type "range", data := .fields #[.int lo t, .int hi u, .int 1 v] }
 | .frz o u => h.get? a = some o /\ ObjOk H h a u
 | .tbl ps => h.get? a = some { cls := .none, data := .fields ps }
 | .met f x => h.get? a = some (PySem.W.methodObj (.ref f) (.ref x))
 | .ext φ => φ h /\ (∃ o, h.get? a = some o) /\ ∀ h1 h2 : Heap, φ h1 -> (∀ o, h1.get? a = some o -> h2.get? a = some o) -> φ h2
def HOk (H : Hp) (h : Heap) : Prop := ∀ a o, H a = some o -> ObjOk P w H h a o
end
section
variable {P : Program} {w : World} {H H' : Hp} {h h' : Heap} {a : Addr} {o : HO}
theorem ObjOk.lt (x : ObjOk P w H h a o) : a < h.objs.size := by
 cases o with
 | lst xs => obtain ⟨_, _, _, _, e⟩ := x; exact Heap.lt_size e
 | tup xs => obtain ⟨_, _, _, p⟩ := x; exact p.lt
 | dK kvs => obtain ⟨_, _, _, _, o, _, _, e, _⟩ := x; exact Heap.lt_size e
 | dT kvs => obtain ⟨_, _, _, _, o, _, _, e, _⟩ := x; exact Heap.lt_size e
 | set S n => obtain ⟨o, _, _, _, e, _⟩ := x; exact Heap.lt_size e
 | ins C dx fs => obtain ⟨_, _, _, e, _⟩ := x; exact Heap.lt_size e
 | own y => obtain ⟨_, e⟩ := x; exact Heap.lt_size e
 | xd fs => obtain ⟨_, ⟨_, _, _, e, _⟩, _⟩ := x; exact Heap.lt_size e
 | rng lo hi => obtain ⟨_, _, _, e⟩ := x; exact Heap.lt_size e
 | frz ob u => obtain ⟨e, _⟩ := x; exact Heap.lt_size e
 | tbl ps => exact Heap.lt_size (show h.get? a = some _ from x)
 | met f y => exact Heap.lt_size (show h.get? a = some _ from x)
 | ext φ => obtain ⟨_, ⟨_, e⟩, _⟩ := x; exact Heap.lt_size e
theorem Paired.mapP {α β : Type} {F G : α -> β -> Prop} : ∀ {l₁ : List α} {l₂ : List β}, Paired F l₁ l₂ -> (∀ a b, F a b -> G a b) -> Paired G l₁ l₂
 | _, _, .nil, _ => .nil
 | _, _, .cons r t, f => .cons (f _ _ r) (Paired.mapP t f)
theorem ObjOk.stay (x : ObjOk P w H h a o) (k : ∀ b u, (b = a \/ H b = some (.own a)) -> h.get? b = some u -> h'.get? b = some u)
  (ho : ∀ b, H b = some (.own a) -> H' b = some (.own a)) (ht : ∀ b xs, H b = some (.tup xs) -> H' b = some (.tup xs)) : ObjOk P w H' h' a o := by
 induction o with
 | lst xs => obtain ⟨z, its, n, r, e⟩ := x; exact ⟨z, its, n, r, k _ _ (.inl rfl) e⟩
 | tup xs => obtain ⟨z, its, r, ob, e, c⟩ := x; exact ⟨z, its, r, ob, k _ _ (.inl rfl) e, c⟩
 | dK kvs => obtain ⟨z, y, vs, r, ob, es, ep, e, c⟩ := x; exact ⟨z, y, vs, r, ob, es, ep, k _ _ (.inl rfl) e, c⟩
 | dT kvs =>
  obtain ⟨z, y, xs, r, ob, es, ep, e, c⟩ := x
  exact ⟨z, y, xs, Paired.mapP r fun p q z => ⟨z.1, ht _ _ z.2.1, z.2.2⟩, ob, es, ep, k _ _ (.inl rfl) e, c⟩
 | set S n => obtain ⟨ob, es, ep, t, e, c⟩ := x; exact ⟨ob, es, ep, t, k _ _ (.inl rfl) e, c⟩
 | ins C dx fs =>
  obtain ⟨d, z, ne, e, mA, ⟨od, es, ep, e2, c⟩, r⟩ := x
  exact ⟨ho _ d, z, ne, k _ _ (.inl rfl) e, mA, ⟨od, es, ep, k _ _ (.inr d) e2, c⟩, r⟩
 | own y => obtain ⟨ob, e⟩ := x; exact ⟨ob, k _ _ (.inl rfl) e⟩
 | xd fs => obtain ⟨mA, ⟨od, es, ep, e, c⟩, r⟩ := x; exact ⟨mA, ⟨od, es, ep, k _ _ (.inl rfl) e, c⟩, r⟩
 | rng lo hi => obtain ⟨t, u, v, e⟩ := x; exact ⟨t, u, v, k _ _ (.inl rfl) e⟩
 | frz ob u ih => obtain ⟨e, q⟩ := x; exact ⟨k _ _ (.inl rfl) e, ih q⟩
 | tbl ps =>
  have e : h.get? a = some { cls := .none, data := .fields ps } := x
  show h'.get? a = some { cls := .none, data := .fields ps }
  exact k a _ (.inl rfl) e
 | met f y =>
  have e : h.get? a = some (PySem.W.methodObj (.ref f) (.ref y)) := x
  show h'.get? a = some (PySem.W.methodObj (.ref f) (.ref y))
  exact k a _ (.inl rfl) e
 | ext φ => obtain ⟨p, ⟨o, e⟩, st⟩ := x; exact ⟨st _ _ p fun o q => k _ _ (.inl rfl) q, ⟨o, k _ _ (.inl rfl) e⟩, st⟩
theorem HOk.lt (x : HOk P w H h) (e : H a = some o) : a < h.objs.size := (x a o e).lt
theorem HOk.fresh (x : HOk P w H h) (e : h.objs.size <= a) : H a = none := by
 cases q : H a with
 | none => rfl
 | some u => exact absurd (Nat.lt_of_lt_of_le (x.lt q) e) (Nat.lt_irrefl _)
theorem HOk.kept (x : HOk P w H h) (k : ∀ b u, h.get? b = some u -> h'.get? b = some u) : HOk P w H h' := fun a o e =>
 (x a o e).stay (fun b u _ q => k b u q) (fun _ q => q) fun _ _ q => q
theorem HOk.laid (x : HOk P w H h) (k : ∀ b u, h.get? b = some u -> h'.get? b = some u) (hp : h.objs.size <= a) (new : ObjOk P w (upd H a o) h' a o) : HOk P w (upd H a o) h' := fun b u e => by
 have hn := x.fresh hp
 by_cases hb : b = a
 ·subst hb; rw [upd_same] at e; cases e; exact new
 ·rw [upd_ne hb] at e
  exact (x b u e).stay (fun c v _ q => k c v q) (fun c q => by rw [upd_ne (ne_of_none q hn)]; exact q) fun c xs q => by rw [upd_ne (ne_of_none q hn)]; exact q
end
def Rd (H : Hp) (a : Addr) (u : HO) : Prop := H a = some u \/ ∃ o, H a = some (.frz o u)
theorem Rd.ok {P : Program} {w : World} {H : Hp} {h : Heap} {a : Addr} {u : HO} (r : Rd H a u) (x : HOk P w H h) : ObjOk P w H h a u := by
 rcases r with r | ⟨o, r⟩
 ·exact x a u r
 ·obtain ⟨_, q⟩ := x a _ r
  exact q
def Mut : Option HO -> Prop
 | some (.lst _) => True
 | some (.dK _) => True
 | some (.dT _) => True
 | some (.set _ _) => True
 | some (.ins _ _ _) => True
 | some (.ext _) => True
 | _ => False
section
variable {P : Program} {w : World} {H : Hp} {h h' : Heap} {x e : Addr} {o' : HO}
theorem HOk.write (ok : HOk P w H h) (mu : Mut (H x)) (he : e = x \/ H e = some (.own x)) (k : ∀ b u, b ≠ e -> h.get? b = some u -> h'.get? b = some u) (heo : ∃ u, h'.get? e = some u)
  (new : ObjOk P w (upd H x o') h' x o') : HOk P w (upd H x o') h' := fun b u q => by
 have nown : ∀ c y, H c = some (.own y) -> c ≠ x := fun c y r z => by subst z; rw [r] at mu; exact mu
 have ntup : ∀ c xs, H c = some (.tup xs) -> c ≠ x := fun c xs r z => by subst z; rw [r] at mu; exact mu
 by_cases hb : b = x
 ·subst hb; rw [upd_same] at q; cases q; exact new
 ·rw [upd_ne hb] at q
  by_cases hbe : b = e
  ·have q' : H b = some (.own x) := by
    rcases he with z | z
    ·exact absurd (hbe.trans z) hb
    ·rw [hbe]; exact z
   rw [q] at q'; cases q'
   obtain ⟨v, hv⟩ := heo
   exact ⟨v, by rw [hbe]; exact hv⟩
  ·refine (ok b u q).stay (fun c v hc r => k c v ?_ r) (fun c r => by rw [upd_ne (nown c b r)]; exact r) fun c xs r => by rw [upd_ne (ntup c xs r)]; exact r
   rcases hc with rfl | hc
   ·exact hbe
   ·rintro rfl
    rcases he with z | z
    ·exact nown c b hc z
    ·rw [hc] at z; cases z; exact hb rfl
end
structure Un (fs ex : List Addr) (H H' : Hp) (h h' : Heap) : Prop where
 keep : ∀ b o, h.get? b = some o -> H b = none -> b ∉ fs -> b ∉ ex -> h'.get? b = some o
 slot : ∀ b o, h.get? b = some o -> H b = none -> b ∈ fs -> b ∉ ex -> ∃ sl, h'.get? b = some { o with slots := sl }
 free : ∀ b o, h.get? b = some o -> H b = none -> b ∉ ex -> H' b = none
 there : ∀ b o, h.get? b = some o -> b ∉ ex -> ∃ o', h'.get? b = some o'
 tups : ∀ b xs, H b = some (.tup xs) -> H' b = some (.tup xs)
 frzs : ∀ b o u, H b = some (.frz o u) -> H' b = some (.frz o u)
 tbls : ∀ b ps, H b = some (.tbl ps) -> ∃ more, H' b = some (.tbl (ps ++ more))
section
variable {fs fs' ex ex' : List Addr} {H H1 H2 : Hp} {h h1 h2 h' : Heap} {a x e : Addr} {o : HO}
theorem Un.any (u : Un fs ex H H1 h h1) {b : Addr} {ob : Obj} (q : h.get? b = some ob) (n : H b = none) (hx : b ∉ ex) : ∃ sl, h1.get? b = some { ob with slots := sl } := by
 by_cases hb : b ∈ fs
 ·exact u.slot b ob q n hb hx
 ·exact ⟨ob.slots, u.keep b ob q n hb hx⟩
theorem Un.trans (a : Un fs ex H H1 h h1) (b : Un fs ex H1 H2 h1 h2) : Un fs ex H H2 h h2 where
 keep := fun c ob q n hc hx => b.keep c ob (a.keep c ob q n hc hx) (a.free c ob q n hx) hc hx
 slot := fun c ob q n hc hx => by
  obtain ⟨sl, e1⟩ := a.slot c ob q n hc hx
  obtain ⟨sl', e2⟩ := b.slot c _ e1 (a.free c ob q n hx) hc hx
  exact ⟨sl', e2⟩
 free := fun c ob q n hx => by
  obtain ⟨o', e1⟩ := a.there c ob q hx
  exact b.free c o' e1 (a.free c ob q n hx) hx
 there := fun c ob q hx => by
  obtain ⟨o', e1⟩ := a.there c ob q hx
  exact b.there c o' e1 hx
 tups := fun c xs q => b.tups c xs (a.tups c xs q)
 frzs := fun c ob xs q => b.frzs c ob xs (a.frzs c ob xs q)
 tbls := fun c ps q => by
  obtain ⟨m1, e1⟩ := a.tbls c ps q
  obtain ⟨m2, e2⟩ := b.tbls c _ e1
  exact ⟨m1 ++ m2, by rw [e2, Array.append_assoc]⟩
theorem Un.kept (k : ∀ b u, h.get? b = some u -> h'.get? b = some u) : Un fs ex H H h h' :=
 ⟨fun b ob q _ _ _ => k b ob q, fun b ob q _ _ _ => ⟨ob.slots, k b ob q⟩, fun _ _ _ n _ => n, fun b ob q _ => ⟨ob, k b ob q⟩, fun _ _ q => q, fun _ _ _ q => q, fun _ ps q => ⟨#[], by rw [q]; simp⟩⟩
theorem Un.refl : Un fs ex H H h h := Un.kept fun _ _ q => q
theorem Un.laid (k : ∀ b u, h.get? b = some u -> h'.get? b = some u) (hp : h.objs.size <= a) (hn : H a = none) : Un fs ex H (upd H a o) h h' where
 keep := fun b u q _ _ _ => k b u q
 slot := fun b u q _ _ _ => ⟨u.slots, k b u q⟩
 free := fun b u q n _ => by rw [upd_ne (Nat.ne_of_lt (Nat.lt_of_lt_of_le (Heap.lt_size q) hp))]; exact n
 there := fun b u q _ => ⟨u, k b u q⟩
 tups := fun b xs q => by rw [upd_ne (ne_of_none q hn)]; exact q
 frzs := fun b u xs q => by rw [upd_ne (ne_of_none q hn)]; exact q
 tbls := fun b ps q => ⟨#[], by rw [upd_ne (ne_of_none q hn), q]; simp⟩
theorem Un.write (mu : Mut (H x)) (he : e = x \/ H e = some (.own x)) (k : ∀ b u, b ≠ e -> h.get? b = some u -> h'.get? b = some u) (heo : ∃ u, h'.get? e = some u) : Un fs ex H (upd H x o) h h' := by
 have hx : ∀ b, H b = none -> b ≠ x := fun b n z => by subst z; rw [n] at mu; exact mu
 have hb : ∀ b, H b = none -> b ≠ e := fun b n z => by
  subst z
  rcases he with r | r
  ·exact hx b n r
  ·rw [n] at r; cases r
 have hm : ∀ b u, H b = some u -> ¬ Mut (some u) -> b ≠ x := fun b u q nm z => by subst z; rw [q] at mu; exact nm mu
 refine ⟨fun b u q n _ _ => k b u (hb b n) q, fun b u q n _ _ => ⟨u.slots, k b u (hb b n) q⟩, fun b u q n _ => by rw [upd_ne (hx b n)]; exact n, fun b u q _ => ?_,
  fun b xs q => by rw [upd_ne (hm b _ q fun z => z)]; exact q, fun b u xs q => by rw [upd_ne (hm b _ q fun z => z)]; exact q, fun b ps q => ⟨#[], by rw [upd_ne (hm b _ q fun z => z), q]; simp⟩⟩
 by_cases hbe : b = e
 ·subst hbe; exact heo
 ·exact ⟨u, k b u hbe q⟩
end
def trk (h : Heap) (H : Hp) : List Addr := (List.range h.objs.size).filter fun a => (H a).isSome
def hidT (h : Heap) (H : Hp) : Heap := PySem.W.hideAll h (trk h H)
theorem hidT_size (h : Heap) (H : Hp) : (hidT h H).objs.size = h.objs.size := PySem.W.hideAll_size _ _
theorem hidT_get {h : Heap} {H : Hp} {b : Addr} {o : Obj} (e : h.get? b = some o) (n : H b = none) : (hidT h H).get? b = some o :=
 PySem.W.hideAll_get _ e fun hm => by
  have q : (H b).isSome = true := (List.mem_filter.mp hm).2
  rw [n] at q; simp at q
theorem of_hidT {h : Heap} {H : Hp} {b : Addr} {o : Obj} (e : (hidT h H).get? b = some o) : h.get? b = some o /\ H b = none := by
 have e' : h.get? b = some o := PySem.W.of_hideAll (trk h H) e
 refine ⟨e', ?_⟩
 cases q : H b with
 | none => rfl
 | some x =>
  have hm : b ∈ trk h H := List.mem_filter.mpr ⟨List.mem_range.mpr (Heap.lt_size e'), by simp [q]⟩
  have z : (hidT h H).get? b = none := PySem.W.hideAll_none (trk h H) hm
  rw [z] at e; cases e
end L2
namespace L2
open PySem PySem.Spec PyProof.Rows
structure Mod (K : PySem.W.Frag) (mg : Str -> Option Value) (base : Heap) : Prop where
 kin : K.In base
 glob : base.Ns mainGlobals mg
 blt : ∃ mb, base.Ns builtinsNs mb /\ ∀ x : Str, x ≠ "__name__" -> mb x = bootBuiltins x
 nolimit : base.NoLimit
structure Cx where
 prog : Program
 w : World
 K : PySem.W.Frag
 mg : Str -> Option Value
 base : Heap
 A : Around
 N : List Str
 s₀ : Shared
 H₀ : Hp
 env : Env
 outer : List Env
 stack : List Env
 ex : List Addr
 fn : Str -> Bool
 calm : Bool
 pn : List (Addr × Obj)
 xe : Value -> Shared -> Prop
def frs (l : List Env) : List Addr := l.filterMap (·.frame)
abbrev Cx.fs (X : Cx) : List Addr := frs X.outer
def Vis (sc : Scope) (x : Str) : Prop := sc.names.lookup x = some .local \/ sc.names.lookup x = some .cell \/ sc.names.lookup x = some .free
def Loc (sc : Scope) (x : Str) : Prop := sc.names.lookup x = some .local \/ sc.names.lookup x = some .cell
def Look (env : Env) (h : Heap) (m : Str -> Option Value) (x : Str) (u : Value) : Prop :=
 (env.kindOf x = some .local /\ m x = some u) \/ ((env.kindOf x = some .cell \/ env.kindOf x = some .free) /\ ∃ c, env.cells.lookup x = some c /\ h.IsCell c (some u))
structure Cx.Ok (X : Cx) : Prop where
 mod : Mod X.K X.mg X.base
 kind : X.env.scope.kind = .function
 glob : X.env.globals = mainGlobals
 blt : X.env.builtins = builtinsNs
 above : X.s₀.heap.objs.size <= X.env.locals
 inj : ∀ x y c, X.env.cells.lookup x = some c -> X.env.cells.lookup y = some c -> x = y
 has : ∀ x, (X.env.kindOf x = some .cell \/ X.env.kindOf x = some .free) -> ∃ c, X.env.cells.lookup x = some c
 cab : ∀ x c, X.fn x = true -> X.env.cells.lookup x = some c -> X.s₀.heap.objs.size <= c
 hd : X.calm = true -> X.A.handled = none
 frames : X.A.frames = some X.stack
 stk : X.stack = X.outer \/ (X.stack = X.env :: X.outer /\ X.env.frame = some X.env.locals)
 exf : ∀ b ∈ X.ex, b ≠ X.env.locals /\ ∀ x c, X.env.cells.lookup x = some c -> c ≠ b
 bs : ∀ b o, X.base.get? b = some o -> X.s₀.heap.get? b = some o /\ X.H₀ b = none
 bsz : X.base.objs.size <= X.s₀.heap.objs.size
 noex : ∀ b o, X.base.get? b = some o -> b ∉ X.ex
 exfs : ∀ b ∈ X.ex, b ∉ X.fs
 funs : X.s₀.heap.FunFrames X.base X.outer
 frf : ∀ b ∈ X.fs, X.H₀ b = none
structure Inv (X : Cx) (pins : List (Addr × Obj)) (σ : List (Option V)) (H : Hp) (s : Shared) : Prop where
 ok : X.Ok
 os : s.os = X.s₀.os
 bare : AllBare s.gens
 base : Un X.fs X.ex X.H₀ H X.s₀.heap s.heap
 loc : ∃ m, s.heap.Ns X.env.locals m /\ ∀ (i : Nat) (x : Str) (v : V), X.N[i]? = some x -> σ[i]? = some (some v) -> Vis X.env.scope x -> ∃ u, RelV v u /\ Look X.env s.heap m x u
 cell : ∀ x c, X.env.cells.lookup x = some c -> ∃ v, s.heap.IsCell c v
 free : H X.env.locals = none
 freeC : ∀ x c, X.env.cells.lookup x = some c -> H c = none
 pin : ∀ p ∈ X.pn ++ pins, s.heap.get? p.1 = some p.2 /\ H p.1 = none /\ p.1 ≠ X.env.locals /\ p.1 ∉ X.fs /\ ∀ v, p.2.data ≠ .cell v
 hok : HOk X.prog X.w H s.heap
 len : σ.length = X.N.length
section
variable {X : Cx} {pins : List (Addr × Obj)} {σ : List (Option V)} {H H' : Hp} {s : Shared} {h' : Heap}
theorem Cx.Ok.nofr (ok : X.Ok) {b : Addr} {o : Obj} (e : X.base.get? b = some o) : b ∉ X.fs := fun hb => by
 have := (ok.funs.mem hb).1
 rw [e] at this; cases this
theorem Inv.bs (I : Inv X pins σ H s) : ∀ b o, X.base.get? b = some o -> s.heap.get? b = some o /\ H b = none := fun b o e =>
 ⟨I.base.keep b o (I.ok.bs b o e).1 (I.ok.bs b o e).2 (I.ok.nofr e) (I.ok.noex b o e), I.base.free b o (I.ok.bs b o e).1 (I.ok.bs b o e).2 (I.ok.noex b o e)⟩
theorem Inv.bk (I : Inv X pins σ H s) : ∀ b o, X.base.get? b = some o -> s.heap.get? b = some o := fun b o e => (I.bs b o e).1
theorem Inv.mod (I : Inv X pins σ H s) : Mod X.K X.mg X.base := I.ok.mod
theorem Inv.kIn (I : Inv X pins σ H s) : X.K.In s.heap := I.ok.mod.kin.keeps I.bk
theorem Inv.fr (I : Inv X pins σ H s) : ∃ m, Fr X.base X.env.locals s.heap m :=
 let ⟨m, hn, _⟩ := I.loc
 ⟨m, hn, I.bk, Nat.le_trans I.ok.bsz I.ok.above⟩
theorem Inv.lt (I : Inv X pins σ H s) : X.env.locals < s.heap.objs.size := let ⟨_, hn, _⟩ := I.loc; hn.lt
theorem Inv.sz (I : Inv X pins σ H s) : X.s₀.heap.objs.size <= s.heap.objs.size := Nat.le_trans I.ok.above (Nat.le_of_lt I.lt)
theorem Inv.nofs (I : Inv X pins σ H s) {a : Addr} (h : s.heap.objs.size <= a) : a ∉ X.fs := fun hb => by
 obtain ⟨_, o, ho, _⟩ := I.ok.funs.mem hb
 exact absurd (Nat.lt_of_lt_of_le (Heap.lt_size ho) (Nat.le_trans I.sz h)) (Nat.lt_irrefl _)
theorem Inv.cne (I : Inv X pins σ H s) : ∀ x c, X.env.cells.lookup x = some c -> c ≠ X.env.locals := fun x c e z => by
 obtain ⟨v, o, ho, hd⟩ := I.cell x c e
 obtain ⟨m, ⟨o', es, ep, ho', hd', _⟩, _⟩ := I.loc
 rw [z, ho'] at ho; cases ho; rw [hd'] at hd; cases hd
theorem Inv.funs (I : Inv X pins σ H s) : s.heap.FunFrames X.base X.outer := by
 have all : ∀ (l : List Env), (∀ b ∈ frs l, b ∈ X.fs) -> X.s₀.heap.FunFrames X.base l -> s.heap.FunFrames X.base l := by
  intro l
  induction l with
  | nil => intro _ _; trivial
  | cons env r ih =>
   intro hs hl
   obtain ⟨hk, ⟨L, o, hf, hn, ho, hd⟩, hr⟩ := hl
   have hL : L ∈ X.fs := hs L (by unfold frs; rw [List.filterMap_cons, hf]; exact List.mem_cons_self)
   obtain ⟨sl, e⟩ := I.base.slot L o ho (I.ok.frf L hL) hL fun z => I.ok.exfs L z hL
   exact ⟨hk, ⟨L, _, hf, hn, e, hd⟩, ih (fun b hb => hs b (by unfold frs; rw [List.filterMap_cons, hf]; exact List.mem_cons_of_mem _ hb)) hr⟩
 exact all X.outer (fun _ hb => hb) I.ok.funs
theorem Inv.stack (I : Inv X pins σ H s) : s.heap.FunFrames X.base X.stack := by
 rcases I.ok.stk with e | ⟨e, hf⟩
 ·rw [e]; exact I.funs
 ·rw [e]
  obtain ⟨m, hn, _⟩ := I.loc
  refine .cons (by rw [I.ok.kind]; decide) hf hn ?_ I.funs
  exact Heap.get?_none_of_le (Nat.le_trans I.ok.bsz I.ok.above)
theorem Inv.stkSub (I : Inv X pins σ H s) : ∀ b ∈ frs X.stack, b ∈ X.env.locals :: X.fs := fun b hb => by
 rcases I.ok.stk with e | ⟨e, hf⟩
 ·rw [e] at hb; exact List.mem_cons_of_mem _ hb
 ·rw [e] at hb
  unfold frs at hb
  rw [List.filterMap_cons, hf] at hb
  exact hb
theorem Inv.stkFree (I : Inv X pins σ H s) : ∀ b ∈ frs X.stack, H b = none := fun b hb => by
 rcases List.mem_cons.mp (I.stkSub b hb) with e | hb
 ·rw [e]; exact I.free
 ·obtain ⟨_, o, ho, _⟩ := I.ok.funs.mem hb
  exact I.base.free b o ho (I.ok.frf b hb) fun z => I.ok.exfs b z hb
theorem Inv.step {g' : Array GenState} {t' : Nat} {d' : Drawn} {ch : List Addr} (I : Inv X pins σ H s)
  (hch : ∀ b ∈ ch, (b ∈ X.ex \/ X.s₀.heap.objs.size <= b) /\ b ≠ X.env.locals /\ (∀ x c, X.env.cells.lookup x = some c -> c ≠ b) /\ ∀ p ∈ X.pn ++ pins, p.1 ≠ b)
  (keep : ∀ b o, b ≠ X.env.locals -> b ∉ X.fs -> b ∉ ch -> s.heap.get? b = some o -> H b = none -> h'.get? b = some o)
  (slot : ∀ b o, b ≠ X.env.locals -> b ∈ X.fs -> b ∉ ch -> s.heap.get? b = some o -> H b = none -> ∃ sl, h'.get? b = some { o with slots := sl }) (free : ∀ b o, b ∉ ch -> s.heap.get? b = some o -> H b = none -> H' b = none)
  (there : ∀ b o, b ∉ ch -> s.heap.get? b = some o -> ∃ o', h'.get? b = some o')
  (tups : ∀ b xs, H b = some (.tup xs) -> H' b = some (.tup xs)) (frzs : ∀ b o u, H b = some (.frz o u) -> H' b = some (.frz o u)) (tbls : ∀ b ps, H b = some (.tbl ps) -> ∃ more, H' b = some (.tbl (ps ++ more)))
  (ns : ∀ m, s.heap.Ns X.env.locals m -> h'.Ns X.env.locals m) (hok : HOk X.prog X.w H' h') (hg : AllBare g') :
  Inv X pins σ H' { s with heap := h', gens := g', drawn := d', toks := t' } := by
 have neL : ∀ b o, X.s₀.heap.get? b = some o -> b ≠ X.env.locals := fun b o e => Nat.ne_of_lt (Nat.lt_of_lt_of_le (Heap.lt_size e) I.ok.above)
 have neC : ∀ b o, X.s₀.heap.get? b = some o -> b ∉ X.ex -> b ∉ ch := fun b o e hx hb => by
  rcases (hch b hb).1 with z | z
  ·exact hx z
  ·exact absurd (Nat.lt_of_lt_of_le (Heap.lt_size e) z) (Nat.lt_irrefl _)
 have cellK : ∀ x c, X.env.cells.lookup x = some c -> ∀ v, s.heap.IsCell c v -> h'.IsCell c v := fun x c e v hq0 => by
  obtain ⟨o, ho, hd⟩ := hq0
  have nch : c ∉ ch := fun z => (hch c z).2.2.1 x c e rfl
  by_cases hc : c ∈ X.fs
  ·obtain ⟨sl, q⟩ := slot c o (I.cne x c e) hc nch ho (I.freeC x c e)
   exact ⟨_, q, hd⟩
  ·exact ⟨o, keep c o (I.cne x c e) hc nch ho (I.freeC x c e), hd⟩
 refine ⟨I.ok, I.os, hg, ⟨fun b o e n hb hx => ?_, fun b o e n hb hx => ?_, fun b o e n hx => ?_, fun b o e hx => ?_, fun b xs e => tups b xs (I.base.tups b xs e), fun b o xs e => frzs b o xs (I.base.frzs b o xs e), fun b ps e => ?_⟩, ?_, fun x c e => ?_, ?_, fun x c e => ?_, fun p hp => ?_, hok, I.len⟩
 ·exact keep b o (neL b o e) hb (neC b o e hx) (I.base.keep b o e n hb hx) (I.base.free b o e n hx)
 ·obtain ⟨sl, e1⟩ := I.base.slot b o e n hb hx
  obtain ⟨sl', e2⟩ := slot b _ (neL b o e) hb (neC b o e hx) e1 (I.base.free b o e n hx)
  exact ⟨sl', e2⟩
 ·obtain ⟨o', e1⟩ := I.base.there b o e hx
  exact free b o' (neC b o e hx) e1 (I.base.free b o e n hx)
 ·obtain ⟨o', e1⟩ := I.base.there b o e hx
  exact there b o' (neC b o e hx) e1
 ·obtain ⟨m1, e1⟩ := I.base.tbls b ps e
  obtain ⟨m2, e2⟩ := tbls b _ e1
  exact ⟨m1 ++ m2, by rw [e2, Array.append_assoc]⟩
 ·obtain ⟨m, hn, hl⟩ := I.loc
  refine ⟨m, ns m hn, fun i x v e1 e2 e3 => ?_⟩
  obtain ⟨u, r, l⟩ := hl i x v e1 e2 e3
  refine ⟨u, r, ?_⟩
  rcases l with l | ⟨k, c, e, z⟩
  ·exact .inl l
  ·exact .inr ⟨k, c, e, cellK x c e _ z⟩
 ·obtain ⟨v, z⟩ := I.cell x c e
  exact ⟨v, cellK x c e v z⟩
 ·obtain ⟨m, ⟨o, _, _, ho, _⟩, _⟩ := I.loc
  exact free _ o (fun z => (hch _ z).2.1 rfl) ho I.free
 ·obtain ⟨v, o, ho, hd⟩ := I.cell x c e
  exact free c o (fun z => (hch c z).2.2.1 x c e rfl) ho (I.freeC x c e)
 ·obtain ⟨e, n, ne, nf, d⟩ := I.pin p hp
  have nch : p.1 ∉ ch := fun z => (hch p.1 z).2.2.2 p hp rfl
  exact ⟨keep p.1 p.2 ne nf nch e n, free p.1 p.2 nch e n, ne, nf, d⟩
theorem Inv.un {t' : Nat} (I : Inv X pins σ H s) (u : Un X.fs [] H H' s.heap h') (hok : HOk X.prog X.w H' h') : Inv X pins σ H' { s with heap := h', toks := t' } := by
 obtain ⟨m, ⟨o, es, ep, ho, r⟩, _⟩ := id I.loc
 obtain ⟨sl, hL⟩ := u.any ho I.free (by simp)
 exact I.step (g' := s.gens) (d' := s.drawn) (ch := []) (fun _ z => nomatch z) (fun b o _ hb _ e n => u.keep b o e n hb (by simp)) (fun b o _ hb _ e n => u.slot b o e n hb (by simp)) (fun b o _ e n => u.free b o e n (by simp)) (fun b o _ e => u.there b o e (by simp)) u.tups u.frzs u.tbls (fun m' hm => by
  obtain ⟨o', es', ep', ho', r'⟩ := hm
  rw [ho] at ho'; cases ho'
  exact ⟨_, es', ep', hL, r'⟩) hok I.bare
theorem Inv.call {g' : Array GenState} {t' : Nat} {d' : Drawn} {ch : List Addr} (I : Inv X pins σ H s) (u : Un (frs X.stack) ch H H' s.heap h') (hok : HOk X.prog X.w H' h') (hg : AllBare g')
  (hch : ∀ b ∈ ch, (b ∈ X.ex \/ X.s₀.heap.objs.size <= b) /\ b ≠ X.env.locals /\ (∀ x c, X.env.cells.lookup x = some c -> c ≠ b) /\ ∀ p ∈ X.pn ++ pins, p.1 ≠ b) :
  Inv X pins σ H' { s with heap := h', gens := g', drawn := d', toks := t' } := by
 obtain ⟨m, ⟨o, es, ep, ho, r⟩, _⟩ := id I.loc
 obtain ⟨sl, hL⟩ := u.any ho I.free fun z => (hch _ z).2.1 rfl
 exact I.step (ch := ch) hch (fun b o hL hb hc e n => u.keep b o e n (fun z => (List.mem_cons.mp (I.stkSub b z)).elim hL hb) hc) (fun b o _ _ hc e n => u.any e n hc) (fun b o hc e n => u.free b o e n hc) (fun b o hc e => u.there b o e hc) u.tups u.frzs u.tbls (fun m' hm => by
  obtain ⟨o', es', ep', ho', r'⟩ := hm
  rw [ho] at ho'; cases ho'
  exact ⟨_, es', ep', hL, r'⟩) hok hg
theorem Inv.turned {t' : Nat} {it : Addr} (I : Inv X pins σ H s) (k : ∀ b o, b ≠ it -> s.heap.get? b = some o -> h'.get? b = some o) (hn : H it = none) (hL : it ≠ X.env.locals)
  (h1 : it ∈ X.ex \/ X.s₀.heap.objs.size <= it) (h2 : ∀ x c, X.env.cells.lookup x = some c -> c ≠ it) (h3 : ∀ p ∈ X.pn ++ pins, p.1 ≠ it) : Inv X pins σ H { s with heap := h', toks := t' } := by
 have nit : ∀ b u, H b = some u -> b ≠ it := fun b u e z => by rw [z, hn] at e; cases e
 refine I.step (g' := s.gens) (d' := s.drawn) (ch := [it]) (fun b hb => ?_) (fun b o _ _ hc e _ => k b o (fun z => hc (by simp [z])) e) (fun b o _ _ hc e _ => ⟨o.slots, k b o (fun z => hc (by simp [z])) e⟩) (fun _ _ _ _ n => n)
  (fun b o hc e => ⟨o, k b o (fun z => hc (by simp [z])) e⟩) (fun _ _ e => e) (fun _ _ _ e => e) (fun b ps e => ⟨#[], by rw [e]; simp⟩) (fun m hm => ?_) (fun b u e => ?_) I.bare
 ·have e : b = it := by simpa using hb
  subst e
  exact ⟨h1, hL, h2, h3⟩
 ·obtain ⟨o, es, ep, ho, r⟩ := hm
  exact ⟨o, es, ep, k _ o (Ne.symm hL) ho, r⟩
 ·refine (I.hok b u e).stay (fun c v hc q => k c v ?_ q) (fun _ q => q) fun _ _ q => q
  rcases hc with z | z
  ·rw [z]; exact nit b u e
  ·exact nit c _ z
theorem Inv.tok (I : Inv X pins σ H s) (t : Nat) : Inv X pins σ H { s with toks := t } := I.un (h' := s.heap) (t' := t) Un.refl I.hok
theorem Inv.kept {t' : Nat} (I : Inv X pins σ H s) (k : ∀ b u, s.heap.get? b = some u -> h'.get? b = some u) : Inv X pins σ H { s with heap := h', toks := t' } := I.un (Un.kept k) (I.hok.kept k)
theorem Inv.laid {a : Addr} {o : HO} {t' : Nat} (I : Inv X pins σ H s) (k : ∀ b u, s.heap.get? b = some u -> h'.get? b = some u) (hp : s.heap.objs.size <= a) (new : ObjOk X.prog X.w (upd H a o) h' a o) :
  Inv X pins σ (upd H a o) { s with heap := h', toks := t' } := I.un (Un.laid k hp (I.hok.fresh hp)) (I.hok.laid k hp new)
theorem Inv.write {x e : Addr} {o : HO} {t' : Nat} (I : Inv X pins σ H s) (mu : Mut (H x)) (he : e = x \/ H e = some (.own x)) (k : ∀ b u, b ≠ e -> s.heap.get? b = some u -> h'.get? b = some u) (heo : ∃ u, h'.get? e = some u)
  (new : ObjOk X.prog X.w (upd H x o) h' x o) : Inv X pins σ (upd H x o) { s with heap := h', toks := t' } := I.un (Un.write mu he k heo) (I.hok.write mu he k heo new)
theorem Inv.weak {σ' : List (Option V)} (I : Inv X pins σ H s) (hl : σ'.length = σ.length) (w : ∀ (i : Nat) v, σ'[i]? = some (some v) -> σ[i]? = some (some v)) : Inv X pins σ' H s :=
 ⟨I.ok, I.os, I.bare, I.base, let ⟨m, hn, hl'⟩ := I.loc; ⟨m, hn, fun i x v e1 e2 e3 => hl' i x v e1 (w i v e2) e3⟩, I.cell, I.free, I.freeC, I.pin, I.hok, hl.trans I.len⟩
theorem Inv.pins_of {pins' : List (Addr × Obj)} (I : Inv X pins σ H s) (h : ∀ p ∈ pins', s.heap.get? p.1 = some p.2 /\ H p.1 = none /\ p.1 ≠ X.env.locals /\ p.1 ∉ X.fs /\ ∀ v, p.2.data ≠ .cell v) : Inv X pins' σ H s :=
 ⟨I.ok, I.os, I.bare, I.base, I.loc, I.cell, I.free, I.freeC, fun p hp => (List.mem_append.mp hp).elim (fun z => I.pin p (List.mem_append_left _ z)) (h p), I.hok, I.len⟩
theorem nodup_ix {N : List Str} (hN : N.Nodup) {i j : Nat} {x : Str} (a : N[i]? = some x) (b : N[j]? = some x) : i = j := by
 obtain ⟨h1, e1⟩ := List.getElem?_eq_some_iff.mp a
 obtain ⟨h2, e2⟩ := List.getElem?_eq_some_iff.mp b
 exact (List.getElem_inj hN).mp (e1.trans e2.symm)
theorem store_ok2 {M : Model} {A : Around} {E : Value -> Shared -> Prop} {i : Nat} {x : Str} {v : V} {u : Value} {Q : Unit -> Shared -> Prop} (I : Inv X pins σ H s) (hN : X.N.Nodup) (hi : X.N[i]? = some x) (hx : Loc X.env.scope x) (r : RelV v u)
  (h : ∀ s', Inv X pins (σ.set i (some v)) H s' -> (∃ a, Heap.SameBut a s.heap s'.heap /\ (a = X.env.locals \/ X.env.cells.lookup x = some a)) -> Q () s') (hf : X.fn x = true \/ X.env.scope.names.lookup x = some .local := by first | exact .inl rfl | exact .inr rfl | assumption) : wpAny M A (storeName X.env x u) Q E s := by
 obtain ⟨m, hn, hl⟩ := id I.loc
 have hcls : (X.env.scope.kind == .class || (X.env.scope.kind == .module && X.env.locals != X.env.globals)) = false := by rw [I.ok.kind]; rfl
 have hiσ : i < σ.length := by rw [I.len]; exact (List.getElem?_eq_some_iff.mp hi).1
 have cne := I.cne
 have tracked : ∀ {a : Addr} {h' : Heap}, (∃ o, s.heap.get? a = some o /\ H a = none) -> Heap.SameBut a s.heap h' -> HOk X.prog X.w H h' := fun {a h'} ha hs b ob e => by
  obtain ⟨_, _, hfree⟩ := ha
  refine (I.hok b ob e).stay (fun c w' hc q => (hs.2 c ?_).trans q) (fun _ q => q) fun _ _ q => q
  rintro rfl
  rcases hc with rfl | hc
  ·rw [hfree] at e; cases e
  ·rw [hfree] at hc; cases hc
 rcases hx with hk | hk
 ·refine wpAny_storeName_local hk hn (fun h' hn' hs => ?_) hcls
  obtain ⟨oL, _, _, hoL, _⟩ := id hn
  refine h _ ⟨I.ok, I.os, I.bare, ⟨fun b o e n hb hx => ?_, fun b o e n hb hx => ?_, I.base.free, fun b o e hx => ?_, I.base.tups, I.base.frzs, I.base.tbls⟩, ⟨_, hn', fun j y v' e1 e2 e3 => ?_⟩, fun y c e => ?_, I.free, I.freeC, fun p hp => ?_, tracked ⟨oL, hoL, I.free⟩ hs, by simpa using I.len⟩ ⟨_, hs, .inl rfl⟩
  ·exact (hs.2 b (Nat.ne_of_lt (Nat.lt_of_lt_of_le (Heap.lt_size e) I.ok.above))).trans (I.base.keep b o e n hb hx)
  ·obtain ⟨sl, e1⟩ := I.base.slot b o e n hb hx
   exact ⟨sl, (hs.2 b (Nat.ne_of_lt (Nat.lt_of_lt_of_le (Heap.lt_size e) I.ok.above))).trans e1⟩
  ·obtain ⟨o', e1⟩ := I.base.there b o e hx
   exact ⟨o', (hs.2 b (Nat.ne_of_lt (Nat.lt_of_lt_of_le (Heap.lt_size e) I.ok.above))).trans e1⟩
  ·by_cases hj : j = i
   ·subst hj
    rw [hi] at e1; cases e1
    rw [List.getElem?_set_self hiσ] at e2
    cases e2
    exact ⟨u, r, .inl ⟨hk, by simp⟩⟩
   ·rw [List.getElem?_set_ne (Ne.symm hj)] at e2
    obtain ⟨u', r', q⟩ := hl j y v' e1 e2 e3
    refine ⟨u', r', ?_⟩
    rcases q with ⟨k, e⟩ | ⟨k, c, e, z⟩
    ·refine .inl ⟨k, ?_⟩
     have : y ≠ x := fun e => hj (nodup_ix hN e1 (e ▸ hi))
     simp [this, e]
    ·exact .inr ⟨k, c, e, z.sameBut hs (cne y c e)⟩
  ·obtain ⟨w', z⟩ := I.cell y c e
   exact ⟨w', z.sameBut hs (cne y c e)⟩
  ·obtain ⟨e, n, ne, nf, d⟩ := I.pin p hp
   exact ⟨(hs.2 p.1 ne).trans e, n, ne, nf, d⟩
 ·have hfn : X.fn x = true := by
   rcases hf with z | z
   ·exact z
   ·rw [z] at hk; cases hk
  obtain ⟨c, hc⟩ := I.ok.has x (.inl hk)
  obtain ⟨w', z⟩ := I.cell x c hc
  refine wpAny_storeName_cell I.ok.kind hk hc z (fun h' hc' hs => ?_)
  obtain ⟨oc, hoc, hocd⟩ := id z
  refine h { s with heap := h' } ⟨I.ok, I.os, I.bare, ⟨fun b o e n hb hx => ?_, fun b o e n hb hx => ?_, I.base.free, fun b o e hx => ?_, I.base.tups, I.base.frzs, I.base.tbls⟩, ⟨m, hn.sameBut hs (Ne.symm (cne x c hc)), fun j y v' e1 e2 e3 => ?_⟩, fun y c' e => ?_, I.free, I.freeC, fun p hp => ?_, tracked ⟨oc, hoc, I.freeC x c hc⟩ hs, by simpa using I.len⟩ ⟨c, hs, .inr hc⟩
  ·exact (hs.2 b (Nat.ne_of_lt (Nat.lt_of_lt_of_le (Heap.lt_size e) (I.ok.cab x c hfn hc)))).trans (I.base.keep b o e n hb hx)
  ·obtain ⟨sl, e1⟩ := I.base.slot b o e n hb hx
   exact ⟨sl, (hs.2 b (Nat.ne_of_lt (Nat.lt_of_lt_of_le (Heap.lt_size e) (I.ok.cab x c hfn hc)))).trans e1⟩
  ·obtain ⟨o', e1⟩ := I.base.there b o e hx
   exact ⟨o', (hs.2 b (Nat.ne_of_lt (Nat.lt_of_lt_of_le (Heap.lt_size e) (I.ok.cab x c hfn hc)))).trans e1⟩
  ·by_cases hj : j = i
   ·subst hj
    rw [hi] at e1; cases e1
    rw [List.getElem?_set_self hiσ] at e2
    cases e2
    exact ⟨u, r, .inr ⟨.inl hk, c, hc, hc'⟩⟩
   ·rw [List.getElem?_set_ne (Ne.symm hj)] at e2
    obtain ⟨u', r', q⟩ := hl j y v' e1 e2 e3
    refine ⟨u', r', ?_⟩
    rcases q with q | ⟨k, c', e, z'⟩
    ·exact .inl q
    ·refine .inr ⟨k, c', e, z'.sameBut hs ?_⟩
     rintro rfl
     exact hj (nodup_ix hN e1 (I.ok.inj _ _ _ e hc ▸ hi))
  ·by_cases hcc : c' = c
   ·subst hcc; exact ⟨_, hc'⟩
   ·obtain ⟨w2, z2⟩ := I.cell y c' e
    exact ⟨w2, z2.sameBut hs hcc⟩
  ·obtain ⟨e, n, ne, nf, d⟩ := I.pin p hp
   refine ⟨(hs.2 p.1 ?_).trans e, n, ne, nf, d⟩
   intro q
   rw [q, hoc] at e
   have q' : oc = p.2 := Option.some.inj e
   exact d w' (by rw [<- q']; exact hocd)
theorem store_ok {M : Model} {A : Around} {E : Value -> Shared -> Prop} {i : Nat} {x : Str} {v : V} {u : Value} {Q : Unit -> Shared -> Prop} (I : Inv X pins σ H s) (hN : X.N.Nodup) (hi : X.N[i]? = some x) (hx : Loc X.env.scope x) (r : RelV v u)
  (h : ∀ s', Inv X pins (σ.set i (some v)) H s' -> Q () s') (hf : X.fn x = true \/ X.env.scope.names.lookup x = some .local := by first | exact .inl rfl | exact .inr rfl | assumption) : wpAny M A (storeName X.env x u) Q E s :=
 store_ok2 I hN hi hx r (fun s' I' _ => h s' I') hf
theorem Inv.call' {s' : Shared} {ch : List Addr} (I : Inv X pins σ H s) (ho : s'.os = s.os) (u : Un (frs X.stack) ch H H' s.heap s'.heap) (hok : HOk X.prog X.w H' s'.heap) (hg : AllBare s'.gens)
  (hch : ∀ b ∈ ch, (b ∈ X.ex \/ X.s₀.heap.objs.size <= b) /\ b ≠ X.env.locals /\ (∀ x c, X.env.cells.lookup x = some c -> c ≠ b) /\ ∀ p ∈ X.pn ++ pins, p.1 ≠ b) : Inv X pins σ H' s' := by
 obtain ⟨h', g', d', t', o'⟩ := s'
 have e : o' = s.os := ho
 subst e
 exact I.call (g' := g') (t' := t') (d' := d') u hok hg hch
end
abbrev XK := Value -> Option Addr -> Hp -> Prop
abbrev St := List (Option V)
abbrev VK := V -> Hp -> Prop
abbrev TE := St -> Hp -> VK -> Prop
abbrev TT := St -> Hp -> (Bool -> Hp -> Prop) -> Prop
abbrev TA := St -> Hp -> (List V -> Hp -> Prop) -> Prop
structure Ends where
 nx : St -> Hp -> Prop
 rt : VK
 bk : St -> Hp -> Prop := fun _ _ => False
 ct : St -> Hp -> Prop := fun _ _ => False
abbrev TS := Ends -> St -> Hp -> Prop
def EP (X : Cx) (pins : List (Addr × Obj)) (σ : St) (Q : VK) (u : Value) (s' : Shared) : Prop := ∃ v H', Inv X pins σ H' s' /\ RelV v u /\ Q v H'
def TP (X : Cx) (pins : List (Addr × Obj)) (σ : St) (Q : Bool -> Hp -> Prop) (b : Bool) (s' : Shared) : Prop := ∃ H', Inv X pins σ H' s' /\ Q b H'
def AP (X : Cx) (pins : List (Addr × Obj)) (σ : St) (Q : List V -> Hp -> Prop) (us : List Value) (s' : Shared) : Prop := ∃ vs H', Inv X pins σ H' s' /\ Vals vs us /\ Q vs H'
def SP (X : Cx) (pins : List (Addr × Obj)) (D : Ends) (f : Flow) (s' : Shared) : Prop :=
 match f with
 | .next => ∃ σ' H', Inv X pins σ' H' s' /\ D.nx σ' H'
 | .brk => ∃ σ' H', Inv X pins σ' H' s' /\ D.bk σ' H'
 | .cont => ∃ σ' H', Inv X pins σ' H' s' /\ D.ct σ' H'
 | .ret u => ∃ v σ' H', Inv X pins σ' H' s' /\ RelV v u /\ D.rt v H'
def PE (X : Cx) (e : Expr) (t : TE) : Prop :=
 ∀ (pins : List (Addr × Obj)) (s : Shared) (σ : St) (H : Hp) (Q : VK), Inv X pins σ H s -> t σ H Q -> wpAny (model X.prog X.w) X.A (eval e X.env) (EP X pins σ Q) X.xe s
def PT (X : Cx) (e : Expr) (t : TT) : Prop :=
 ∀ (pins : List (Addr × Obj)) (s : Shared) (σ : St) (H : Hp) (Q : Bool -> Hp -> Prop), Inv X pins σ H s -> t σ H Q -> wpAny (model X.prog X.w) X.A (isTrue e X.env (eval e X.env)) (TP X pins σ Q) X.xe s
def PW (X : Cx) (e : Expr) (t : TT) : Prop :=
 ∀ (whole : Sem Value) (pins : List (Addr × Obj)) (s : Shared) (σ : St) (H : Hp) (Q : Bool -> Hp -> Prop), Inv X pins σ H s -> t σ H Q -> wpAny (model X.prog X.w) X.A (isTrue e X.env whole) (TP X pins σ Q) X.xe s
theorem PW.pt {X : Cx} {e : Expr} {t : TT} (h : PW X e t) : PT X e t := h _
def PA (X : Cx) (es : List Expr) (t : TA) : Prop :=
 ∀ (pos : Pos) (pins : List (Addr × Obj)) (s : Shared) (σ : St) (H : Hp) (Q : List V -> Hp -> Prop), Inv X pins σ H s -> t σ H Q -> wpAny (model X.prog X.w) X.A (spliced (backTo pos (starEach es X.env))) (AP X pins σ Q) X.xe s
def PS (X : Cx) (st : Stmt) (t : TS) : Prop :=
 ∀ (pins : List (Addr × Obj)) (s : Shared) (σ : St) (H : Hp) (D : Ends), Inv X pins σ H s -> t D σ H -> wpAny (model X.prog X.w) X.A (exec st X.env) (SP X pins D) X.xe s
def PSs (X : Cx) (st : List Stmt) (t : TS) : Prop :=
 ∀ (pins : List (Addr × Obj)) (s : Shared) (σ : St) (H : Hp) (D : Ends), Inv X pins σ H s -> t D σ H -> wpAny (model X.prog X.w) X.A (execs st X.env) (SP X pins D) X.xe s
theorem thn {α : Type} {t : Sem α} {Q Q' : α -> Shared -> Prop} {M : Model} {A : Around} {E : Value -> Shared -> Prop} {s : Shared} (h : wpAny M A t Q E s) (hQ : ∀ a s, Q a s -> Q' a s) : wpAny M A t Q' E s := wpAny_mono h hQ fun _ _ x => x
end L2
namespace L2
open PySem PySem.Spec PyProof.Rows
section
variable {X : Cx}
def tVar (i : Nat) : TE := fun σ H Q => ∃ v, σ[i]? = some (some v) /\ Q v H
def tC (v : V) : TE := fun _ H Q => Q v H
theorem pe_var {i : Nat} {x : Str} {pos : Pos} (hN : X.N[i]? = some x) (hv : Vis X.env.scope x) (hd : (x == ("__debug__" : Str)) = false := by decide) (hcd : (x == ("__classdict__" : Str)) = false := by decide) : PE X (.Name x pos) (tVar i) := by
 intro pins s σ H Q I h
 obtain ⟨v, e, h⟩ := h
 obtain ⟨m, hn, hl⟩ := I.loc
 obtain ⟨u, r, l⟩ := hl i x v hN e hv
 have fin : EP X pins σ Q u s := ⟨v, H, I, r, h⟩
 rcases l with ⟨hk, hm⟩ | ⟨hk, c, hc, hcell⟩
 ·exact wpAny_Name (wpAny_loadName_local I.ok.kind hk hn hm fin) hd
 ·rcases hk with hk | hk
  ·exact wpAny_Name (wpAny_loadName_cell I.ok.kind hk hc hcell fin) hd
  ·exact wpAny_Name (wpAny_loadName_free I.ok.kind hk hc hcell fin hcd) hd
theorem pe_int {i j pos} : PE X (.Constant (.int i) j pos) (tC (.int i)) := fun _ _ _ H _ I h => wpAny_Constant_int ⟨.int i, H, I.tok _, ⟨_, rfl⟩, h⟩
theorem pe_bl {b j pos} : PE X (.Constant (.bool b) j pos) (tC (.bl b)) := fun _ _ _ H _ I h => Constant_bool ⟨.bl b, H, I, rfl, h⟩
theorem pe_non {j pos} : PE X (.Constant .none j pos) (tC .non) := fun _ _ _ H _ I h => Constant_none ⟨.non, H, I, rfl, h⟩
theorem pe_str {x j pos} : PE X (.Constant (.str x) j pos) (tC (.str x)) := fun _ _ _ H _ I h => Calls.Constant_str ⟨.str x, H, I.tok _, ⟨_, rfl⟩, h⟩
def Gl (X : Cx) (x : Str) : Prop := X.env.kindOf x = some .globalImplicit
theorem ld_glob {E : Value -> Shared -> Prop} {pins : List (Addr × Obj)} {s : Shared} {σ : St} {H : Hp} {x : Str} {u : Value} {pos : Pos} {Q : Value -> Shared -> Prop} (I : Inv X pins σ H s) (hg : Gl X x) (hm : X.mg x = some u) (h : Q u s)
  (hd : (x == ("__debug__" : Str)) = false := by decide) : wpAny (model X.prog X.w) X.A (eval (.Name x pos) X.env) Q E s :=
 Calls.Name_function_global I.ok.kind hg (Calls.loadGlobal_global (by rw [I.ok.glob]; exact I.mod.glob.keeps I.bk) hm h) hd
theorem ld_blt {E : Value -> Shared -> Prop} {pins : List (Addr × Obj)} {s : Shared} {σ : St} {H : Hp} {x : Str} {u : Value} {pos : Pos} {Q : Value -> Shared -> Prop} (I : Inv X pins σ H s) (hg : Gl X x) (hm : X.mg x = none) (hv : bootBuiltins x = some u) (h : Q u s)
  (hn : x ≠ "__name__" := by decide) (hd : (x == ("__debug__" : Str)) = false := by decide) : wpAny (model X.prog X.w) X.A (eval (.Name x pos) X.env) Q E s := by
 obtain ⟨mb, h1, h2⟩ := I.mod.blt
 exact Calls.Name_function_global I.ok.kind hg (Calls.loadGlobal_builtin (by rw [I.ok.glob]; exact I.mod.glob.keeps I.bk) hm (by rw [I.ok.blt]; exact h1.keeps I.bk) ((h2 x hn).trans hv) h) hd
theorem pe_glob {x : Str} {v : V} {u : Value} {pos : Pos} (hg : Gl X x) (hm : X.mg x = some u) (r : RelV v u) (hd : (x == ("__debug__" : Str)) = false := by decide) : PE X (.Name x pos) (tC v) :=
 fun _ _ _ H _ I h => ld_glob I hg hm ⟨v, H, I, r, h⟩ hd
theorem pe_bltn {x : Str} {v : V} {u : Value} {pos : Pos} (hg : Gl X x) (hm : X.mg x = none) (hv : bootBuiltins x = some u) (r : RelV v u) (hn : x ≠ "__name__" := by decide) (hd : (x == ("__debug__" : Str)) = false := by decide) : PE X (.Name x pos) (tC v) :=
 fun _ _ _ H _ I h => ld_blt I hg hm hv ⟨v, H, I, r, h⟩ hn hd
variable {a b : Expr} {ta tb : TE} {pos : Pos}
variable {tA tB' : TT} {rest : List Expr}
def tAnd (t u : TT) : TT := fun σ H Q => t σ H fun c H1 => if c = true then u σ H1 Q else Q false H1
def tOr (t u : TT) : TT := fun σ H Q => t σ H fun c H1 => if c = true then Q true H1 else u σ H1 Q
def tNot (t : TT) : TT := fun σ H Q => t σ H fun c H1 => Q (!c) H1
theorem pw_and1 (ha : PT X a tA) : PW X (.BoolOp .And [a] pos) tA := by
 intro wh pins s σ H Q I h
 refine isTrue_and (thn (ha pins s σ H Q I h) fun c s1 e => ?_)
 cases c with
 | true => exact isTrue_and_nil e
 | false => exact e
theorem pw_or1 (ha : PT X a tA) : PW X (.BoolOp .Or [a] pos) tA := by
 intro wh pins s σ H Q I h
 refine isTrue_or (thn (ha pins s σ H Q I h) fun c s1 e => ?_)
 cases c with
 | false => exact isTrue_or_nil e
 | true => exact e
theorem pw_and (ha : PT X a tA) (hb : PW X (.BoolOp .And (b :: rest) pos) tB') : PW X (.BoolOp .And (a :: b :: rest) pos) (tAnd tA tB') := by
 intro wh pins s σ H Q I h
 refine isTrue_and (thn (ha pins s σ H _ I h) fun c s1 ⟨H1, I1, q1⟩ => ?_)
 cases c with
 | true => exact hb wh pins s1 σ H1 Q I1 q1
 | false => exact ⟨H1, I1, q1⟩
theorem pw_or (ha : PT X a tA) (hb : PW X (.BoolOp .Or (b :: rest) pos) tB') : PW X (.BoolOp .Or (a :: b :: rest) pos) (tOr tA tB') := by
 intro wh pins s σ H Q I h
 refine isTrue_or (thn (ha pins s σ H _ I h) fun c s1 ⟨H1, I1, q1⟩ => ?_)
 cases c with
 | true => exact ⟨H1, I1, q1⟩
 | false => exact hb wh pins s1 σ H1 Q I1 q1
theorem pt_not (ha : PT X a tA) : PT X (.UnaryOp .Not a pos) (tNot tA) := by
 intro pins s σ H Q I h
 exact isTrue_not (ha pins s σ H (fun c H1 => Q (!c) H1) I h)
def tAndV (ta tb : TE) : TE := fun σ H Q => ta σ H fun x H1 => ∃ c, x = .bl c /\ if c = true then tb σ H1 Q else Q (.bl false) H1
def tOrV (ta tb : TE) : TE := fun σ H Q => ta σ H fun x H1 => ∃ c, x = .bl c /\ if c = true then Q (.bl true) H1 else tb σ H1 Q
def tNotV (ta : TE) : TE := fun σ H Q => ta σ H fun x H1 => ∃ c, x = .bl c /\ Q (.bl (!c)) H1
theorem pe_one {op} {t : TE} (h : PE X a t) : PE X (.BoolOp op [a] pos) t := fun pins s σ H Q I hw => BoolOp_one (h pins s σ H Q I hw)
theorem pe_and (ha : PE X a ta) (hb : PE X (.BoolOp .And (b :: rest) pos) tb) : PE X (.BoolOp .And (a :: b :: rest) pos) (tAndV ta tb) := by
 intro pins s σ H Q I h
 refine BoolOp_and (thn (ha pins s σ H _ I h) fun v s1 ⟨x, H1, I1, r1, q1⟩ => ?_)
 obtain ⟨c, rfl, q1⟩ := q1
 cases r1
 refine wpAny_truthy_bool ?_
 cases c with
 | true => exact hb pins s1 σ H1 Q I1 q1
 | false => exact ⟨.bl false, H1, I1, rfl, q1⟩
theorem pe_or (ha : PE X a ta) (hb : PE X (.BoolOp .Or (b :: rest) pos) tb) : PE X (.BoolOp .Or (a :: b :: rest) pos) (tOrV ta tb) := by
 intro pins s σ H Q I h
 refine BoolOp_or (thn (ha pins s σ H _ I h) fun v s1 ⟨x, H1, I1, r1, q1⟩ => ?_)
 obtain ⟨c, rfl, q1⟩ := q1
 cases r1
 refine wpAny_truthy_bool ?_
 cases c with
 | false => exact hb pins s1 σ H1 Q I1 q1
 | true => exact ⟨.bl true, H1, I1, rfl, q1⟩
theorem pe_not (ha : PE X a ta) : PE X (.UnaryOp .Not a pos) (tNotV ta) := by
 intro pins s σ H Q I h
 refine UnaryOp_ (thn (ha pins s σ H _ I h) fun v s1 ⟨x, H1, I1, r1, q1⟩ => ?_)
 obtain ⟨c, rfl, q1⟩ := q1
 cases r1
 exact not_of (wpAny_truthy_bool ⟨.bl (!c), H1, I1, rfl, q1⟩)
def tIf (t : TT) (ta tb : TE) : TE := fun σ H Q => t σ H fun c H1 => if c = true then ta σ H1 Q else tb σ H1 Q
theorem pe_ifExp {c : Expr} (hc : PT X c tA) (ha : PE X a ta) (hb : PE X b tb) : PE X (.IfExp c a b pos) (tIf tA ta tb) := by
 intro pins s σ H Q I h
 refine wpAny_IfExp (thn (hc pins s σ H _ I h) fun d s1 ⟨H1, I1, q1⟩ => ?_)
 cases d with
 | true => exact ha pins s1 σ H1 Q I1 q1
 | false => exact hb pins s1 σ H1 Q I1 q1
end
end L2
namespace L2
open PySem PySem.Spec PyProof.Rows
def SqL (K : PySem.W.Frag) (H : Hp) (a : Addr) (xs : List V) : Prop :=
 Rd H a (.lst xs) \/
  ∃ (o : Obj) (its : Array Value) (n : Nat), K.lookup a = some o /\ o.cls = .type "list" /\ o.dict = none /\ o.data = .seq its n /\ its.size <= sizeLine /\ Vals xs its.toList
def SqT (K : PySem.W.Frag) (H : Hp) (a : Addr) (xs : List V) : Prop :=
 Rd H a (.tup xs) \/
  ∃ (o : Obj) (its : Array Value) (n : Nat), K.lookup a = some o /\ o.cls = .type "tuple" /\ o.data = .seq its n /\ its.size <= sizeLine /\ Vals xs its.toList
def absV : Value -> Option V
 | .none => some .non
 | .bool b => some (.bl b)
 | .int i _ => some (.int i)
 | .str x _ => some (.str x)
 | .bytes b _ => some (.byt b)
 | .float b _ => some (.flt b)
 | .ref a => some (.ref a)
 | .type n => some (.ty n)
 | _ => none
theorem RelV.abs {x : V} {u : Value} (r : RelV x u) : absV u = some x := by
 cases x with
 | non => cases r; rfl
 | bl _ => cases r; rfl
 | int _ => obtain ⟨t, rfl⟩ := r; rfl
 | str _ => obtain ⟨t, rfl⟩ := r; rfl
 | byt _ => obtain ⟨t, rfl⟩ := r; rfl
 | flt _ => obtain ⟨t, rfl⟩ := r; rfl
 | ref _ => cases r; rfl
 | ty _ => cases r; rfl
theorem RelV.inj {x y : V} {u : Value} (r : RelV x u) (q : RelV y u) : x = y := Option.some.inj (r.abs.symm.trans q.abs)
theorem Vals.inj : ∀ {xs ys : List V} {us : List Value}, Vals xs us -> Vals ys us -> xs = ys
 | _, _, _, .nil, .nil => rfl
 | _, _, _, .cons r t, .cons r' t' => by rw [r.inj r', Vals.inj t t']
section
variable {X : Cx} {pins : List (Addr × Obj)} {σ : St} {H : Hp} {s : Shared} {a : Addr} {xs ys : List V}
theorem SqL.of {K : PySem.W.Frag} (h : H a = some (.lst xs)) : SqL K H a xs := .inl (.inl h)
theorem Inv.list (I : Inv X pins σ H s) (h : SqL X.K H a xs) : ∃ its : List Value, Vals xs its /\ PlainL s.heap a its.toArray /\ xs.length <= sizeLine := by
 rcases h with h | ⟨o, its, n, hk, hc, hd, hs, hz, r⟩
 ·obtain ⟨z, its, n, r, e⟩ := h.ok I.hok
  exact ⟨its, r, ⟨_, n, e, rfl, rfl, rfl⟩, z⟩
 ·refine ⟨its.toList, r, ⟨o, n, I.kIn a o hk, hc, hd, by simpa using hs⟩, ?_⟩
  have e := r.length
  simp only [Array.length_toList] at e
  omega
theorem Inv.tuple (I : Inv X pins σ H s) (h : SqT X.K H a xs) : ∃ its : List Value, Vals xs its /\ IsTup s.heap a its.toArray /\ xs.length <= sizeLine := by
 rcases h with h | ⟨o, its, n, hk, hc, hs, hz, r⟩
 ·obtain ⟨z, its, r, p⟩ := h.ok I.hok
  exact ⟨its, r, p, z⟩
 ·refine ⟨its.toList, r, ⟨o, I.kIn a o hk, hc, n, by simpa using hs⟩, ?_⟩
  have e := r.length
  simp only [Array.length_toList] at e
  omega
theorem Inv.list_inj (I : Inv X pins σ H s) (h : SqL X.K H a xs) (h' : SqL X.K H a ys) : xs = ys := by
 obtain ⟨its, r, ⟨o, n, e, _, _, d⟩, _⟩ := I.list h
 obtain ⟨its', r', ⟨o', n', e', _, _, d'⟩, _⟩ := I.list h'
 rw [e] at e'; cases e'
 rw [d] at d'
 injection d' with d1 _
 have : its = its' := by simpa using congrArg Array.toList d1
 subst this
 exact r.inj r'
theorem Inv.tuple_inj (I : Inv X pins σ H s) (h : SqT X.K H a xs) (h' : SqT X.K H a ys) : xs = ys := by
 obtain ⟨its, r, ⟨o, e, _, n, d⟩, _⟩ := I.tuple h
 obtain ⟨its', r', ⟨o', e', _, n', d'⟩, _⟩ := I.tuple h'
 rw [e] at e'; cases e'
 rw [d] at d'
 injection d' with d1 _
 have : its = its' := by simpa using congrArg Array.toList d1
 subst this
 exact r.inj r'
end
abbrev Cx.wish (X : Cx) (E : Value -> Shared -> Prop) : Cx := { X with xe := E }
abbrev Cx.nox (X : Cx) : Cx := X.wish fun _ _ => False
theorem Cx.Ok.wish {X : Cx} (ok : X.Ok) (E : Value -> Shared -> Prop) : (X.wish E).Ok :=
 ⟨ok.mod, ok.kind, ok.glob, ok.blt, ok.above, ok.inj, ok.has, ok.cab, ok.hd, ok.frames, ok.stk, ok.exf, ok.bs, ok.bsz, ok.noex, ok.exfs, ok.funs, ok.frf⟩
theorem Cx.Ok.unwish {X : Cx} {E : Value -> Shared -> Prop} (ok : (X.wish E).Ok) : X.Ok :=
 ⟨ok.mod, ok.kind, ok.glob, ok.blt, ok.above, ok.inj, ok.has, ok.cab, ok.hd, ok.frames, ok.stk, ok.exf, ok.bs, ok.bsz, ok.noex, ok.exfs, ok.funs, ok.frf⟩
section
variable {X : Cx} {pins : List (Addr × Obj)} {σ : St} {H : Hp} {s : Shared} {E : Value -> Shared -> Prop}
theorem Inv.wish (I : Inv X pins σ H s) (E : Value -> Shared -> Prop) : Inv (X.wish E) pins σ H s := ⟨I.ok.wish E, I.os, I.bare, I.base, I.loc, I.cell, I.free, I.freeC, I.pin, I.hok, I.len⟩
theorem Inv.unwish (I : Inv (X.wish E) pins σ H s) : Inv X pins σ H s := ⟨I.ok.unwish, I.os, I.bare, I.base, I.loc, I.cell, I.free, I.freeC, I.pin, I.hok, I.len⟩
theorem SP.unwish {D : Ends} {f : Flow} {s' : Shared} (h : SP (X.wish E) pins D f s') : SP X pins D f s' := by
 cases f with
 | next => obtain ⟨σ', H', I, q⟩ := h; exact ⟨σ', H', I.unwish, q⟩
 | brk => obtain ⟨σ', H', I, q⟩ := h; exact ⟨σ', H', I.unwish, q⟩
 | cont => obtain ⟨σ', H', I, q⟩ := h; exact ⟨σ', H', I.unwish, q⟩
 | ret u => obtain ⟨v, σ', H', I, r, q⟩ := h; exact ⟨v, σ', H', I.unwish, r, q⟩
theorem PSs.nox {st : List Stmt} {t : TS} (h : PSs X.nox st t) : PSs X st t := fun pins s σ H D I hw =>
 wpAny_mono (h pins s σ H D (I.wish _) hw) (fun _ _ q => q.unwish) fun _ _ z => False.elim z
end
section
variable {X : Cx} {st : Stmt} {rest : List Stmt} {t u : TS} {e : Expr} {te : TE} {pos : Pos}
def tNext : TS := fun D σ H => D.nx σ H
def tSeq (t u : TS) : TS := fun D σ H => t { D with nx := u D } σ H
theorem pss_nil : PSs X [] tNext := fun _ _ σ H _ I h => wpAny_execs_nil ⟨σ, H, I, h⟩
theorem pss_cons (h1 : PS X st t) (h2 : PSs X rest u) : PSs X (st :: rest) (tSeq t u) := by
 intro pins s σ H D I h
 refine wpAny_execs_cons (thn (h1 pins s σ H { D with nx := u D } I h) fun f s1 q => ?_)
 cases f with
 | next =>
  obtain ⟨σ', H', I', q⟩ := q
  exact h2 pins s1 σ' H' D I' q
 | ret v => exact q
 | brk => exact q
 | cont => exact q
theorem pss_one (h1 : PS X st t) : PSs X [st] t := by
 intro pins s σ H D I h
 refine wpAny_execs_cons (thn (h1 pins s σ H D I h) fun f s1 q => ?_)
 cases f with
 | next => exact wpAny_execs_nil q
 | ret v => exact q
 | brk => exact q
 | cont => exact q
theorem Inv.quiet {pins : List (Addr × Obj)} {σ : St} {H : Hp} {s : Shared} (I : Inv X pins σ H s) : interactive X.env = false := by simp [interactive, I.ok.kind]
def tDrop (te : TE) : TS := fun D σ H => te σ H fun _ H1 => D.nx σ H1
theorem ps_expr (he : PE X e te) (hs : swapsWith e none pos.line X.env = pure false := by rfl) : PS X (.Expr e pos) (tDrop te) := by
 intro pins s σ H D I h
 exact wpAny_Expr_any (thn (he pins s σ H _ I h) fun v s1 ⟨x, H1, I1, r1, q1⟩ => ⟨σ, H1, I1, q1⟩) I.quiet hs
def tRet (te : TE) : TS := fun D σ H => te σ H D.rt
theorem ps_ret (he : PE X e te) : PS X (.Return (some e) pos) (tRet te) := by
 intro pins s σ H D I h
 exact wpAny_Return_some (thn (he pins s σ H _ I h) fun v s1 ⟨x, H1, I1, r1, q1⟩ => ⟨x, σ, H1, I1, r1, q1⟩)
def tIfS (c : TT) (t u : TS) : TS := fun D σ H => c σ H fun b H1 => if b = true then t D σ H1 else u D σ H1
theorem ps_if {c : Expr} {a b : List Stmt} {tc : TT} (hc : PT X c tc) (ha : PSs X a t) (hb : PSs X b u) : PS X (.If c a b pos) (tIfS tc t u) := by
 intro pins s σ H D I h
 refine wpAny_If (thn (hc pins s σ H _ I h) fun d s1 ⟨H1, I1, q1⟩ => ?_)
 cases d with
 | true => exact ha pins s1 σ H1 D I1 q1
 | false => exact hb pins s1 σ H1 D I1 q1
end
abbrev TG := V -> St -> Hp -> (St -> Hp -> Prop) -> Prop
abbrev TGs := List V -> St -> Hp -> (St -> Hp -> Prop) -> Prop
def PG (X : Cx) (target : Expr) (t : TG) : Prop :=
 ∀ (pins : List (Addr × Obj)) (s : Shared) (σ : St) (H : Hp) (v : V) (u : Value) (Q : St -> Hp -> Prop), Inv X pins σ H s -> RelV v u -> t v σ H Q ->
  wpAny (model X.prog X.w) X.A (assign target X.env u) (fun _ s' => ∃ σ' H', Inv X pins σ' H' s' /\ Q σ' H') X.xe s
def PGs (X : Cx) (ts : List Expr) (t : TGs) : Prop :=
 ∀ (pins : List (Addr × Obj)) (s : Shared) (σ : St) (H : Hp) (vs : List V) (us : List Value) (Q : St -> Hp -> Prop), Inv X pins σ H s -> Vals vs us -> t vs σ H Q ->
  wpAny (model X.prog X.w) X.A (assignInOrder ((assignEach ts X.env).map (·.2)) us) (fun _ s' => ∃ σ' H', Inv X pins σ' H' s' /\ Q σ' H') X.xe s
section
variable {X : Cx} {pos : Pos}
def gName (i : Nat) : TG := fun v σ H Q => Q (σ.set i (some v)) H
theorem pg_name {i : Nat} {x : Str} (hN : X.N.Nodup) (hi : X.N[i]? = some x) (hx : Loc X.env.scope x) (hf : X.fn x = true \/ X.env.scope.names.lookup x = some .local := by first | exact .inl rfl | exact .inr rfl | assumption) : PG X (.Name x pos) (gName i) := by
 intro pins s σ H v u Q I r h
 exact wpAny_assign_Name (store_ok I hN hi hx r (fun s' I' => ⟨_, H, I', h⟩) hf)
def gNil : TGs := fun vs σ H Q => vs = [] /\ Q σ H
def gCons (t : TG) (u : TGs) : TGs := fun vs σ H Q => ∃ v r, vs = v :: r /\ t v σ H fun σ' H' => u r σ' H' Q
theorem pgs_nil : PGs X [] gNil := by
 intro pins s σ H vs us Q I r h
 obtain ⟨e, h⟩ := h
 subst e
 cases r
 exact assignInOrder_nil ⟨σ, H, I, h⟩
theorem pgs_cons {e : Expr} {es : List Expr} {t : TG} {u : TGs} (h1 : PG X e t) (h2 : PGs X es u)
  (hs : (assignEach (e :: es) X.env).map (·.2) = assign e X.env :: (assignEach es X.env).map (·.2) := by rfl) : PGs X (e :: es) (gCons t u) := by
 intro pins s σ H vs us Q I r h
 obtain ⟨v, vr, e1, h⟩ := h
 subst e1
 cases r with
 | cons r rr =>
  rw [hs]
  refine assignInOrder_cons (thn (h1 pins s σ H _ _ _ I r h) fun _ s1 ⟨σ1, H1, I1, q1⟩ => ?_)
  exact h2 pins s1 σ1 H1 _ _ Q I1 rr q1
def gTup (K : PySem.W.Frag) (n : Nat) (t : TGs) : TG := fun v σ H Q => ∃ a xs, v = .ref a /\ SqT K H a xs /\ xs.length = n /\ t xs σ H Q
theorem pg_tup {es : List Expr} {k : Nat} {t : TGs} {n : Nat} (hc : X.calm = true) (h : PGs X es t)
  (hn : (assignEach es X.env).length = n := by rfl) (hst : (assignEach es X.env).findIdx? (·.1) = none := by rfl) : PG X (.Tuple es k pos) (gTup X.K n t) := by
 intro pins s σ H v u Q I r hw
 obtain ⟨a, xs, e1, hq, hl, hw⟩ := hw
 subst e1
 cases r
 obtain ⟨its, rv, ht, hz⟩ := I.tuple hq
 refine assign_Tuple_tuple (I.ok.hd hc) ht (by simp [hn, <- hl, rv.length]) hst fun h' hx => ?_
 have I1 : Inv X pins σ H { s with heap := h' } := I.kept (t' := s.toks) fun b o e => hx b o (Nat.ne_of_lt (Heap.lt_size e)) e
 exact h pins _ σ H xs _ Q I1 (by simpa using rv) hw
def tAsg (te : TE) (g : TG) : TS := fun D σ H => te σ H fun x H1 => g x σ H1 D.nx
theorem ps_asg {tg e : Expr} {te : TE} {g : TG} (he : PE X e te) (hg : PG X tg g) (hs : swapsWithSole [tg] e pos.line X.env = pure false := by rfl) (hw : swappedStores [tg] e X.env = pure none := by rfl)
  (h1 : (assignEach [tg] X.env).map (·.2) = [assign tg X.env] := by rfl) : PS X (.Assign [tg] e pos) (tAsg te g) := by
 intro pins s σ H D I h
 refine wpAny_Assign_stores (thn (he pins s σ H _ I h) fun v s1 ⟨x, H1, I1, r1, q1⟩ => ?_) hs hw
 rw [h1]
 exact thn (hg pins s1 σ H1 x v _ I1 r1 q1) fun _ s2 q => q
theorem ps_set {i : Nat} {x : Str} {e : Expr} {te : TE} {pos' : Pos} (hN : X.N.Nodup) (hi : X.N[i]? = some x) (hx : Loc X.env.scope x) (he : PE X e te) (hs : swapsWith e (some (.Name x pos')) pos.line X.env = pure false := by rfl) (hf : X.fn x = true \/ X.env.scope.names.lookup x = some .local := by first | exact .inl rfl | exact .inr rfl | assumption) :
  PS X (.Assign [.Name x pos'] e pos) (tAsg te (gName i)) := by
 intro pins s σ H D I h
 refine wpAny_Assign_Name (thn (he pins s σ H _ I h) fun v s1 ⟨y, H1, I1, r1, q1⟩ => ?_) hs
 exact store_ok I1 hN hi hx r1 (fun s2 I2 => ⟨_, H1, I2, q1⟩) hf
end
section
variable {X : Cx} {pos : Pos}
def tWhile (c : TT) (tb : TS) : TS := fun D σ H => ∃ W : Nat -> St -> Hp -> Prop, (∃ m, W m σ H) /\ ∀ m σ H, W m σ H ->
 c σ H fun b H1 => if b = true then ∃ N : St -> Hp -> Prop, (∀ σ' H', N σ' H' -> ∃ m', m' < m /\ W m' σ' H') /\ tb { D with nx := N, ct := N, bk := D.nx } σ H1 else D.nx σ H1
theorem ps_while {c : Expr} {body : List Stmt} {tc : TT} {tb : TS} (hp : PassesOwn (model X.prog X.w) X.A X.env X.xe) (hc : PT X c tc) (hb : PSs X body tb) : PS X (.While c body [] pos) (tWhile tc tb) := by
 intro pins s σ H D I h
 obtain ⟨W, ⟨m0, w0⟩, turn⟩ := h
 refine wpAny_While (codeAny_whileLoop (fun n s' => ∃ σ' H', Inv X pins σ' H' s' /\ W n σ' H') ?_ m0 ⟨σ, H, I, w0⟩)
 rintro n s1 ⟨σ1, H1, I1, w1⟩
 refine wpAny_passesOwn hp (thn (hc pins s1 σ1 H1 _ I1 (turn n σ1 H1 w1)) fun b s2 ⟨H2, I2, q2⟩ => ?_)
 cases b with
 | true =>
  obtain ⟨N, hN, q2⟩ := q2
  rw [if_pos rfl]
  refine wpAny_passesOwn hp (thn (hb pins s2 σ1 H2 _ I2 q2) fun f s3 q3 => ?_)
  cases f with
  | next =>
   obtain ⟨σ3, H3, I3, n3⟩ := q3
   obtain ⟨m', hm, w3⟩ := hN σ3 H3 n3
   exact ⟨m', hm, σ3, H3, I3, w3⟩
  | cont =>
   obtain ⟨σ3, H3, I3, n3⟩ := q3
   obtain ⟨m', hm, w3⟩ := hN σ3 H3 n3
   exact ⟨m', hm, σ3, H3, I3, w3⟩
  | brk => exact q3
  | ret v => exact q3
 | false =>
  rw [if_neg Bool.false_ne_true]
  exact wpAny_execs_nil ⟨σ1, H2, I2, q2⟩
end
structure It where
 go : Nat -> Hp -> Prop
 yld : Nat -> Hp -> V -> Hp -> Prop
 stop : Nat -> Hp -> Prop
def FpOk (X : Cx) (pins : List (Addr × Obj)) (H : Hp) (b : Addr) : Prop :=
 H b = none /\ b ≠ X.env.locals /\ b ∉ X.fs /\ (b ∈ X.ex \/ X.s₀.heap.objs.size <= b) /\ (∀ x c, X.env.cells.lookup x = some c -> c ≠ b) /\ ∀ p ∈ X.pn ++ pins, p.1 ≠ b
theorem Inv.fpOk {X : Cx} {pins : List (Addr × Obj)} {σ : St} {H H' : Hp} {s : Shared} {b : Addr} (I : Inv X pins σ H s) (hb : s.heap.objs.size <= b) (hn : H' b = none) : FpOk X pins H' b := by
 refine ⟨hn, Nat.ne_of_gt (Nat.lt_of_lt_of_le I.lt hb), I.nofs hb, .inr (Nat.le_trans I.sz hb), fun x c e z => ?_, fun p hp z => ?_⟩
 ·obtain ⟨v, q⟩ := I.cell x c e
  exact absurd (Nat.lt_of_lt_of_le q.lt (by rw [z]; exact hb)) (Nat.lt_irrefl _)
 ·exact absurd (Nat.lt_of_lt_of_le (Heap.lt_size (I.pin p hp).1) (by rw [z]; exact hb)) (Nat.lt_irrefl _)
structure Turn (P : Program) (w : World) (K : PySem.W.Frag) (tg : Expr) (J : It) (fp : List Addr) (it : Addr) (tn : Nat -> Heap -> Prop) : Prop where
 mem : it ∈ fp
 obj : ∀ i h, tn i h -> ∀ b ∈ fp, ∃ o, h.get? b = some o /\ ∀ v, o.data ≠ .cell v
 keep : ∀ i h h', tn i h -> (∀ b ∈ fp, ∀ o, h.get? b = some o -> h'.get? b = some o) -> tn i h'
 item : ∀ (X : Cx), X.prog = P -> X.w = w -> X.K = K -> X.calm = true -> ∀ (i : Nat) (pins : List (Addr × Obj)) (s : Shared) (σ : St) (H : Hp) (E : Value -> Shared -> Prop), Inv X pins σ H s -> (∀ b ∈ fp, FpOk X pins H b) -> tn i s.heap -> J.go i H ->
  wpAny (model P w) X.A (pyNext (.ref it)) (fun r s1 => ∃ u, r = some u /\
   wpAny (model P w) X.A (letOwnedTupleGo tg (.ref it) u) (fun _ s2 => ∃ x H', Inv X pins σ H' s2 /\ RelV x u /\ J.yld i H x H' /\ tn (i + 1) s2.heap /\ ∀ b ∈ fp, H' b = none) E s1) E s
 done : ∀ (X : Cx), X.prog = P -> X.w = w -> X.K = K -> X.calm = true -> ∀ (i : Nat) (pins : List (Addr × Obj)) (s : Shared) (σ : St) (H : Hp) (E : Value -> Shared -> Prop), Inv X pins σ H s -> (∀ b ∈ fp, FpOk X pins H b) -> tn i s.heap -> J.stop i H ->
  wpAny (model P w) X.A (pyNext (.ref it)) (fun r s1 => r = none /\ Inv X pins σ H s1) E s
 self : ∀ (A : Around) (i : Nat) (s : Shared) (Q : Value -> Shared -> Prop) (E : Value -> Shared -> Prop), tn i s.heap -> Q (.ref it) s -> wpAny (model P w) A (pyIter (.ref it)) Q E s
abbrev TI := St -> Hp -> (It -> Hp -> Prop) -> Prop
def PIE (X : Cx) (pins : List (Addr × Obj)) (σ : St) (tg : Expr) (R : It -> Hp -> Prop) (itv : Value) (s2 : Shared) : Prop :=
 ∃ (it : Addr) (fp : List Addr) (tn : Nat -> Heap -> Prop) (J : It) (H' : Hp), itv = .ref it /\ Inv X pins σ H' s2 /\ Turn X.prog X.w X.K tg J fp it tn /\ tn 0 s2.heap /\ (∀ b ∈ fp, FpOk X pins H' b) /\ R J H'
def PI (X : Cx) (tg iter : Expr) (wi : TI) : Prop :=
 ∀ (pins : List (Addr × Obj)) (s : Shared) (σ : St) (H : Hp) (R : It -> Hp -> Prop), Inv X pins σ H s -> wi σ H R ->
  wpAny (model X.prog X.w) X.A (eval iter X.env) (fun v s1 => wpAny (model X.prog X.w) X.A (pyIter v) (PIE X pins σ tg R) X.xe s1) X.xe s
theorem go_of {M : Model} {A : Around} {E : Value -> Shared -> Prop} {s : Shared} {tg : Expr} {it : Addr} {u : Value} {o : Obj} {n : String} {vs : Array Value} {Q : Unit -> Shared -> Prop} (ho : s.heap.get? it = some o) (hc : o.cls = .type n) (hd : o.data = .fields vs)
  (hn : ["enumerate", "zip", "dict_itemiterator", "dict_reverseitemiterator", "odict_iterator", "itertools.zip_longest", "itertools.pairwise"].contains n = false) (hQ : Q () s) : wpAny M A (letOwnedTupleGo tg (.ref it) u) Q E s := by
 unfold letOwnedTupleGo
 cases tg <;> first
  | exact wpAny_pure hQ
  | (cases u <;> first
    | exact wpAny_pure hQ
    | (refine wpAny_bind (wpAny_load ho ?_)
       rw [hc, hd]
       show wpAny M A (if (["enumerate", "zip", "dict_itemiterator", "dict_reverseitemiterator", "odict_iterator", "itertools.zip_longest", "itertools.pairwise"].contains n && vs[0]? == some (rawInt _)) = true then _ else _) Q E s
       rw [if_neg (by intro h; rw [hn, Bool.false_and] at h; cases h)]
       exact wpAny_pure hQ))
def Itl (K : PySem.W.Frag) (a : Addr) : It :=
 ⟨fun i H => ∃ xs x, SqL K H a xs /\ xs[i]? = some x, fun i H x H' => H' = H /\ ∀ xs, SqL K H a xs -> xs[i]? = some x, fun i H => ∃ xs, SqL K H a xs /\ xs.length <= i⟩
def Itt (K : PySem.W.Frag) (a : Addr) : It :=
 ⟨fun i H => ∃ xs x, SqT K H a xs /\ xs[i]? = some x, fun i H x H' => H' = H /\ ∀ xs, SqT K H a xs -> xs[i]? = some x, fun i H => ∃ xs, SqT K H a xs /\ xs.length <= i⟩
def Itr (lo : Int) (n : Nat) : It := ⟨fun i _ => i < n, fun i H x H' => H' = H /\ x = .int (lo + i), fun i _ => n <= i⟩
theorem turn_list {P : Program} {w : World} {K : PySem.W.Frag} {tg : Expr} (a it : Addr) : Turn P w K tg (Itl K a) [it] it (fun i h => h.IsListIter it a i) where
 mem := by simp
 obj := fun i h st b hb => by
  have e : b = it := by simpa using hb
  subst e
  obtain ⟨o, e, c, d⟩ := st
  exact ⟨o, e, fun v z => by rw [d] at z; cases z⟩
 keep := fun i h h' st k => st.at fun o e => k it (by simp) o e
 item := by
  intro X hP hw hK hc i pins s σ H E I hf st hg
  subst hP hw hK
  obtain ⟨xs, x, hq, hx⟩ := hg
  obtain ⟨its, rv, p, hz⟩ := I.list hq
  obtain ⟨u, hu, ru⟩ := rv.get hx
  obtain ⟨f0, f1, f2, f3, f4, f5⟩ := hf it (by simp)
  refine wpAny_pyNext_list_item st p.isList (x := u) (by simpa using hu) fun h' st' sb => ?_
  have I1 : Inv X pins σ H { s with heap := h' } := I.turned (t' := s.toks) (fun b o hb e => (sb.2 b hb).trans e) f0 f1 f3 f4 f5
  obtain ⟨o, e, c, d⟩ := id st'
  exact ⟨u, rfl, go_of (s := { s with heap := h' }) e c d (by decide) ⟨x, H, I1, ru, ⟨rfl, fun ys hy => by rw [I.list_inj hy hq]; exact hx⟩, st', fun b hb => (hf b hb).1⟩⟩
 done := by
  intro X hP hw hK hc i pins s σ H E I hf st hg
  subst hP hw hK
  obtain ⟨xs, hq, hx⟩ := hg
  obtain ⟨its, rv, p, hz⟩ := I.list hq
  obtain ⟨f0, f1, f2, f3, f4, f5⟩ := hf it (by simp)
  have hl := rv.length
  exact wpAny_pyNext_list_end (I.ok.hd hc) st p.isList (by simp; omega) fun h' eb => ⟨rfl, I.turned (t' := s.toks) (fun b o hb e => eb b o hb e) f0 f1 f3 f4 f5⟩
 self := fun _ _ _ _ _ st h => wpAny_pyIter_listiter st h
theorem turn_tuple {P : Program} {w : World} {K : PySem.W.Frag} {tg : Expr} (a it : Addr) : Turn P w K tg (Itt K a) [it] it (fun i h => h.IsTupleIter it a i) where
 mem := by simp
 obj := fun i h st b hb => by
  have e : b = it := by simpa using hb
  subst e
  obtain ⟨o, e, c, d⟩ := st
  exact ⟨o, e, fun v z => by rw [d] at z; cases z⟩
 keep := fun i h h' st k => st.at fun o e => k it (by simp) o e
 item := by
  intro X hP hw hK hc i pins s σ H E I hf st hg
  subst hP hw hK
  obtain ⟨xs, x, hq, hx⟩ := hg
  obtain ⟨its, rv, p, hz⟩ := I.tuple hq
  obtain ⟨u, hu, ru⟩ := rv.get hx
  obtain ⟨f0, f1, f2, f3, f4, f5⟩ := hf it (by simp)
  refine wpAny_pyNext_tuple_item st (show s.heap.IsTuple a its.toArray from p) (x := u) (by simpa using hu) fun h' st' sb => ?_
  have I1 : Inv X pins σ H { s with heap := h' } := I.turned (t' := s.toks) (fun b o hb e => (sb.2 b hb).trans e) f0 f1 f3 f4 f5
  obtain ⟨o, e, c, d⟩ := id st'
  exact ⟨u, rfl, go_of (s := { s with heap := h' }) e c d (by decide) ⟨x, H, I1, ru, ⟨rfl, fun ys hy => by rw [I.tuple_inj hy hq]; exact hx⟩, st', fun b hb => (hf b hb).1⟩⟩
 done := by
  intro X hP hw hK hc i pins s σ H E I hf st hg
  subst hP hw hK
  obtain ⟨xs, hq, hx⟩ := hg
  obtain ⟨its, rv, p, hz⟩ := I.tuple hq
  obtain ⟨f0, f1, f2, f3, f4, f5⟩ := hf it (by simp)
  have hl := rv.length
  exact wpAny_pyNext_tuple_end (I.ok.hd hc) st (show s.heap.IsTuple a its.toArray from p) (by simp; omega) fun h' eb => ⟨rfl, I.turned (t' := s.toks) (fun b o hb e => eb b o hb e) f0 f1 f3 f4 f5⟩
 self := fun _ _ _ _ _ st h => wpAny_pyIter_tupleiter st h
theorem turn_range {P : Program} {w : World} {K : PySem.W.Frag} {tg : Expr} (it : Addr) (lo : Int) (n : Nat) : Turn P w K tg (Itr lo n) [it] it (fun i h => IsRangeIter h it (lo + (i : Nat) * 1) ((n : Int) - (i : Nat)) 1) where
 mem := by simp
 obj := fun i h st b hb => by
  have e : b = it := by simpa using hb
  subst e
  exact ⟨_, st, fun v z => by
   have z' : Data.fields _ = Data.cell v := z
   cases z'⟩
 keep := fun i h h' st k => k it (by simp) _ st
 item := by
  intro X hP hw hK hc i pins s σ H E I hf st hg
  subst hP hw hK
  obtain ⟨f0, f1, f2, f3, f4, f5⟩ := hf it (by simp)
  have W := Walks.range (prog := X.prog) (w := X.w) (I.ok.hd hc) it lo 1 n
  refine W.item i s _ _ hg st fun v h' tk hv st' kk => ?_
  obtain ⟨t, rfl⟩ := hv
  have I1 : Inv X pins σ H { s with heap := h', toks := tk } := I.turned (fun b o hb e => kk b o (by simpa using hb) e) f0 f1 f3 f4 f5
  refine ⟨_, rfl, go_of (s := { s with heap := h', toks := tk }) (n := "range_iterator") st' rfl rfl (by decide) ⟨.int (lo + i), H, I1, ⟨t, ?_⟩, ⟨rfl, rfl⟩, st', fun b hb => (hf b hb).1⟩⟩
  rw [Int.mul_one]
 done := by
  intro X hP hw hK hc i pins s σ H E I hf st hg
  subst hP hw hK
  obtain ⟨f0, f1, f2, f3, f4, f5⟩ := hf it (by simp)
  exact wpAny_pyNext_range_end (I.ok.hd hc) st (by have : n <= i := hg; omega) fun h' eb => ⟨rfl, I.turned (t' := s.toks) (fun b o hb e => eb b o hb e) f0 f1 f3 f4 f5⟩
 self := fun _ _ _ _ _ st h => wpAny_pyIter_rangeiter st h
end L2
namespace L2
open PySem PySem.Spec PyProof.Rows
section
variable {X : Cx} {tg : Expr}
theorem range_it {pins : List (Addr × Obj)} {σ : St} {H : Hp} {s : Shared} {R : It -> Hp -> Prop} {E : Value -> Shared -> Prop} {lo hi : Int} {t u v : Tok} {tk : Nat} (I : Inv X pins σ H s) (h1 : -(2 ^ 62) <= lo) (h2 : lo < 2 ^ 62) (h3 : -(2 ^ 62) <= hi) (h4 : hi < 2 ^ 62)
  (q : R (Itr lo (hi - lo).toNat) H) : wpAny (model X.prog X.w) X.A (pyIter (.ref s.heap.objs.size)) (PIE X pins σ tg R) E { s with heap := s.heap.push { cls := .type "range", data := .fields #[.int lo t, .int hi u, .int 1 v] }, toks := tk } := by
 refine wpAny_pyIter_range (IsRange.new ..) (small_one h1 h2 h3 h4) ?_
 have I1 : Inv X pins σ H { s with heap := s.heap.push { cls := .type "range", data := .fields #[.int lo t, .int hi u, .int 1 v] }, toks := tk } := I.kept fun b o e => Heap.get?_push_of_some _ e
 refine ⟨(s.heap.push { cls := .type "range", data := .fields #[.int lo t, .int hi u, .int 1 v] }).objs.size, [(s.heap.push { cls := .type "range", data := .fields #[.int lo t, .int hi u, .int 1 v] }).objs.size], _, _, H, rfl,
  I1.kept (t' := tk) fun b o e => Heap.get?_push_of_some _ e, turn_range _ lo (hi - lo).toNat, ?_, fun b hb => ?_, q⟩
 ·have e1 : lo + ((0 : Nat) : Int) * 1 = lo := by simp
  have e2 : (((hi - lo).toNat : Nat) : Int) - ((0 : Nat) : Int) = Builtin.Range.rangeSize lo hi 1 := by rw [rangeSize_one]; split <;> omega
  show IsRangeIter _ _ (lo + ((0 : Nat) : Int) * 1) ((((hi - lo).toNat : Nat) : Int) - ((0 : Nat) : Int)) 1
  rw [e1, e2]
  exact Heap.get?_push_size _ rfl
 ·have e : b = (s.heap.push { cls := .type "range", data := .fields #[.int lo t, .int hi u, .int 1 v] }).objs.size := by simpa using hb
  subst e
  exact I1.fpOk (Nat.le_refl _) (I1.hok.fresh (Nat.le_refl _))
def iRng1 (ta : TA) : TI := fun σ H R => ta σ H fun vs H1 => ∃ j : Int, vs = [.int j] /\ -(2 ^ 62) <= j /\ j < 2 ^ 62 /\ R (Itr 0 j.toNat) H1
theorem pi_range1 {a : Expr} {ta : TA} {p pos : Pos} (hg : Gl X "range") (hm : X.mg "range" = none) (ha : PA X [a] ta) (hs : starEach [a] X.env = [(false, eval a X.env)] := by rfl) : PI X tg (.Call (.Name "range" p) [a] [] pos) (iRng1 ta) := by
 intro pins s σ H R I h
 refine Call_ (ld_blt I hg hm boot_range (PyProof.Rows.callWith_type1 (thn (ha pos pins s σ H _ I h) fun us s1 ⟨vs, H1, I1, r1, q1⟩ => ?_) hs rfl))
 obtain ⟨j, e, q1, q2, q⟩ := q1
 subst e
 cases r1 with
 | cons r rr =>
  cases rr
  obtain ⟨t, rfl⟩ := r
  exact call_range_1 (range_it I1 (by omega) (by omega) q1 q2 (by simpa using q))
def tFor (wi : TI) (g : TG) (tb : TS) : TS := fun D σ H => wi σ H fun J H1 => ∃ W : Nat -> Nat -> St -> Hp -> Prop, (∃ m, W 0 m σ H1) /\ ∀ i m σ H, W i m σ H ->
 (J.stop i H /\ D.nx σ H) \/ (J.go i H /\ ∃ N : St -> Hp -> Prop, (∀ σ' H', N σ' H' -> ∃ m', m' < m /\ W (i + 1) m' σ' H') /\ ∀ x H', J.yld i H x H' -> g x σ H' fun σ2 H2 => tb { D with nx := N, ct := N, bk := D.nx } σ2 H2)
def pinsAt (fp : List Addr) (h : Heap) : List (Addr × Obj) := fp.filterMap fun b => (h.get? b).map fun o => (b, o)
theorem mem_pinsAt {fp : List Addr} {h : Heap} {b : Addr} {o : Obj} (hb : b ∈ fp) (e : h.get? b = some o) : (b, o) ∈ pinsAt fp h := List.mem_filterMap.mpr ⟨b, hb, by rw [e]; rfl⟩
theorem of_pinsAt {fp : List Addr} {h : Heap} {p : Addr × Obj} (hp : p ∈ pinsAt fp h) : p.1 ∈ fp /\ h.get? p.1 = some p.2 := by
 obtain ⟨b, hb, e⟩ := List.mem_filterMap.mp hp
 cases q : h.get? b with
 | none => rw [q] at e; cases e
 | some o =>
  rw [q] at e
  have e' : (b, o) = p := Option.some.inj e
  subst e'
  exact ⟨hb, q⟩
theorem Inv.pinned {pins : List (Addr × Obj)} {σ : St} {H : Hp} {s : Shared} {fp : List Addr} (I : Inv X pins σ H s) (hf : ∀ b ∈ fp, FpOk X pins H b) (ho : ∀ b ∈ fp, ∃ o, s.heap.get? b = some o /\ ∀ v, o.data ≠ .cell v) : Inv X (pins ++ pinsAt fp s.heap) σ H s :=
 I.pins_of fun p hp => (List.mem_append.mp hp).elim (fun z => I.pin p (List.mem_append_right _ z)) fun z => by
  obtain ⟨hb, e⟩ := of_pinsAt z
  obtain ⟨f0, f1, f2, _⟩ := hf p.1 hb
  obtain ⟨o, e', d⟩ := ho p.1 hb
  rw [e] at e'; cases e'
  exact ⟨e, f0, f1, f2, d⟩
theorem Inv.unpinned {pins pl : List (Addr × Obj)} {σ : St} {H : Hp} {s : Shared} (I : Inv X (pins ++ pl) σ H s) : Inv X pins σ H s := I.pins_of fun p hp => I.pin p (List.mem_append_right _ (List.mem_append_left _ hp))
theorem ps_for {iter : Expr} {body : List Stmt} {wi : TI} {g : TG} {tb : TS} {pos : Pos} (hp : PassesOwn (model X.prog X.w) X.A X.env X.xe) (hc : X.calm = true) (hi : PI X tg iter wi) (hg : PG X tg g) (hb : PSs X body tb)
  (hs : ∀ x, foldedSetIterable iter X.env x = pure x := by intro _; rfl) : PS X (.For tg iter body [] pos) (tFor wi g tb) := by
 intro pins s σ H D I h
 refine wpAny_For (thn (hi pins s σ H _ I h) fun v s1 h1 => thn h1 fun itv s2 h2 => ?_) hs
 obtain ⟨it, fp, tn, J, H2, e, I2, T, st2, f2, W, ⟨m0, w0⟩, turn⟩ := h2
 subst e
 -- what stays true of the iterator's objects through the loop
 have stat : ∀ {H' : Hp}, (∀ b ∈ fp, H' b = none) -> ∀ b ∈ fp, FpOk X pins H' b := fun hn b hb => ⟨hn b hb, (f2 b hb).2⟩
 refine codeAny_forLoop_any (fun n s' => ∃ i σ' H', Inv X pins σ' H' s' /\ tn i s'.heap /\ (∀ b ∈ fp, H' b = none) /\ W i n σ' H') ?_ m0 ⟨0, σ, H2, I2, st2, fun b hb => (f2 b hb).1, w0⟩
 rintro n s3 ⟨i, σ3, H3, I3, st3, fr3, w3⟩
 rcases turn i n σ3 H3 w3 with ⟨stop, qn⟩ | ⟨go, N, hN, step⟩
 ·refine wpAny_passesOwn hp (thn (T.done X rfl rfl rfl hc i pins s3 σ3 H3 X.xe I3 (stat fr3) st3 stop) fun r s4 ⟨hr, I4⟩ => ?_)
  subst hr
  exact wpAny_execs_nil ⟨σ3, H3, I4, qn⟩
 ·refine wpAny_passesOwn hp (thn (T.item X rfl rfl rfl hc i pins s3 σ3 H3 X.xe I3 (stat fr3) st3 go) fun r s4 ⟨u, hr, h4⟩ => ?_)
  subst hr
  refine wpAny_passesOwn hp (thn h4 fun _ s5 ⟨x, H5, I5, r5, y5, st5, fr5⟩ => ?_)
  have I5' := I5.pinned (stat fr5) (T.obj _ _ st5)
  refine wpAny_passesOwn hp (thn (hg _ s5 σ3 H5 x u _ I5' r5 (step x H5 y5)) fun _ s6 ⟨σ6, H6, I6, q6⟩ => ?_)
  refine wpAny_passesOwn hp (thn (hb _ s6 σ6 H6 _ I6 q6) fun f s7 q7 => ?_)
  have again : ∀ {σ7 : St} {H7 : Hp}, Inv X (pins ++ pinsAt fp s5.heap) σ7 H7 s7 -> N σ7 H7 -> ∃ m, m < n /\ ∃ i σ' H', Inv X pins σ' H' s7 /\ tn i s7.heap /\ (∀ b ∈ fp, H' b = none) /\ W i m σ' H' := fun {σ7 H7} I7 n7 => by
   obtain ⟨m', hm, w7⟩ := hN σ7 H7 n7
   refine ⟨m', hm, i + 1, σ7, H7, I7.unpinned, T.keep _ _ _ st5 fun b hb o e => (I7.pin (b, o) (List.mem_append_right _ (List.mem_append_right _ (mem_pinsAt hb e)))).1, fun b hb => ?_, w7⟩
   obtain ⟨o, e, d⟩ := T.obj _ _ st5 b hb
   exact (I7.pin (b, o) (List.mem_append_right _ (List.mem_append_right _ (mem_pinsAt hb e)))).2.1
  cases f with
  | next => obtain ⟨σ7, H7, I7, n7⟩ := q7; exact again I7 n7
  | cont => obtain ⟨σ7, H7, I7, n7⟩ := q7; exact again I7 n7
  | brk => obtain ⟨σ7, H7, I7, q7⟩ := q7; exact ⟨σ7, H7, I7.unpinned, q7⟩
  | ret v => obtain ⟨x7, σ7, H7, I7, r7, q7⟩ := q7; exact ⟨x7, σ7, H7, I7.unpinned, r7, q7⟩
end
end L2
namespace L2
open PySem PySem.Spec PyProof.Rows
abbrev R2 := V -> V -> Hp -> VK -> Prop
def OpR (X : Cx) (f : Value -> Value -> Sem Value) (r : R2) : Prop :=
 ∀ (pins : List (Addr × Obj)) (s : Shared) (σ : St) (H : Hp) (x y : V) (v u : Value) (Q : VK), Inv X pins σ H s -> RelV x v -> RelV y u -> r x y H Q ->
  wpAny (model X.prog X.w) X.A (f v u) (EP X pins σ Q) X.xe s
def UnR (X : Cx) (f : Value -> Sem Value) (r : V -> Hp -> VK -> Prop) : Prop :=
 ∀ (pins : List (Addr × Obj)) (s : Shared) (σ : St) (H : Hp) (x : V) (v : Value) (Q : VK), Inv X pins σ H s -> RelV x v -> r x H Q ->
  wpAny (model X.prog X.w) X.A (f v) (EP X pins σ Q) X.xe s
def CallR (X : Cx) (f : Value) (r : List V -> Hp -> VK -> Prop) : Prop :=
 ∀ (pins : List (Addr × Obj)) (s : Shared) (σ : St) (H : Hp) (xs : List V) (us : List Value) (Q : VK), Inv X pins σ H s -> Vals xs us -> r xs H Q ->
  wpAny (model X.prog X.w) X.A (call f us) (EP X pins σ Q) X.xe s
def TruR (X : Cx) (r : V -> Hp -> (Bool -> Hp -> Prop) -> Prop) : Prop :=
 ∀ (pins : List (Addr × Obj)) (s : Shared) (σ : St) (H : Hp) (x : V) (v : Value) (Q : Bool -> Hp -> Prop), Inv X pins σ H s -> RelV x v -> r x H Q ->
  wpAny (model X.prog X.w) X.A (truthy v) (TP X pins σ Q) X.xe s
def tOp (r : R2) (ta tb : TE) : TE := fun σ H Q => ta σ H fun x H1 => tb σ H1 fun y H2 => r x y H2 Q
def tUn (r : V -> Hp -> VK -> Prop) (ta : TE) : TE := fun σ H Q => ta σ H fun x H1 => r x H1 Q
def rI (C : Int -> Int -> Prop) (g : Int -> Int -> V) : R2 := fun x y H Q => ∃ i j, x = .int i /\ y = .int j /\ C i j /\ Q (g i j) H
def rI0 (g : Int -> Int -> V) : R2 := fun x y H Q => ∃ i j, x = .int i /\ y = .int j /\ Q (g i j) H
def rU (g : Int -> V) : V -> Hp -> VK -> Prop := fun x H Q => ∃ i, x = .int i /\ Q (g i) H
section
variable {X : Cx} {a b c : Expr} {ta tb tc : TE} {pos : Pos}
theorem binT (ha : PE X a ta) (hb : PE X b tb) {pins : List (Addr × Obj)} {s : Shared} {σ : St} {H : Hp} {R : V -> V -> Hp -> Prop} (I : Inv X pins σ H s)
  (h : ta σ H fun x H1 => tb σ H1 fun y H2 => R x y H2) {Q : Value -> Shared -> Prop} {f : Value -> Value -> Sem Value}
  (hf : ∀ v u s2 x y H2, Inv X pins σ H2 s2 -> RelV x v -> RelV y u -> R x y H2 -> wpAny (model X.prog X.w) X.A (f v u) Q X.xe s2) :
  wpAny (model X.prog X.w) X.A (eval a X.env) (fun v s₁ => wpAny (model X.prog X.w) X.A (eval b X.env) (fun u s₂ => wpAny (model X.prog X.w) X.A (f v u) Q X.xe s₂) X.xe s₁) X.xe s := by
 refine thn (ha pins s σ H _ I h) fun v s1 hq1 => ?_
 obtain ⟨x, H1, I1, r1, q1⟩ := hq1
 refine thn (hb pins s1 σ H1 _ I1 q1) fun u s2 hq2 => ?_
 obtain ⟨y, H2, I2, r2, q2⟩ := hq2
 exact hf v u s2 x y H2 I2 r1 r2 q2
theorem pe_op {op : Operator} {r : R2} (ho : OpR X (binaryOp op) r) (ha : PE X a ta) (hb : PE X b tb) : PE X (.BinOp a op b pos) (tOp r ta tb) := by
 intro pins s σ H Q I h
 exact wpAny_BinOp (binT ha hb I h fun v u s2 x y H2 I2 rx ry q => ho pins s2 σ H2 x y v u Q I2 rx ry q)
theorem pe_un {op : UnaryOp} {r : V -> Hp -> VK -> Prop} (ho : UnR X (unaryOp op) r) (ha : PE X a ta) : PE X (.UnaryOp op a pos) (tUn r ta) := by
 intro pins s σ H Q I h
 exact UnaryOp_ (thn (ha pins s σ H _ I h) fun v s1 ⟨x, H1, I1, r1, q1⟩ => ho pins s1 σ H1 x v Q I1 r1 q1)
theorem opI {f : Value -> Value -> Sem Value} {C : Int -> Int -> Prop} {g : Int -> Int -> Int}
  (rule : ∀ (i j : Int) (t u : Tok) (s : Shared) (Q : Value -> Shared -> Prop) (E : Value -> Shared -> Prop), C i j -> Q (.int (g i j) s.toks) { s with toks := s.toks + 1 } -> wpAny (model X.prog X.w) X.A (f (.int i t) (.int j u)) Q E s) :
  OpR X f (rI C fun i j => .int (g i j)) := by
 intro pins s σ H x y v u Q I rx ry h
 obtain ⟨i, j, rfl, rfl, hc, q⟩ := h
 obtain ⟨t, rfl⟩ := rx
 obtain ⟨t', rfl⟩ := ry
 exact rule i j t t' s _ _ hc ⟨.int (g i j), H, I.tok _, ⟨_, rfl⟩, q⟩
theorem opI0 {f : Value -> Value -> Sem Value} {g : Int -> Int -> Int}
  (rule : ∀ (i j : Int) (t u : Tok) (s : Shared) (Q : Value -> Shared -> Prop) (E : Value -> Shared -> Prop), Q (.int (g i j) s.toks) { s with toks := s.toks + 1 } -> wpAny (model X.prog X.w) X.A (f (.int i t) (.int j u)) Q E s) :
  OpR X f (rI0 fun i j => .int (g i j)) := by
 intro pins s σ H x y v u Q I rx ry h
 obtain ⟨i, j, rfl, rfl, q⟩ := h
 obtain ⟨t, rfl⟩ := rx
 obtain ⟨t', rfl⟩ := ry
 exact rule i j t t' s _ _ ⟨.int (g i j), H, I.tok _, ⟨_, rfl⟩, q⟩
theorem opB0 {f : Value -> Value -> Sem Value} {g : Int -> Int -> Bool}
  (rule : ∀ (i j : Int) (t u : Tok) (s : Shared) (Q : Value -> Shared -> Prop) (E : Value -> Shared -> Prop), Q (.bool (g i j)) s -> wpAny (model X.prog X.w) X.A (f (.int i t) (.int j u)) Q E s) :
  OpR X f (rI0 fun i j => .bl (g i j)) := by
 intro pins s σ H x y v u Q I rx ry h
 obtain ⟨i, j, rfl, rfl, q⟩ := h
 obtain ⟨t, rfl⟩ := rx
 obtain ⟨t', rfl⟩ := ry
 exact rule i j t t' s _ _ ⟨.bl (g i j), H, I, rfl, q⟩
def CDiv (i j : Int) : Prop := 0 < j /\ j < 1073741824
def CPow (i j : Int) : Prop := 0 <= j /\ j <= 1000000 /\ i.natAbs < 2 ^ 64
def CMul (i j : Int) : Prop := (-(2 ^ 64) < i /\ i < 2 ^ 64) \/ (-(2 ^ 64) < j /\ j < 2 ^ 64)
theorem CMul.ok {i j : Int} (h : CMul i j) : IntMulOk i j := by
 rcases h with ⟨h1, h2⟩ | ⟨h1, h2⟩
 ·exact .of_left (intBits_le_64 h1 h2)
 ·exact .of_right (intBits_le_64 h1 h2)
theorem op_add : OpR X (binaryOp .Add) (rI0 fun i j => .int (i + j)) := opI0 fun _ _ _ _ _ _ _ q => add_int q
theorem op_sub : OpR X (binaryOp .Sub) (rI0 fun i j => .int (i - j)) := opI0 fun _ _ _ _ _ _ _ q => sub_int q
theorem op_fdiv : OpR X (binaryOp .FloorDiv) (rI CDiv fun i j => .int (i / j)) := opI fun i j _ _ _ _ _ hc q => by
 have h1 : (0 : Int) < j := hc.1
 have h2 : j < 1073741824 := hc.2
 exact floordiv_int (by omega) (by rw [Int.fdiv_eq_ediv_of_nonneg i (by omega)]; exact q) (.inl (PyProof.noPylong_small (by omega)))
theorem op_mod : OpR X (binaryOp .Mod) (rI (fun _ j => 0 < j) fun i j => .int (i % j)) := opI fun i j _ _ _ _ _ hc q => by
 have h1 : (0 : Int) < j := hc
 exact mod_int' (by omega) (by rw [Int.fmod_eq_emod_of_nonneg i (by omega)]; exact q)
theorem op_pow : OpR X (binaryOp .Pow) (rI CPow fun i j => .int (i ^ j.toNat)) := opI fun _ _ _ _ _ _ _ hc q => pow_int_small hc.1 hc.2.1 hc.2.2 q
theorem unI {f : Value -> Sem Value} {g : Int -> Int}
  (rule : ∀ (i : Int) (t : Tok) (s : Shared) (Q : Value -> Shared -> Prop) (E : Value -> Shared -> Prop), Q (.int (g i) s.toks) { s with toks := s.toks + 1 } -> wpAny (model X.prog X.w) X.A (f (.int i t)) Q E s) :
  UnR X f (rU fun i => .int (g i)) := by
 intro pins s σ H x v Q I rx h
 obtain ⟨i, rfl, q⟩ := h
 obtain ⟨t, rfl⟩ := rx
 exact rule i t s _ _ ⟨.int (g i), H, I.tok _, ⟨_, rfl⟩, q⟩
theorem un_neg : UnR X (unaryOp .USub) (rU fun i => .int (-i)) := unI fun _ _ _ _ _ q => neg_int q
end
def scal : V -> V -> Bool
 | .non, .non => true | .non, .int _ => true | .int _, .non => true | .non, .bl _ => true | .bl _, .non => true | .non, .str _ => true | .str _, .non => true
 | .int _, .int _ => true | .bl _, .bl _ => true | .str _, .str _ => true | .byt _, .byt _ => true
 | .int _, .str _ => true | .str _, .int _ => true | .bl _, .str _ => true | .str _, .bl _ => true
 | _, _ => false
def rEq : R2 := fun x y H Q => scal x y = true /\ Q (.bl (decide (x = y))) H
def rNe : R2 := fun x y H Q => scal x y = true /\ Q (.bl (!decide (x = y))) H
theorem dec_int {i j : Int} : decide (V.int i = V.int j) = (i == j) := by
 rw [Bool.eq_iff_iff]
 simp
theorem dec_bl {i j : Bool} : decide (V.bl i = V.bl j) = (i == j) := by
 rw [Bool.eq_iff_iff]
 simp
theorem dec_str {i j : Str} : decide (V.str i = V.str j) = (i == j) := by
 rw [Bool.eq_iff_iff]
 simp
theorem dec_byt {i j : Array UInt8} : decide (V.byt i = V.byt j) = (i.toList == j.toList) := by
 rw [Bool.eq_iff_iff]
 cases i
 cases j
 simp
section
variable {X : Cx} {a b c : Expr} {ta tb tc : TE} {pos : Pos}
theorem fin_bl {pins : List (Addr × Obj)} {σ : St} {H : Hp} {s : Shared} {Q : VK} {k k' : Bool} (I : Inv X pins σ H s) (q : Q (.bl k) H) (e : k = k') : EP X pins σ Q (.bool k') s := by
 subst e
 exact ⟨.bl k, H, I, rfl, q⟩
theorem op_eq : OpR X (compareOp .Eq) rEq := by
 intro pins s σ H x y v u Q I rx ry h
 obtain ⟨hs, q⟩ := h
 cases x with
 | non =>
  cases rx
  cases y with
  | non => cases ry; exact PySem.EqNone.eq_none_none (fin_bl I q (by simp))
  | bl j => cases ry; exact PySem.EqNone.eq_none_bool (fin_bl I q (by simp))
  | int j => obtain ⟨t', rfl⟩ := ry; exact PySem.EqNone.eq_none_int (fin_bl I q (by simp))
  | str j => obtain ⟨t', rfl⟩ := ry; exact PySem.EqNone.eq_none_str (fin_bl I q (by simp))
  | _ => exact absurd (show false = true from hs) Bool.false_ne_true
 | bl i =>
  cases rx
  cases y with
  | non => cases ry; exact PySem.EqNone.eq_bool_none (fin_bl I q (by simp))
  | bl j => cases ry; exact eq_bool (fin_bl I q dec_bl)
  | str j => obtain ⟨t', rfl⟩ := ry; exact PySem.EqMixed.eq_bool_str (fin_bl I q (by simp))
  | _ => exact absurd (show false = true from hs) Bool.false_ne_true
 | int i =>
  obtain ⟨t, rfl⟩ := rx
  cases y with
  | non => cases ry; exact PySem.EqNone.eq_int_none (fin_bl I q (by simp))
  | int j => obtain ⟨t', rfl⟩ := ry; exact eq_int (fin_bl I q dec_int)
  | str j => obtain ⟨t', rfl⟩ := ry; exact PySem.EqMixed.eq_int_str (fin_bl I q (by simp))
  | _ => exact absurd (show false = true from hs) Bool.false_ne_true
 | str i =>
  obtain ⟨t, rfl⟩ := rx
  cases y with
  | non => cases ry; exact PySem.EqNone.eq_str_none (fin_bl I q (by simp))
  | bl j => cases ry; exact PySem.EqMixed.eq_str_bool (fin_bl I q (by simp))
  | int j => obtain ⟨t', rfl⟩ := ry; exact PySem.EqMixed.eq_str_int (fin_bl I q (by simp))
  | str j => obtain ⟨t', rfl⟩ := ry; exact eq_str (fin_bl I q dec_str)
  | _ => exact absurd (show false = true from hs) Bool.false_ne_true
 | byt i =>
  obtain ⟨t, rfl⟩ := rx
  cases y with
  | byt j => obtain ⟨t', rfl⟩ := ry; exact PySem.W.eq_bytes (fin_bl I q dec_byt)
  | _ => exact absurd (show false = true from hs) Bool.false_ne_true
 | _ => cases y <;> exact absurd (show false = true from hs) Bool.false_ne_true
theorem op_ne : OpR X (compareOp .NotEq) rNe := by
 intro pins s σ H x y v u Q I rx ry h
 obtain ⟨hs, q⟩ := h
 cases x with
 | non =>
  cases rx
  cases y with
  | non => cases ry; exact PySem.EqNone.ne_none_none (fin_bl I q (by simp))
  | bl j => cases ry; exact PySem.EqNone.ne_none_bool (fin_bl I q (by simp))
  | int j => obtain ⟨t', rfl⟩ := ry; exact PySem.EqNone.ne_none_int (fin_bl I q (by simp))
  | str j => obtain ⟨t', rfl⟩ := ry; exact PySem.EqNone.ne_none_str (fin_bl I q (by simp))
  | _ => exact absurd (show false = true from hs) Bool.false_ne_true
 | bl i =>
  cases rx
  cases y with
  | non => cases ry; exact PySem.EqNone.ne_bool_none (fin_bl I q (by simp))
  | bl j => cases ry; exact ne_bool (fin_bl I q (congrArg not dec_bl))
  | str j => obtain ⟨t', rfl⟩ := ry; exact PySem.EqMixed.ne_bool_str (fin_bl I q (by simp))
  | _ => exact absurd (show false = true from hs) Bool.false_ne_true
 | int i =>
  obtain ⟨t, rfl⟩ := rx
  cases y with
  | non => cases ry; exact PySem.EqNone.ne_int_none (fin_bl I q (by simp))
  | int j => obtain ⟨t', rfl⟩ := ry; exact ne_int (fin_bl I q (congrArg not dec_int))
  | str j => obtain ⟨t', rfl⟩ := ry; exact PySem.EqMixed.ne_int_str (fin_bl I q (by simp))
  | _ => exact absurd (show false = true from hs) Bool.false_ne_true
 | str i =>
  obtain ⟨t, rfl⟩ := rx
  cases y with
  | non => cases ry; exact PySem.EqNone.ne_str_none (fin_bl I q (by simp))
  | bl j => cases ry; exact PySem.EqMixed.ne_str_bool (fin_bl I q (by simp))
  | int j => obtain ⟨t', rfl⟩ := ry; exact PySem.EqMixed.ne_str_int (fin_bl I q (by simp))
  | str j => obtain ⟨t', rfl⟩ := ry; exact ne_str (fin_bl I q (congrArg not dec_str))
  | _ => exact absurd (show false = true from hs) Bool.false_ne_true
 | byt i =>
  obtain ⟨t, rfl⟩ := rx
  cases y with
  | byt j => obtain ⟨t', rfl⟩ := ry; exact PySem.W.ne_bytes (fin_bl I q (congrArg not dec_byt))
  | _ => exact absurd (show false = true from hs) Bool.false_ne_true
 | _ => cases y <;> exact absurd (show false = true from hs) Bool.false_ne_true
theorem op_lt : OpR X (compareOp .Lt) (rI0 fun i j => .bl (decide (i < j))) := opB0 fun _ _ _ _ _ _ _ q => lt_int q
theorem op_le : OpR X (compareOp .LtE) (rI0 fun i j => .bl (decide (i <= j))) := opB0 fun _ _ _ _ _ _ _ q => le_int q
theorem op_gt : OpR X (compareOp .Gt) (rI0 fun i j => .bl (decide (j < i))) := opB0 fun _ _ _ _ _ _ _ q => gt_int q
theorem op_ge : OpR X (compareOp .GtE) (rI0 fun i j => .bl (decide (j <= i))) := opB0 fun _ _ _ _ _ _ _ q => ge_int q
theorem op_isN : OpR X (compareOp .Is) (fun x y H Q => y = .non /\ Q (.bl (decide (x = .non))) H) := by
 intro pins s σ H x y v u Q I rx ry h
 obtain ⟨rfl, q⟩ := h
 cases ry
 refine is_none_gen (fin_bl I q ?_)
 cases x <;> first
  | (cases rx; rfl)
  | (obtain ⟨t, rfl⟩ := rx; rfl)
theorem OpR.or {f : Value -> Value -> Sem Value} {r r' : R2} (h : OpR X f r) (h' : OpR X f r') : OpR X f (fun x y H Q => r x y H Q \/ r' x y H Q) := by
 intro pins s σ H x y v u Q I rx ry q
 rcases q with q | q
 ·exact h pins s σ H x y v u Q I rx ry q
 ·exact h' pins s σ H x y v u Q I rx ry q
theorem nomark (b : Expr) {op : CmpOp} (h : op ≠ .In := by decide) (h2 : op ≠ .NotIn := by decide) : behindInMarks op b = false := by
 have e1 : (op == CmpOp.In) = false := by cases op <;> first | rfl | exact absurd rfl h
 have e2 : (op == CmpOp.NotIn) = false := by cases op <;> first | rfl | exact absurd rfl h2
 cases b <;> simp [behindInMarks, e1, e2]
theorem pe_cmpR {op : CmpOp} {r : R2} (ho : OpR X (compareOp op) r) (ha : PE X a ta) (hb : PE X b tb) (hm : behindInMarks op b = false) : PE X (.Compare a [op] [b] pos) (tOp r ta tb) := by
 intro pins s σ H Q I h
 exact wpAny_Compare1 (binT ha hb I h fun v u s2 x y H2 I2 rx ry q => ho pins s2 σ H2 x y v u Q I2 rx ry q) hm
def tTest (t : TE) : TT := fun σ H Q => t σ H fun x H' => ∃ k, x = .bl k /\ Q k H'
theorem pt_cmpR {op : CmpOp} {r : R2} (ho : OpR X (compareOp op) r) (ha : PE X a ta) (hb : PE X b tb) (hm : behindInMarks op b = false) : PT X (.Compare a [op] [b] pos) (tTest (tOp r ta tb)) := by
 intro pins s σ H Q I h
 refine wpAny_isTrue_Compare1 (thn (ha pins s σ H _ I h) fun v s1 ⟨x, H1, I1, r1, q1⟩ => thn (hb pins s1 σ H1 _ I1 q1) fun u s2 ⟨y, H2, I2, r2, q2⟩ =>
  thn (ho pins s2 σ H2 x y v u _ I2 r1 r2 q2) fun c s3 ⟨z, H3, I3, r3, k, e, q3⟩ => ?_) hm
 subst e
 cases r3
 exact wpAny_truthy_bool ⟨H3, I3, q3⟩
def tChain (r r' : R2) (ta tb tc : TE) : TE := fun σ H Q => ta σ H fun x H1 => tb σ H1 fun y H2 => r x y H2 fun z H3 => ∃ k, z = .bl k /\
 (if k = true then tc σ H3 fun w' H4 => r' y w' H4 Q else Q (.bl false) H3)
theorem pe_chain {op op' : CmpOp} {r r' : R2} (ho : OpR X (compareOp op) r) (ho' : OpR X (compareOp op') r') (ha : PE X a ta) (hb : PE X b tb) (hc : PE X c tc)
  (hm : lastMarks [op, op'] [b, c] = false := by with_unfolding_all rfl) : PE X (.Compare a [op, op'] [b, c] pos) (tChain r r' ta tb tc) := by
 intro pins s σ H Q I h
 refine Compare_chain (thn (ha pins s σ H _ I h) fun v s1 ⟨x, H1, I1, r1, q1⟩ => chain_link (thn (hb pins s1 σ H1 _ I1 q1) fun u s2 ⟨y, H2, I2, r2, q2⟩ =>
  thn (ho pins s2 σ H2 x y v u _ I2 r1 r2 q2) fun d s3 ⟨z, H3, I3, r3, k, e, q3⟩ => ?_)) hm
 subst e
 cases r3
 refine wpAny_truthy_bool ?_
 cases k with
 | false => exact ite_ff ⟨.bl false, H3, I3, rfl, q3⟩
 | true => exact ite_tt (chain_last (thn (hc pins s3 σ H3 _ I3 q3) fun w' s4 ⟨z', H4, I4, r4, q4⟩ => ho' pins s4 σ H4 y z' u w' Q I4 r2 r4 q4))
def TruV (K : PySem.W.Frag) (x : V) (H : Hp) (k : Bool) : Prop :=
 match x with
 | .non => k = false
 | .bl b => k = b
 | .int i => k = (i != 0)
 | .str y => y.length <= sizeLine /\ k = ((y.length : Int) != 0)
 | .byt y => y.size <= sizeLine /\ k = ((y.size : Int) != 0)
 | .ref p => (∃ xs, SqL K H p xs /\ k = !xs.isEmpty) \/ (∃ xs, SqT K H p xs /\ k = !xs.isEmpty) \/ ∃ kvs, H p = some (.dK kvs) /\ k = !kvs.isEmpty
 | _ => False
theorem isEmpty_kv {κ : Type} {kvs : List (κ × V)} {vs : List (κ × Value)} (r : KV kvs vs) : (!vs.isEmpty) = !kvs.isEmpty := by
 cases r <;> rfl
theorem isEmpty_of {xs : List V} {its : List Value} (r : Vals xs its) : (!its.toArray.isEmpty) = !xs.isEmpty := by
 cases r <;> simp
theorem line63 : (sizeLine : Nat) < 2 ^ 63 := by rw [sizeLine_eq]; decide
theorem tru_ok : TruR X (fun x H Q => ∃ k, TruV X.K x H k /\ Q k H) := by
 intro pins s σ H x v Q I rx h
 obtain ⟨k, e, q⟩ := h
 have hl := line63
 have hs : sizeLine = 16777216 := sizeLine_eq
 cases x with
 | non =>
  cases rx
  have e' : k = false := e
  subst e'
  exact truthy_none ⟨H, I, q⟩
 | bl b =>
  cases rx
  have e' : k = b := e
  subst e'
  exact wpAny_truthy_bool ⟨H, I, q⟩
 | int i =>
  obtain ⟨t, rfl⟩ := rx
  have e' : k = (i != 0) := e
  subst e'
  exact PySem.P.truthy_int ⟨H, I, q⟩
 | str y =>
  obtain ⟨t, rfl⟩ := rx
  obtain ⟨hy, e'⟩ : y.length <= sizeLine /\ k = ((y.length : Int) != 0) := e
  subst e'
  exact PySem.P.truthy_str (by omega) ⟨H, I.tok _, q⟩
 | byt y =>
  obtain ⟨t, rfl⟩ := rx
  obtain ⟨hy, e'⟩ : y.size <= sizeLine /\ k = ((y.size : Int) != 0) := e
  subst e'
  exact PySem.W.truthy_bytes (by omega) ⟨H, I.tok _, q⟩
 | ref p =>
  cases rx
  have e' : (∃ xs, SqL X.K H p xs /\ k = !xs.isEmpty) \/ (∃ xs, SqT X.K H p xs /\ k = !xs.isEmpty) \/ ∃ kvs, H p = some (.dK kvs) /\ k = !kvs.isEmpty := e
  rcases e' with ⟨xs, hx, e'⟩ | ⟨xs, hx, e'⟩ | ⟨kvs, hx, e'⟩
  ·subst e'
   obtain ⟨its, r, pl, hz⟩ := I.list hx
   have hlen := r.length
   exact wpAny_truthy_list pl.isList (by simp only [List.size_toArray]; omega) ⟨H, I.tok _, by rw [isEmpty_of r]; exact q⟩
  ·subst e'
   obtain ⟨its, r, pl, hz⟩ := I.tuple hx
   have hlen := r.length
   exact truthy_tuple pl (by simp only [List.size_toArray]; omega) ⟨H, I.tok _, by rw [isEmpty_of r]; exact q⟩
  ·subst e'
   obtain ⟨hz, hS, vs, r, m⟩ : kvs.length <= sizeLine /\ (p == sysModules) = false /\ ∃ vs, KV kvs vs /\ s.heap.DictOf (mixKind X.prog X.w) p vs := I.hok p _ hx
   have hlen : kvs.length = vs.length := Paired.length r
   exact wpAny_truthy_dict hS m (by omega) ⟨H, I.tok _, by rw [isEmpty_kv r]; exact q⟩
 | _ => exact (show False from e).elim
theorem pt_truth (ha : PE X a ta) (he : ∀ whole, isTrue a X.env whole = (do let v <- whole; standAt a.pos; holding [v] (truthy v))) :
  PT X a (fun σ H Q => ta σ H fun x H' => ∃ k, TruV X.K x H' k /\ Q k H') := by
 intro pins s σ H Q I h
 exact isTrue_plain (thn (ha pins s σ H _ I h) fun v s1 ⟨x, H1, I1, r1, q1⟩ => tru_ok pins s1 σ H1 x v Q I1 r1 q1) (he _)
theorem op_add_str : OpR X (binaryOp .Add) (fun x y H Q => ∃ i j, x = .str i /\ y = .str j /\ i.length + j.length <= sizeLine /\ Q (.str (i ++ j)) H) := by
 intro pins s σ H x y v u Q I rx ry h
 obtain ⟨i, j, rfl, rfl, hz, q⟩ := h
 obtain ⟨t, rfl⟩ := rx
 obtain ⟨t', rfl⟩ := ry
 exact add_str (fun t' tk => ⟨.str (i ++ j), H, I.tok _, ⟨_, rfl⟩, q⟩) hz
theorem vals1 {x : V} {us : List Value} (r : Vals [x] us) : ∃ u, us = [u] /\ RelV x u := by
 cases r with
 | cons r1 r2 => cases r2; exact ⟨_, rfl, r1⟩
theorem vals2 {x y : V} {us : List Value} (r : Vals [x, y] us) : ∃ u w', us = [u, w'] /\ RelV x u /\ RelV y w' := by
 cases r with
 | cons r1 r2 =>
  cases r2 with
  | cons r3 r4 => cases r4; exact ⟨_, _, rfl, r1, r3⟩
end
end L2
namespace L2
open PySem PySem.Spec PyProof.Rows
structure ObjM (h : Heap) (x dx C : Addr) (mA : Str -> Option Value) : Prop where
 obj : h.get? x = some (PySem.W.instObj C dx)
 ns : h.Ns1 dx mA
 ne : dx ≠ x
theorem lookIn_ns {h : Heap} {dx : Addr} {mA : Str -> Option Value} (n : h.Ns1 dx mA) : ∃ od, h.get? dx = some od /\ ∀ name, PySem.W.lookIn name od = some (mA name) := by
 obtain ⟨o, es, ep, ho, hd, hk, _, hm⟩ := n
 refine ⟨o, ho, fun name => ?_⟩
 have e := hm name
 unfold nsFind findBy at e
 rw [<- Array.find?_toList] at e
 unfold PySem.W.lookIn
 rw [hd]
 dsimp only
 split
 ·rename_i y q
  rw [q] at e
  exact congrArg some e
 ·rename_i q
  rw [q] at e
  have a : es.toList.any (·.refKey) = false := by
   rw [List.any_eq_false]
   intro y hy
   obtain ⟨z, t, hkey⟩ := hk y (Array.mem_toList_iff.mp hy)
   simp [DictEntry.refKey, hkey]
  have a' : ¬ es.toList.any (·.refKey) = true := by rw [a]; exact Bool.false_ne_true
  rw [if_neg a']
  exact congrArg some e
theorem ObjM.look {h : Heap} {x dx C : Addr} {mA : Str -> Option Value} (I : ObjM h x dx C mA) : ∃ od, PySem.W.InstAt h x (PySem.W.instObj C dx) C (some od) /\ ∀ name, PySem.W.lookIn name od = some (mA name) :=
 let ⟨od, ho, hl⟩ := lookIn_ns I.ns
 ⟨od, ⟨I.obj, rfl, rfl, ho⟩, hl⟩
section
variable {prog : Program} {w : World} {A : Around} {E : Value -> Shared -> Prop} {s : Shared} {K : PySem.W.Frag} {x dx C f : Addr} {mA : Str -> Option Value} {name : Str} {v : Value}
end
theorem RelO.some_of {v : V} {o : Option Value} (r : RelO (some v) o) : ∃ u, o = some u /\ RelV v u := by
 cases o with
 | none => exact (show False from r).elim
 | some u => exact ⟨u, rfl, r⟩
section
variable {P : Program} {w : World} {H H' : Hp} {h h' : Heap} {a C dx : Addr} {fs fs' : List (Str × V)}
theorem ins_get (hok : HOk P w H h) (e : H a = some (.ins C dx fs)) : ∃ mA, ObjM h a dx C mA /\ (∀ f, RelO (fs.lookup f) (mA f)) /\ PySem.Within mA (fs.map (·.1)) /\ fs.length <= 1000 /\ H dx = some (.own a) := by
 obtain ⟨d, z, ne, ob, mA, n, r, q⟩ := (show ObjOk P w H h a (.ins C dx fs) from hok a _ e)
 exact ⟨mA, ⟨ob, n, ne⟩, r, q, z, d⟩
end
structure Cls (K : PySem.W.Frag) (C : Addr) : Prop where
 pg : PySem.W.plainGet K C Str.empty = true
 hd : PySem.W.hasDictIn K C = true
 po : PySem.W.plainOver K C = true
 sa : PySem.W.findIn K (.ref C) "__setattr__" = some (some (.builtin "object.__setattr__"))
theorem Cls.get {K : PySem.W.Frag} {C : Addr} (c : Cls K C) (f : Str) : PySem.W.plainGet K C f = true := c.pg
structure Con (K : PySem.W.Frag) (C : Addr) (f : Str) (v : V) (u : Value) : Prop where
 at_ : PySem.W.findIn K (.ref C) f = some (some u)
 rel : RelV v u
 get : PySem.W.specialIn K u "__get__" = some none
 cp : PySem.W.copiedNames.contains f = false
section
variable {X : Cx} {pins : List (Addr × Obj)} {σ : St} {H : Hp} {s : Shared} {a C dx : Addr} {fs : List (Str × V)} {f : Str} {v : V} {A : Around} {E : Value -> Shared -> Prop}
end
section
variable {X : Cx} {o e value : Expr} {f : Str} {pos pos' tpos : Pos} {ta tv : TE}
end
section
variable {X : Cx} {pins : List (Addr × Obj)} {σ : St} {H : Hp} {s : Shared} {A : Around} {E : Value -> Shared -> Prop} {Q : Value -> Shared -> Prop} {c : Value} {b : Bool}
inductive TyOf (K : PySem.W.Frag) (H : Hp) : V -> Value -> Prop where
 | non : TyOf K H .non (.type "NoneType")
 | bl (x : Bool) : TyOf K H (.bl x) (.type "bool")
 | int (i : Int) : TyOf K H (.int i) (.type "int")
 | str (x : Str) : TyOf K H (.str x) (.type "str")
 | flt (x : UInt64) : TyOf K H (.flt x) (.type "float")
 | lst {a : Addr} {xs : List V} (e : H a = some (.lst xs)) : TyOf K H (.ref a) (.type "list")
 | frz {a : Addr} {o : Obj} {xs : List V} (e : H a = some (.frz o (.lst xs))) : TyOf K H (.ref a) (.type "list")
 | tup {a : Addr} {xs : List V} (e : H a = some (.tup xs)) : TyOf K H (.ref a) (.type "tuple")
 | dK {a : Addr} {kvs : List (Key × V)} (e : H a = some (.dK kvs)) : TyOf K H (.ref a) (.type "dict")
 | dT {a : Addr} {kvs : List (List Key × V)} (e : H a = some (.dT kvs)) : TyOf K H (.ref a) (.type "dict")
 | ins {a C dx : Addr} {fs : List (Str × V)} (e : H a = some (.ins C dx fs)) (cl : Cls K C) (ha : PySem.W.findIn K (.ref C) "__class__" = some (some (.builtin "object.__class__")))
   (hn : PySem.W.specialIn K (.builtin "object.__class__") "__get__" = some (some (.builtin "getset_descriptor.__get__"))) (htk : PySem.W.takesIn K (.builtin "object.__class__") = some true)
   (hm : PySem.W.mroIn K C (.type "object") = some true) : TyOf K H (.ref a) (.ref C)
theorem isinst_ok {x : V} {u t : Value} (I : Inv X pins σ H s) (rx : RelV x u) (ty : TyOf X.K H x t) (e : PySem.W.kitOne X.K t c = some b) (h : ∀ tk, Q (.bool b) { s with toks := tk }) :
  wpAny (model X.prog X.w) A (call (.builtin "isinstance") [u, c]) Q E s := by
 cases ty with
 | non => cases (show u = Value.none from rx); exact PySem.W.kia_one PySem.W.kitx_none I.kIn True.intro e (fun z => nomatch z) h
 | bl y => cases (show u = Value.bool y from rx); exact PySem.W.kia_one PySem.W.kitx_bool I.kIn True.intro e (fun z => nomatch z) h
 | int i => obtain ⟨t, q⟩ := (show ∃ t, u = Value.int i t from rx); cases q; exact PySem.W.kia_one PySem.W.kitx_int I.kIn True.intro e (fun z => nomatch z) h
 | str y => obtain ⟨t, q⟩ := (show ∃ t, u = Value.str y t from rx); cases q; exact PySem.W.kia_one PySem.W.kitx_str I.kIn True.intro e (fun z => nomatch z) h
 | flt y => obtain ⟨t, q⟩ := (show ∃ t, u = Value.float y t from rx); cases q; exact PySem.W.kia_one PySem.W.kitx_float I.kIn True.intro e (fun z => nomatch z) h
 | @lst a xs ea =>
  cases (show u = Value.ref a from rx)
  obtain ⟨_, _, n, _, h1⟩ := (show ObjOk X.prog X.w H s.heap a (.lst xs) from I.hok a _ ea)
  exact PySem.W.kia_one PySem.W.kitx_list I.kIn ⟨_, h1, rfl⟩ e (fun z => nomatch z) h
 | @frz a ob xs ea =>
  cases (show u = Value.ref a from rx)
  obtain ⟨_, _, _, n, _, h1⟩ := (show ObjOk X.prog X.w H s.heap a (.frz ob (.lst xs)) from I.hok a _ ea)
  exact PySem.W.kia_one PySem.W.kitx_list I.kIn ⟨_, h1, rfl⟩ e (fun z => nomatch z) h
 | @tup a xs ea =>
  cases (show u = Value.ref a from rx)
  obtain ⟨_, _, _, p⟩ := (show ObjOk X.prog X.w H s.heap a (.tup xs) from I.hok a _ ea)
  obtain ⟨o, h1, h2, _⟩ := p
  exact PySem.W.kia_one PySem.W.kitx_tuple I.kIn ⟨o, h1, h2⟩ e (fun z => nomatch z) h
 | @dK a kvs ea =>
  cases (show u = Value.ref a from rx)
  obtain ⟨_, _, vs, _, p⟩ := (show ObjOk X.prog X.w H s.heap a (.dK kvs) from I.hok a _ ea)
  obtain ⟨o, es, ep, h1, h2, _⟩ := p
  exact PySem.W.kia_one PySem.W.kitx_dict I.kIn ⟨o, h1, h2.1⟩ e (fun z => nomatch z) h
 | @dT a kvs ea =>
  cases (show u = Value.ref a from rx)
  obtain ⟨_, _, xs, _, o, es, ep, h1, h2, _⟩ := (show ObjOk X.prog X.w H s.heap a (.dT kvs) from I.hok a _ ea)
  exact PySem.W.kia_one PySem.W.kitx_dict I.kIn ⟨o, h1, h2.1⟩ e (fun z => nomatch z) h
 | @ins a C dx fs ea cl ha hn htk hm =>
  cases (show u = Value.ref a from rx)
  obtain ⟨mA, O, _⟩ := ins_get I.hok ea
  obtain ⟨od, J, _⟩ := O.look
  exact PySem.W.kia_one (PySem.W.kitx_own (cl.get _) cl.hd ha hn htk hm) I.kIn J e (fun z => nomatch z) h
end
end L2
namespace L2
open PySem PySem.Spec PyProof.Rows
structure Room (k : Nat) (A : Around) : Prop where
 hd : A.handled = none
 dp : A.depth + 3 * k + 5 < recursionLimit
 un : A.units + 16 * k + 200 < cLine
theorem Room.mono {j k : Nat} {A : Around} (r : Room k A) (h : j <= k) : Room j A := ⟨r.hd, by have := r.dp; omega, by have := r.un; omega⟩
theorem Room.deeper {k : Nat} {A : Around} (r : Room (k + 1) A) (env : Env) : Room k (A.deeper env) :=
 ⟨r.hd, by have := r.dp; show A.depth + 1 + 3 * k + 5 < _; omega, by have := r.un; show A.units + 3 + 16 * k + 200 < _; omega⟩
theorem Room.depth {k : Nat} {A : Around} (r : Room k A) : A.depth < recursionLimit := by have := r.dp; omega
def tNil : TA := fun _ H Q => Q [] H
def tCons (ta : TE) (tr : TA) : TA := fun σ H Q => ta σ H fun x H1 => tr σ H1 fun xs H2 => Q (x :: xs) H2
section
variable {X : Cx} {e : Expr} {es : List Expr} {te : TE} {t : TA} {pos : Pos}
theorem pa_nil : PA X [] tNil := fun _ _ _ _ H Q I h => Calls.spliced_nil ⟨[], H, I, .nil, h⟩
theorem pa_cons (ha : PE X e te) (hr : PA X es t) (hs : starEach (e :: es) X.env = (false, eval e X.env) :: starEach es X.env := by rfl) : PA X (e :: es) (tCons te t) := by
 intro pos pins s σ H Q I h
 rw [hs]
 show wpAny _ _ (spliced ((false, eval e X.env) :: backTo pos (starEach es X.env))) _ _ s
 refine Calls.spliced_cons (thn (ha pins s σ H _ I h) fun u s1 ⟨x, H1, I1, r1, q1⟩ => ?_)
 exact thn (hr pos pins s1 σ H1 _ I1 q1) fun us s2 hq3 => by obtain ⟨xs, H2, I2, r2, q2⟩ := hq3; exact ⟨x :: xs, H2, I2, .cons r1 r2, q2⟩
def tTup (t : TA) : TE := fun σ H Q => t σ H fun xs H1 => xs.length <= sizeLine /\ ∀ p, H1 p = none -> Q (.ref p) (upd H1 p (.tup xs))
def tLst (t : TA) : TE := fun σ H Q => t σ H fun xs H1 => xs.length <= sizeLine /\ ∀ p, H1 p = none -> Q (.ref p) (upd H1 p (.lst xs))
theorem pe_tup {x1} (h : PA X es t) : PE X (.Tuple es x1 pos) (tTup t) := by
 intro pins s σ H Q I hq
 refine wpAny_Tuple_spliced (thn (h pos pins s σ H _ I hq) fun us s1 ⟨xs, H1, I1, r, z, q⟩ => ⟨by rw [<- r.length]; exact z, ?_⟩)
 have hf : H1 s1.heap.objs.size = none := I1.hok.fresh (Nat.le_refl _)
 refine ⟨.ref s1.heap.objs.size, upd H1 s1.heap.objs.size (.tup xs), I1.laid (t' := s1.toks) (fun b u e => Heap.get?_push_of_some _ e) (Nat.le_refl _) ?_, rfl, q _ hf⟩
 exact ⟨z, us, r, ⟨_, Heap.get?_push_size _ rfl, rfl, _, rfl⟩⟩
theorem pe_lst (h : PA X es t) : PE X (.List es pos) (tLst t) := by
 intro pins s σ H Q I hq
 refine wpAny_List_spliced (thn (h pos pins s σ H _ I hq) fun us s1 ⟨xs, H1, I1, r, z, q⟩ => ⟨by rw [<- r.length]; exact z, ?_⟩)
 have hf : H1 s1.heap.objs.size = none := I1.hok.fresh (Nat.le_refl _)
 refine ⟨.ref s1.heap.objs.size, upd H1 s1.heap.objs.size (.lst xs), I1.laid (t' := s1.toks) (fun b u e => Heap.get?_push_of_some _ e) (Nat.le_refl _) ?_, rfl, q _ hf⟩
 exact ⟨z, us, 0, r, Heap.get?_push_size _ rfl⟩
end
abbrev Sp := List V -> Hp -> VK -> XK -> Prop
abbrev CXT := List Env -> Hp -> Shared -> XK -> Value -> Shared -> Prop
structure Env0 (P : Program) (w : World) (K : PySem.W.Frag) (mg : Str -> Option Value) (base : Heap) (A : Around) (outer : List Env) (s : Shared) (H : Hp) : Prop where
 frames : A.frames = some outer
 mod : Mod K mg base
 bs : ∀ b o, base.get? b = some o -> s.heap.get? b = some o /\ H b = none
 bsz : base.objs.size <= s.heap.objs.size
 funs : s.heap.FunFrames base outer
 frf : ∀ b ∈ frs outer, H b = none
 hok : HOk P w H s.heap
 bare : AllBare s.gens
def CE (outer : List Env) (P : Program) (w : World) (H : Hp) (s : Shared) (Q : VK) (u : Value) (s' : Shared) : Prop :=
 ∃ v H', s'.os = s.os /\ AllBare s'.gens /\ Un (frs outer) [] H H' s.heap s'.heap /\ HOk P w H' s'.heap /\ RelV v u /\ Q v H'
def CR (CX : CXT) (outer : List Env) (P : Program) (w : World) (H : Hp) (s : Shared) (Q : VK) (E : XK) (r : Result) (s' : Shared) : Prop :=
 match r with
 | .ok (.ret u) => CE outer P w H s Q u s'
 | .ok _ => False
 | .error e => CX outer H s E e s'
structure FnOk (P : Program) (w : World) (K : PySem.W.Frag) (mg : Str -> Option Value) (base : Heap) (CX : CXT) (k : Nat) (f : Addr) (fd : FuncData) (ps : List Str) (sp : Sp) : Prop where
 len : ∀ vs H Q E, sp vs H Q E -> vs.length = ps.length
 run : ∀ (A : Around) (outer : List Env) (s : Shared) (H : Hp) (args : Args) (us : List Value) (vs : List V) (Q : VK) (E : XK), Room k A -> Env0 P w K mg base A outer s H -> BindsTo s fd args (ps.zip us) -> Vals vs us -> sp vs H Q E ->
  codeAny (model P w) A (.call (.ref f) args) (CR CX outer P w H s Q E) s
theorem FnOk.mono {P : Program} {w : World} {K : PySem.W.Frag} {mg : Str -> Option Value} {base : Heap} {CX : CXT} {j k : Nat} {f : Addr} {fd : FuncData} {ps : List Str} {sp : Sp} (F : FnOk P w K mg base CX j f fd ps sp) (h : j <= k) :
  FnOk P w K mg base CX k f fd ps sp := ⟨F.len, fun A outer s H args us vs Q E hr => F.run A outer s H args us vs Q E (hr.mono h)⟩
section
variable {X : Cx} {pins : List (Addr × Obj)} {σ : St} {H : Hp} {s s' : Shared}
theorem Inv.env0 (I : Inv X pins σ H s) : Env0 X.prog X.w X.K X.mg X.base X.A X.stack s H :=
 ⟨I.ok.frames, I.ok.mod, I.bs, Nat.le_trans I.ok.bsz I.sz, I.stack, I.stkFree, I.hok, I.bare⟩
theorem Inv.after {Q : VK} {u : Value} (I : Inv X pins σ H s) (h : CE X.stack X.prog X.w H s Q u s') : EP X pins σ Q u s' := by
 obtain ⟨v, H', os, bare, un, hok, r, q⟩ := h
 obtain ⟨hh, g, d, t, os'⟩ := s'
 obtain rfl : os' = s.os := os
 exact ⟨v, H', I.call (h' := hh) (g' := g) (d' := d) (t' := t) (ch := []) un hok bare (fun b z => absurd z (by simp)), r, q⟩
end
def tCall (sp : Sp) (dvs : List V) (E : XK) (t : TA) : TE := fun σ H Q => t σ H fun vs H1 => sp (vs ++ dvs) H1 Q E
def Binds (K : PySem.W.Frag) (fd : FuncData) (ps : List Str) (ds : List Value) : Prop :=
 ∀ (s : Shared) (us : List Value), K.In s.heap -> (us ++ ds).length = ps.length -> BindsTo s fd ⟨us, []⟩ (ps.zip (us ++ ds))
theorem Binds.all {K : PySem.W.Frag} {fd : FuncData} {ps : List Str} (h : ∀ us : List Value, us.length = ps.length -> bindArgs fd ⟨us, []⟩ = pure (ps.zip us)) : Binds K fd ps [] := fun s us _ hl => by
 rw [List.append_nil] at hl ⊢
 exact .of_eq (h us hl)
def Passes (CX : CXT) (X : Cx) (E : XK) : Prop := ∀ (pins : List (Addr × Obj)) (σ : St) (H : Hp) (s : Shared) (e : Value) (s' : Shared), Inv X pins σ H s -> CX X.stack H s E e s' -> X.xe e s'
section
variable {X : Cx} {CX : CXT} {k : Nat} {f C : Addr} {fd : FuncData} {ps : List Str} {sp : Sp} {dvs : List V} {ds : List Value} {E : XK} {x m : Str} {p pos apos : Pos} {e o : Expr} {es : List Expr} {ta : TE} {t : TA}
theorem run_fn {pins : List (Addr × Obj)} {σ : St} {H : Hp} {s : Shared} {Q : VK} {us : List Value} {vs : List V} (F : FnOk X.prog X.w X.K X.mg X.base CX k f fd ps sp) (hr : Room k X.A) (hb : Binds X.K fd ps ds) (hd : Vals dvs ds) (hx : Passes CX X E)
  (I : Inv X pins σ H s) (r : Vals vs us) (h : sp (vs ++ dvs) H Q E) : wpAny (model X.prog X.w) X.A (call (.ref f) us) (EP X pins σ Q) X.xe s := by
 have r2 : Vals (vs ++ dvs) (us ++ ds) := r.append hd
 have hl : (us ++ ds).length = ps.length := by rw [<- r2.length]; exact F.len _ _ _ _ h
 refine wpAny_call (codeAny_mono (F.run X.A X.stack s H ⟨us, []⟩ (us ++ ds) (vs ++ dvs) Q E hr I.env0 (hb s us I.kIn hl) r2 h) fun r s' hq => ?_)
 cases r with
 | error e => exact hx pins σ H s e s' I hq
 | ok fl =>
  cases fl with
  | ret u => exact I.after hq
  | next => exact False.elim hq
  | brk => exact False.elim hq
  | cont => exact False.elim hq
theorem pe_call (F : FnOk X.prog X.w X.K X.mg X.base CX k f fd ps sp) (hr : Room k X.A) (hg : Gl X x) (hm : X.mg x = some (.ref f)) (hk : PySem.W.keepIn X.K (.ref f) = true) (hb : Binds X.K fd ps ds) (hd : Vals dvs ds) (hx : Passes CX X E)
  (ha : PA X (e :: es) t) (hdb : (x == ("__debug__" : Str)) = false := by decide) (he : starEach (e :: es) X.env = (false, eval e X.env) :: starEach es X.env := by rfl) (hpl : (backTo pos (starEach es X.env)).any (·.1) = false := by rfl) :
  PE X (.Call (.Name x p) (e :: es) [] pos) (tCall sp dvs E t) := by
 intro pins s σ H Q I h
 refine wpAny_Call_Name_kw (ld_glob I hg hm ?_ hdb)
 refine PySem.W.callWith_K (h₀ := X.base) I.ok.mod.kin hk (thn (ha pos pins s σ H _ I h) fun us s1 ⟨vs, H1, I1, r, q⟩ => ⟨I1.kIn, ?_⟩) he hpl
 exact run_fn F hr hb hd hx I1 r q
end
section
variable {X : Cx} {CX : CXT} {k : Nat} {f C : Addr} {fd : FuncData} {ps ks : List Str} {sp : Sp} {E : XK} {x m : Str} {p pos apos kpos : Pos} {e o : Expr} {es : List Expr} {kws : List Keyword} {te ta : TE} {t tk : TA} {nm : Option Str}
structure KBinds (K : PySem.W.Frag) (fd : FuncData) (ps ks : List Str) (g : List Value -> List Value -> List Value) (gV : List V -> List V -> List V) : Prop where
 to : ∀ (s : Shared) (us ws : List Value), K.In s.heap -> (g us ws).length = ps.length -> BindsTo s fd ⟨us, ks.zip ws⟩ (ps.zip (g us ws))
 rel : ∀ {vs : List V} {us : List Value} {zs : List V} {ws : List Value}, Vals vs us -> Vals zs ws -> Vals (gV vs zs) (g us ws)
variable {g : List Value -> List Value -> List Value} {gV : List V -> List V -> List V}
end
structure FnScope (N P : List Str) (sc : Scope) : Prop where
 kind : sc.kind = .function
 co : sc.isCoroutine = false
 gen : sc.isGenerator = false
 nd : N.Nodup
 pre : N.take P.length = P
 par : ∀ x ∈ P, sc.names.lookup x = some .local \/ sc.names.lookup x = some .cell
 nofree : ∀ y ∈ sc.names, y.2 ≠ .free
theorem bindL_out {kindOf : Str -> Option NameKind} {x : Str} : ∀ {binds : List (Str × Value)} {m : Str -> Option Value}, (∀ v, (x, v) ∉ binds) -> bindL kindOf binds m x = m x
 | [], _, _ => rfl
 | (n, v) :: r, m, h => by
  unfold bindL
  rw [bindL_out fun w hw => h w (List.mem_cons_of_mem _ hw)]
  split
  ·have : x ≠ n := by rintro rfl; exact h v List.mem_cons_self
   simp [this]
  ·rfl
theorem bindC_out {kindOf : Str -> Option NameKind} {x : Str} : ∀ {binds : List (Str × Value)} {m : Str -> Option Value}, (∀ v, (x, v) ∉ binds) -> bindC kindOf binds m x = m x
 | [], _, _ => rfl
 | (n, v) :: r, m, h => by
  unfold bindC
  rw [bindC_out fun w hw => h w (List.mem_cons_of_mem _ hw)]
  split
  ·rfl
  ·have : x ≠ n := by rintro rfl; exact h v List.mem_cons_self
   simp [this]
theorem bindL_get {kindOf : Str -> Option NameKind} {x : Str} {v : Value} : ∀ {P : List Str} {vs : List Value} {i : Nat} {m : Str -> Option Value}, P.Nodup -> P[i]? = some x -> vs[i]? = some v -> kindOf x = some .local ->
  bindL kindOf (P.zip vs) m x = some v
 | [], _, _, _, _, h, _, _ => by simp at h
 | _ :: _, [], _, _, _, _, h, _ => by simp at h
 | p :: P, w :: vs, 0, m, nd, h1, h2, hk => by
  simp at h1 h2; subst h1; subst h2
  show bindL kindOf ((p, w) :: P.zip vs) m p = _
  unfold bindL
  rw [bindL_out fun v hv => (List.nodup_cons.mp nd).1 (List.of_mem_zip hv).1, if_pos hk]
  simp
 | p :: P, w :: vs, i + 1, m, nd, h1, h2, hk => by
  show bindL kindOf ((p, w) :: P.zip vs) m x = _
  unfold bindL
  exact bindL_get (i := i) (List.nodup_cons.mp nd).2 (by simpa using h1) (by simpa using h2) hk
theorem bindC_get {kindOf : Str -> Option NameKind} {x : Str} {v : Value} : ∀ {P : List Str} {vs : List Value} {i : Nat} {m : Str -> Option Value}, P.Nodup -> P[i]? = some x -> vs[i]? = some v -> kindOf x ≠ some .local ->
  bindC kindOf (P.zip vs) m x = some v
 | [], _, _, _, _, h, _, _ => by simp at h
 | _ :: _, [], _, _, _, _, h, _ => by simp at h
 | p :: P, w :: vs, 0, m, nd, h1, h2, hk => by
  simp at h1 h2; subst h1; subst h2
  show bindC kindOf ((p, w) :: P.zip vs) m p = _
  unfold bindC
  rw [bindC_out fun v hv => (List.nodup_cons.mp nd).1 (List.of_mem_zip hv).1, if_neg hk]
  simp
 | p :: P, w :: vs, i + 1, m, nd, h1, h2, hk => by
  show bindC kindOf ((p, w) :: P.zip vs) m x = _
  unfold bindC
  exact bindC_get (i := i) (List.nodup_cons.mp nd).2 (by simpa using h1) (by simpa using h2) hk
def start (N : List Str) (vs : List V) : St := vs.map some ++ List.replicate (N.length - vs.length) none
def cxOf (CX : CXT) (P : Program) (w : World) (K : PySem.W.Frag) (mg : Str -> Option Value) (base : Heap) (N : List Str) (qual : Str) (scope : Scope) (f : Addr) (cd : Value) (A : Around) (outer : List Env) (s : Shared) (H : Hp) (E : XK) : Cx where
 prog := P
 w := w
 K := K
 mg := mg
 base := base
 A := A.deeper (envOfC qual scope s.heap.objs.size f cd)
 N := N
 s₀ := s
 H₀ := H
 env := envOfC qual scope s.heap.objs.size f cd
 outer := outer
 stack := envOfC qual scope s.heap.objs.size f cd :: outer
 ex := []
 calm := true
 fn := fun _ => true
 pn := []
 xe := fun e s' => wpAny (model P w) (A.deeper (envOfC qual scope s.heap.objs.size f cd)) (leaving (envOfC qual scope s.heap.objs.size f cd) e) (fun _ s'' => CX outer H s E e s'') (fun e' s'' => CX outer H s E e' s'') s'
theorem cell_has {sc : Scope} {n : Nat} {x : Str} (h : sc.names.lookup x = some .cell) : ∃ c, (cellsFrom n sc.names []).lookup x = some c := by
 have q := PySem.W.cellsFrom_some sc.names n [] (.inl h)
 exact Option.isSome_iff_exists.mp q
theorem inv_start {CX : CXT} {P : Program} {w : World} {K : PySem.W.Frag} {mg : Str -> Option Value} {base : Heap} {N ps : List Str} {qual : Str} {scope : Scope} {f : Addr} {cd : Value} {A : Around} {outer : List Env} {s s1 : Shared} {H : Hp} {E : XK} {us : List Value} {vs : List V}
  (S : FnScope N ps scope) (hd : A.handled = none) (e0 : Env0 P w K mg base A outer s H) (hl : vs.length = ps.length) (r : Vals vs us)
  (x : InCallC s s.heap.objs.size (bindL (envOfC qual scope s.heap.objs.size f cd).kindOf (ps.zip us) fun _ => none) (cellsFrom (s.heap.objs.size + 1) scope.names []) (bindC (envOfC qual scope s.heap.objs.size f cd).kindOf (ps.zip us) fun _ => none) s1) :
  Inv (cxOf CX P w K mg base N qual scope f cd A outer s H E) [] (start N vs) H s1 := by
 have hpl : ps.length <= N.length := by have := congrArg List.length S.pre; rw [List.length_take] at this; omega
 obtain ⟨h1, tk, rfl, hk⟩ := x.done
 have noA : ∀ b : Addr, b ∉ (cxOf CX P w K mg base N qual scope f cd A outer s H E).ex := fun b z => absurd (show b ∈ ([] : List Addr) from z) (by simp)
 refine ⟨⟨e0.mod, S.kind, rfl, rfl, Nat.le_refl _, fun y z c h1 h2 => ?_, fun y hy => ?_, fun y c _ h => ?_, fun _ => hd, Around.frames_deeper e0.frames, .inr ⟨rfl, rfl⟩, fun b z => absurd z (noA b), e0.bs, e0.bsz, fun b _ _ => noA b, fun b z => absurd z (noA b), e0.funs, e0.frf⟩,
  rfl, e0.bare, Un.kept hk, ⟨_, x.toInCall.ns, fun i y v h1 h2 h3 => ?_⟩, fun y c h => ⟨_, x.cell y c h⟩, e0.hok.fresh (Nat.le_refl _), fun y c h => ?_, fun p hp => absurd (show p ∈ ([] : List (Addr × Obj)) from hp) (by simp), e0.hok.kept hk, ?_⟩
 ·exact name_of_addr x.apart (PySem.mem_of_lookup h1) (PySem.mem_of_lookup h2)
 ·have hy : scope.names.lookup y = some .cell \/ scope.names.lookup y = some .free := hy
  rcases hy with hy | hy
  ·exact cell_has hy
  ·exact absurd rfl (S.nofree _ (PySem.mem_of_lookup hy))
 ·exact Nat.le_of_lt (x.above y c (PySem.mem_of_lookup h))
 ·have hi : i < vs.length := by
   unfold start at h2
   by_cases hi : i < vs.length
   ·exact hi
   ·rw [List.getElem?_append_right (by simpa using hi)] at h2
    rw [List.getElem?_replicate] at h2
    split at h2 <;> cases h2
  have ha : vs[i]? = some v := by
   unfold start at h2
   rw [List.getElem?_append_left (by simpa using hi), List.getElem?_map] at h2
   cases e : vs[i]? with
   | none => rw [e] at h2; cases h2
   | some a => rw [e] at h2; cases h2; rfl
  obtain ⟨u, hu, rv⟩ := r.get ha
  have hp : ps[i]? = some y := by
   rw [<- S.pre, List.getElem?_take_of_lt (by omega)]; exact h1
  have ndP : ps.Nodup := by rw [<- S.pre]; exact S.nd.sublist (List.take_sublist _ _)
  refine ⟨u, rv, ?_⟩
  rcases S.par y (List.mem_of_getElem? hp) with k | k
  ·exact .inl ⟨k, bindL_get ndP hp hu k⟩
  ·obtain ⟨c, e⟩ := cell_has (n := s.heap.objs.size + 1) k
   refine .inr ⟨.inl k, c, e, ?_⟩
   have q := x.cell y c e
   rw [bindC_get ndP hp hu (by show scope.names.lookup y ≠ _; rw [k]; decide)] at q
   exact q
 ·exact e0.hok.fresh (Nat.le_of_lt (x.above y c (PySem.mem_of_lookup h)))
 ·unfold start
  show _ = N.length
  rw [List.length_append, List.length_map, List.length_replicate]
  omega
theorem fn_of {CX : CXT} {P : Program} {w : World} {K : PySem.W.Frag} {mg : Str -> Option Value} {base : Heap} {k : Nat} {f : Addr} {name qual : Str} {params : Arguments} {body : List Stmt} {scope : Scope} {dV kV doc pm cdv ct oc : Value} {an od : Option Addr}
  {osl : Array (Option Value)} {N ps : List Str} {sp : Sp} (lk : K.lookup f = some ⟨oc, od, .func (PySem.W.fnOf name qual params body scope dV kV doc pm an cdv ct), osl⟩) (hcd : PySem.W.codeIn K cdv qual = true) (S : FnScope N ps scope)
  (len : ∀ vs H Q E, sp vs H Q E -> vs.length = ps.length)
  (hbody : ∀ (A : Around) (outer : List Env) (s : Shared) (H : Hp) (vs : List V) (Q : VK) (E : XK), Room k (A.deeper (envOfC qual scope s.heap.objs.size f cdv)) -> sp vs H Q E ->
   ∃ t, PSs (cxOf CX P w K mg base N qual scope f cdv A outer s H E) body t /\ t { nx := fun _ H' => Q .non H', rt := Q } (start N vs) H) :
  FnOk P w K mg base CX (k + 1) f (PySem.W.fnOf name qual params body scope dV kV doc pm an cdv ct) ps sp := by
 refine ⟨len, fun A outer s H args us vs Q E hr e0 hb r hsp => ?_⟩
 have hl := len _ _ _ _ hsp
 have KX : K.In s.heap := e0.mod.kin.keeps fun b o e => (e0.bs b o e).1
 have lim : s.heap.NoLimit := e0.mod.nolimit.keeps fun b o e => (e0.bs b o e).1
 have hkind : ∀ y ∈ ps.zip us, scope.names.lookup y.1 = some .local \/ (scope.names.lookup y.1 = some .cell /\ ((cellsFrom (s.heap.objs.size + 1) scope.names []).lookup y.1).isSome = true) := fun ⟨n, v⟩ hy => by
  rcases S.par n (List.of_mem_zip hy).1 with q | q
  ·exact .inl q
  ·exact .inr ⟨q, PySem.W.cellsFrom_some _ _ _ (.inl q)⟩
 refine codeAny_call_function hr.depth (KX _ _ lk) rfl S.co S.gen rfl (PySem.W.codeRec_of KX hcd) (hb _ _ _ _ ?_)
 refine wpAny_newFunctionEnv_cells S.kind hkind fun env he s1 x => ?_
 subst he
 refine ⟨lim.keeps x.toInCall.keep, codeAny_func ?_⟩
 obtain ⟨t, ht, hq⟩ := hbody A outer s H vs Q E (hr.deeper _) hsp
 have I : Inv (cxOf CX P w K mg base N qual scope f cdv A outer s H E) [] (start N vs) H s1 := inv_start S hr.hd e0 hl r x
 refine wpAny_mono (ht [] s1 (start N vs) H _ I hq) (fun fl s' hs => ?_) fun e s' hs => hs
 have fin : ∀ {σ' : St} {H' : Hp} {v : V} {u : Value}, Inv (cxOf CX P w K mg base N qual scope f cdv A outer s H E) [] σ' H' s' -> RelV v u -> Q v H' -> CE outer P w H s Q u s' :=
  fun {σ' H' v u} J rv q => ⟨v, H', J.os, J.bare, J.base, J.hok, rv, q⟩
 cases fl with
 | ret u =>
  obtain ⟨v, σ', H', J, rv, q⟩ := hs
  exact fin J rv q
 | next =>
  obtain ⟨σ', H', J, q⟩ := hs
  exact fin (v := V.non) (u := Value.none) J rfl q
 | brk =>
  obtain ⟨_, _, _, q⟩ := hs
  exact False.elim q
 | cont =>
  obtain ⟨_, _, _, q⟩ := hs
  exact False.elim q
end L2
namespace L2
open PySem PySem.Spec PyProof.Rows
section
variable {X : Cx} {x : Str} {p pos : Pos} {e : Expr} {es : List Expr} {t : TA} {id T : String} {r : List V -> Hp -> VK -> Prop}
def tCB (r : List V -> Hp -> VK -> Prop) (t : TA) : TE := fun σ H Q => t σ H fun vs H1 => r vs H1 Q
theorem pe_callB (hc : CallR X (.builtin id) r) (hg : Gl X x) (hm : X.mg x = none) (hv : bootBuiltins x = some (.builtin id)) (ha : PA X (e :: es) t) (hn : x ≠ "__name__" := by decide) (hdb : (x == ("__debug__" : Str)) = false := by decide)
  (he : starEach (e :: es) X.env = (false, eval e X.env) :: starEach es X.env := by rfl) (hpl : (backTo pos (starEach es X.env)).any (·.1) = false := by rfl) : PE X (.Call (.Name x p) (e :: es) [] pos) (tCB r t) := by
 intro pins s σ H Q I h
 refine wpAny_Call_Name_kw (ld_blt I hg hm hv ?_ hn hdb)
 exact PyProof.Rows.callWith_builtin1 (thn (ha pos pins s σ H _ I h) fun us s1 ⟨vs, H1, I1, r1, q1⟩ => hc pins s1 σ H1 vs us Q I1 r1 q1) he hpl
theorem pe_callTy (hc : CallR X (.type T) r) (hg : Gl X x) (hm : X.mg x = none) (hv : bootBuiltins x = some (.type T)) (ha : PA X (e :: es) t) (hn : x ≠ "__name__" := by decide) (hdb : (x == ("__debug__" : Str)) = false := by decide)
  (he : starEach (e :: es) X.env = (false, eval e X.env) :: starEach es X.env := by rfl) (hpl : (backTo pos (starEach es X.env)).any (·.1) = false := by rfl) : PE X (.Call (.Name x p) (e :: es) [] pos) (tCB r t) := by
 intro pins s σ H Q I h
 refine wpAny_Call_Name_kw (ld_blt I hg hm hv ?_ hn hdb)
 exact PyProof.Rows.callWith_type1 (thn (ha pos pins s σ H _ I h) fun us s1 ⟨vs, H1, I1, r1, q1⟩ => hc pins s1 σ H1 vs us Q I1 r1 q1) he hpl
end
end L2
namespace HT
open PySem PyProof.Rows
section
open PySem.SeqAt
open PySem.AutoSeq1 (wpAny_loadPart')
open PySem.MeetsSeq PySem.MeetsSeq2 PySem.MeetsSeq3
end
section
variable {prog : Program} {w : World} {A : Around} {E : Value -> Shared -> Prop} {s : Shared}
theorem cat_tup {t b : Addr} {vs ws : List Value} {Q : Value -> Shared -> Prop} (ht : IsTup s.heap t vs.toArray) (hb : IsTup s.heap b ws.toArray) (hv : vs ≠ [])
  (h1 : ws = [] -> Q (.ref t) s) (h2 : ws ≠ [] -> Q (.ref s.heap.objs.size) { s with heap := s.heap.push { cls := .type "tuple", data := .seq (vs ++ ws).toArray } })
  (hsz : vs.length + ws.length <= sizeLine) : wpAny (model prog w) A (binaryOp .Add (.ref t) (.ref b)) Q E s := by
 obtain ⟨⟨cls, dd, data, sl⟩, ho, hc, n, hd⟩ := id ht
 obtain ⟨⟨cls2, dd2, data2, sl2⟩, ho2, hc2, n2, hd2⟩ := id hb
 simp only at hc hd hc2 hd2
 subst hc hd hc2 hd2
 have e : vs.toArray ++ ws.toArray = (vs ++ ws).toArray := by simp
 by_cases hw : ws = []
 ·exact concat_meets ⟨_, ho, rfl⟩ ⟨_, ho2, rfl⟩ noFill_tuple_add seq_tuple_add PySem.F.slot_tuple_add PySem.F.entry_tuple_add (PySem.F.args_tuple_add_2 _ _)
   (tuple_addW1 t b vs.toArray ws.toArray n n2 dd dd2 sl sl2 (by simpa using hv) (by simp [hw])) ⟨ho, ho2, h1 hw⟩
 ·refine concat_meets ⟨_, ho, rfl⟩ ⟨_, ho2, rfl⟩ noFill_tuple_add seq_tuple_add PySem.F.slot_tuple_add PySem.F.entry_tuple_add (PySem.F.args_tuple_add_2 _ _)
   (tuple_addW2 t b vs.toArray ws.toArray n n2 dd dd2 sl sl2 (by simpa using hv) (by simpa using hw) (by rw [List.size_toArray, List.size_toArray]; exact hsz)) ⟨ho, ho2, ?_⟩
  rw [e]
  exact h2 hw
def sIx (n d : Nat) : Option Int -> Nat
 | none => d
 | some v => if v < 0 then (v + (n : Int)).toNat else min v.toNat n
theorem sIx_le (n d : Nat) (hd : d <= n) (o : Option Int) : sIx n d o <= n := by
 cases o with
 | none => exact hd
 | some v =>
  show (if v < 0 then (v + (n : Int)).toNat else min v.toNat n) <= n
  by_cases hv : v < 0
  ·rw [if_pos hv]; omega
  ·rw [if_neg hv]; exact Nat.min_le_right _ _
theorem clip_eq (v : Int) (n d : Nat) : (if v < 0 then max (v + (n : Int)) 0 else min v (n : Int)) = ((sIx n d (some v) : Nat) : Int) := by
 show (if v < 0 then max (v + (n : Int)) 0 else min v (n : Int)) = (((if v < 0 then (v + (n : Int)).toNat else min v.toNat n) : Nat) : Int)
 by_cases hv : v < 0
 ·simp only [if_pos hv]; omega
 ·simp only [if_neg hv]; omega
theorem adjust_gen (lo hi : Option Int) (n : Nat) : Builtin.Slice.sliceAdjust lo hi 1 (n : Int) = (((sIx n 0 lo : Nat) : Int), ((sIx n n hi : Nat) : Int)) := by
 have h1 : ¬ ((1 : Int) < 0) := by omega
 unfold Builtin.Slice.sliceAdjust
 simp only [h1, if_false]
 refine Prod.ext ?_ ?_
 ·cases lo with
  | none => rfl
  | some v => exact clip_eq v n 0
 ·cases hi with
  | none => rfl
  | some v => exact clip_eq v n n
theorem places_gen (i j : Nat) : Builtin.Slice.slicePlaces (i : Int) (j : Int) 1 = j - i := by
 unfold Builtin.Slice.slicePlaces
 have h1 : (1 : Int) > 0 := by omega
 simp only [h1, if_true, Int.ediv_one]
 split <;> omega
theorem slicePart_ {v : Value} {o : Option Int} {Q : Option Int -> Shared -> Prop} (p : IsPart v o) (h : Q o s) : wpAny (model prog w) A (Builtin.Slice.slicePartIndex v) Q E s := by
 cases p with
 | none => exact slicePart_none h
 | int i t => exact slicePart_int h
theorem sliceApplied_gen {sl : Addr} {vl vu : Value} {lo hi : Option Int} {n : Nat} {Q : Int × Int × Nat -> Shared -> Prop} (hs : s.heap.IsSliceOf sl vl vu .none) (pl : IsPart vl lo) (pu : IsPart vu hi)
  (h : Q (((sIx n 0 lo : Nat) : Int), 1, sIx n n hi - sIx n 0 lo) s) : wpAny (model prog w) A (Builtin.Slice.sliceApplied (.ref sl) (pure (n : Int))) Q E s := by
 obtain ⟨os, hos, hcs, hds⟩ := id hs
 unfold Builtin.Slice.sliceApplied Builtin.Slice.sliceFields
 refine wpAny_bind (wpAny_bind (wpAny_field hos hds (x := vl) rfl (wpAny_bind (wpAny_field hos hds (x := vu) rfl (wpAny_bind (wpAny_field hos hds (x := .none) rfl (wpAny_pure ?_)))))))
 refine wpAny_bind (slicePart_none ?_)
 show wpAny _ _ (if ((1 : Int) == 0) = true then _ else _) _ _ s
 rw [if_neg (by decide)]
 refine wpAny_bind (slicePart_ pl (wpAny_bind (slicePart_ pu (wpAny_bind (wpAny_pure ?_)))))
 show wpAny _ _ (match Builtin.Slice.sliceAdjust lo hi 1 (n : Int) with | (lo, hi) => pure (lo, (1 : Int), Builtin.Slice.slicePlaces lo hi 1)) _ _ s
 rw [adjust_gen lo hi n]
 show wpAny _ _ (pure (((sIx n 0 lo : Nat) : Int), (1 : Int), Builtin.Slice.slicePlaces ((sIx n 0 lo : Nat) : Int) ((sIx n n hi : Nat) : Int) 1)) _ _ s
 rw [places_gen]
 exact wpAny_pure h
theorem pick_gen (xs : Array Value) (i k : Nat) : ((List.range k).filterMap fun (m : Nat) => xs[((i : Int) + (m : Int) * 1).toNat]?).toArray = ((xs.toList.drop i).take k).toArray := by
 have e : (fun (m : Nat) => xs[((i : Int) + (m : Int) * 1).toNat]?) = fun m => xs[i + m]? := by
  funext m
  have : ((i : Int) + (m : Int) * 1).toNat = i + m := by omega
  rw [this]
 rw [e]
 have := pick_run xs i k
 rw [List.filterMap_map] at this
 have e2 : ((fun x => xs[x]?) ∘ fun x => i + x) = fun m => xs[i + m]? := rfl
 rw [e2] at this
 rw [this]
theorem getItem_tuple_cut {t sl : Addr} {items : Array Value} {vl vu : Value} {lo hi : Option Int} {Q : Value -> Shared -> Prop} (ht : IsTup s.heap t items) (hs : s.heap.IsSliceOf sl vl vu .none) (pl : IsPart vl lo) (pu : IsPart vu hi)
  (hw : ¬ (sIx items.size 0 lo = 0 /\ sIx items.size items.size hi = items.size))
  (h : Q (.ref s.heap.objs.size) { s with heap := s.heap.push { cls := .type "tuple", data := .seq ((items.toList.drop (sIx items.size 0 lo)).take (sIx items.size items.size hi - sIx items.size 0 lo)).toArray } })
  (hsz : items.size <= sizeLine) : wpAny (model prog w) A (getItem (.ref t) (.ref sl)) Q E s := by
 have htake : sizeOk (.seq ((items.toList.drop (sIx items.size 0 lo)).take (sIx items.size items.size hi - sIx items.size 0 lo)).toArray) := by
  show ((items.toList.drop (sIx items.size 0 lo)).take (sIx items.size items.size hi - sIx items.size 0 lo)).toArray.size <= sizeLine
  rw [List.size_toArray, List.length_take, List.length_drop, Array.length_toList]
  omega
 have hj : sIx items.size items.size hi <= items.size := sIx_le _ _ (Nat.le_refl _) hi
 obtain ⟨os, hos, hcs, hds⟩ := id hs
 have hTs : s.TypeIs (.ref sl) "slice" := ⟨os, hos, hcs⟩
 unfold getItem
 try with_reducible refine wpAny_holding ?_
 first | refine wpAny_bind (wpAny_pure ?_) | skip
 refine wpAny_bind (wpAny_sequenceKey ht.typeIs (by decide) ?_)
 refine wpAny_bind (wpAny_callSpecial?_slot (name := Str.ofString "__getitem__") ht.typeIs PyProof.Rows.slot_tuple_getitem
  (wpAny_call_entry PyProof.Rows.slot_tuple_getitem ht.typeIs entry_tuple_getitem ?_ (args_tuple_getitem _ _)))
 show wpAny _ _ (Builtin.Tuple.tupleItemsOf (.ref t) >>= _) _ _ s
 refine wpAny_bind (tupleItemsOf_ ht ?_)
 refine wpAny_bind (wpAny_typeOf hTs ?_)
 rw [if_pos (by decide)]
 refine wpAny_bind (sliceApplied_gen hs pl pu ?_)
 have hno : ¬ ((((sIx items.size 0 lo : Nat) : Int) == 0 && (1 : Int) == 1 && (sIx items.size items.size hi - sIx items.size 0 lo) == items.size) = true) := by
  intro q
  rw [Bool.and_eq_true, Bool.and_eq_true] at q
  have q1 : ((sIx items.size 0 lo : Nat) : Int) = 0 := eq_of_beq q.1.1
  have q2 : sIx items.size items.size hi - sIx items.size 0 lo = items.size := eq_of_beq q.2
  exact hw ⟨by omega, by omega⟩
 show wpAny _ _ (if (((sIx items.size 0 lo : Nat) : Int) == 0 && (1 : Int) == 1 && (sIx items.size items.size hi - sIx items.size 0 lo) == items.size) = true then _ else _) _ _ s
 rw [if_neg hno, pick_gen]
 first
  | exact wpAny_bind (m := Builtin.Tuple.tupleExact _) (wpAny_newObj_type (wpAny_pure ⟨_, rfl, wpAny_pure h⟩) htake)
  | exact wpAny_bind (m := Builtin.Tuple.tupleExact _) (wpAny_newObj_type (wpAny_bind (wpAny_pure (wpAny_pure ⟨_, rfl, wpAny_pure h⟩))) htake)
  | exact wpAny_bind (wpAny_bind (m := Builtin.Tuple.tupleExact _) (wpAny_newObj_type (wpAny_pure (wpAny_pure ⟨_, rfl, wpAny_pure h⟩)) htake))
  | exact wpAny_bind (wpAny_bind (m := Builtin.Tuple.tupleExact _) (wpAny_newObj_type (wpAny_pure ⟨_, rfl, wpAny_pure h⟩) htake))
end
end HT
namespace L2
open PySem PySem.Spec PyProof.Rows
abbrev TO := St -> Hp -> (Option Int -> Hp -> Prop) -> Prop
def PO (X : Cx) (e : Option Expr) (t : TO) : Prop :=
 ∀ (pins : List (Addr × Obj)) (s : Shared) (σ : St) (H : Hp) (Q : Option Int -> Hp -> Prop), Inv X pins σ H s -> t σ H Q ->
  wpAny (model X.prog X.w) X.A (evalPart e X.env) (fun u s' => ∃ o H', Inv X pins σ H' s' /\ IsPart u o /\ Q o H') X.xe s
def tNoPart : TO := fun _ H Q => Q none H
def tPart (t : TE) : TO := fun σ H Q => t σ H fun x H1 => ∃ i, x = .int i /\ Q (some i) H1
theorem intsAre_of {ns : List Int} : ∀ {us : List Value}, Vals (ns.map V.int) us -> IntsAre us ns := by
 induction ns with
 | nil => intro us r; rw [List.map_nil] at r; cases r; exact .nil
 | cons n ns ih =>
  intro us r
  rw [List.map_cons] at r
  cases r with
  | cons r1 r2 =>
   obtain ⟨t, e⟩ := r1
   subst e
   exact .cons n t (ih r2)
section
variable {X : Cx} {e : Expr} {te : TE} {lo hi : Option Expr} {tl th : TO} {pos p2 : Pos}
theorem po_none : PO X none tNoPart := by
 intro pins s σ H Q I h
 rw [evalPart_none]
 exact wpAny_pure ⟨none, H, I, .none, h⟩
theorem po_some (h : PE X e te) : PO X (some e) (tPart te) := by
 intro pins s σ H Q I hw
 rw [evalPart_some]
 refine thn (h pins s σ H _ I hw) fun u s1 hq4 => ?_
 obtain ⟨x, H1, I1, r1, q1⟩ := hq4
 obtain ⟨i, rfl, q⟩ := q1
 obtain ⟨t, rfl⟩ := r1
 exact ⟨some i, H1, I1, .int i t, q⟩
def SlR (X : Cx) (r : V -> Option Int -> Option Int -> Hp -> VK -> Prop) : Prop :=
 ∀ (pins : List (Addr × Obj)) (s : Shared) (σ : St) (H : Hp) (x : V) (v vl vu : Value) (lo hi : Option Int) (sl : Addr) (Q : VK), Inv X pins σ H s -> RelV x v -> s.heap.IsSliceOf sl vl vu .none -> IsPart vl lo -> IsPart vu hi -> r x lo hi H Q ->
  ∃ T id, typeLookup (.type T) "__getitem__" = pure (some (.builtin id)) /\ s.TypeIs v T /\ wpAny (model X.prog X.w) X.A (getItem v (.ref sl)) (EP X pins σ Q) X.xe s
theorem SlR.or {r r' : V -> Option Int -> Option Int -> Hp -> VK -> Prop} (h : SlR X r) (h' : SlR X r') : SlR X (fun x lo hi H Q => r x lo hi H Q \/ r' x lo hi H Q) := by
 intro pins s σ H x v vl vu lo hi sl Q I rx hs pl pu q
 rcases q with q | q
 ·exact h pins s σ H x v vl vu lo hi sl Q I rx hs pl pu q
 ·exact h' pins s σ H x v vl vu lo hi sl Q I rx hs pl pu q
def tSl (r : V -> Option Int -> Option Int -> Hp -> VK -> Prop) (te : TE) (tl th : TO) : TE := fun σ H Q => te σ H fun x H1 => tl σ H1 fun l H2 => th σ H2 fun u H3 => r x l u H3 Q
theorem pe_slice {r : V -> Option Int -> Option Int -> Hp -> VK -> Prop} (hr : SlR X r) (he : PE X e te) (hl : PO X lo tl) (hu : PO X hi th) : PE X (.Subscript e (.Slice lo hi none p2) pos) (tSl r te tl th) := by
 intro pins s σ H Q I h
 refine Subscript_ (thn (he pins s σ H _ I h) fun v s1 ⟨x, H1, I1, r1, q1⟩ => ?_)
 refine wpAny_Slice (thn (hl pins s1 σ H1 _ I1 q1) fun vl s2 ⟨l, H2, I2, pl, q2⟩ => thn (hu pins s2 σ H2 _ I2 q2) fun vu s3 ⟨u, H3, I3, pu, q3⟩ => ?_)
 rw [evalPart_none]
 refine wpAny_pure ?_
 have I4 : Inv X pins σ H3 { s3 with heap := s3.heap.push { cls := .type "slice", data := .fields #[vl, vu, .none] } } := I3.kept (t' := s3.toks) fun b ob q => Heap.get?_push_of_some _ q
 obtain ⟨T, id, hT, ht, hg⟩ := hr pins { s3 with heap := s3.heap.push { cls := .type "slice", data := .fields #[vl, vu, .none] } } σ H3 x v vl vu l u s3.heap.objs.size Q I4 r1 (Heap.IsSliceOf.new ..) pl pu q3
 show wpAny (model X.prog X.w) X.A (subscriptTail e (.Slice lo hi none p2) v (.ref s3.heap.objs.size)) (EP X pins σ Q) X.xe { s3 with heap := s3.heap.push { cls := .type "slice", data := .fields #[vl, vu, .none] } }
 exact tail_any (ops := [.ref s3.heap.objs.size, v]) ht hT hg (by with_unfolding_all rfl)
def cutV (xs : List V) (lo hi : Option Int) : List V := (xs.drop (HT.sIx xs.length 0 lo)).take (HT.sIx xs.length xs.length hi - HT.sIx xs.length 0 lo)
theorem cutV_length (xs : List V) (lo hi : Option Int) : (cutV xs lo hi).length <= xs.length := by
 unfold cutV
 rw [List.length_take, List.length_drop]
 omega
def rSlT (K : PySem.W.Frag) : V -> Option Int -> Option Int -> Hp -> VK -> Prop := fun x lo hi H Q => ∃ a xs, x = .ref a /\ SqT K H a xs /\
 ¬ (HT.sIx xs.length 0 lo = 0 /\ HT.sIx xs.length xs.length hi = xs.length) /\ ∀ p, H p = none -> Q (.ref p) (upd H p (.tup (cutV xs lo hi)))
theorem sl_tup : SlR X (rSlT X.K) := by
 intro pins s σ H x v vl vu lo hi sl Q I rx hs pl pu h
 obtain ⟨a, xs, rfl, hx, hw, q⟩ := h
 cases rx
 obtain ⟨its, r, ht, hz⟩ := I.tuple hx
 have hlen : its.toArray.size = xs.length := by rw [List.size_toArray]; exact r.length.symm
 refine ⟨"tuple", _, PyProof.Rows.slot_tuple_getitem.lookup, ht.typeIs, ?_⟩
 refine HT.getItem_tuple_cut ht hs pl pu (by rw [hlen]; exact hw) ?_ (by rw [hlen]; exact hz)
 rw [hlen]
 refine ⟨.ref s.heap.objs.size, _, I.laid (t' := s.toks) (o := .tup (cutV xs lo hi)) (fun b ob q => Heap.get?_push_of_some _ q) (Nat.le_refl _) ?_, rfl, q _ (I.hok.fresh (Nat.le_refl _))⟩
 exact ⟨Nat.le_trans (cutV_length xs lo hi) hz, _, (r.drop (HT.sIx xs.length 0 lo)).take (HT.sIx xs.length xs.length hi - HT.sIx xs.length 0 lo), IsTup.new _ _⟩
def rCatT (K : PySem.W.Frag) : R2 := fun x y H Q => ∃ a b xs ys, x = .ref a /\ y = .ref b /\ SqT K H a xs /\ SqT K H b ys /\ xs ≠ [] /\ xs.length + ys.length <= sizeLine /\
 (ys = [] -> Q (.ref a) H) /\ (ys ≠ [] -> ∀ p, H p = none -> Q (.ref p) (upd H p (.tup (xs ++ ys))))
theorem Vals.nil_iff {xs : List V} {us : List Value} (r : Vals xs us) : us = [] ↔ xs = [] := by
 cases r with
 | nil => simp
 | cons _ _ => simp
theorem op_catT : OpR X (binaryOp .Add) (rCatT X.K) := by
 intro pins s σ H x y v u Q I rx ry h
 obtain ⟨a, b, xs, ys, rfl, rfl, ha, hb, hx, hz, q1, q2⟩ := h
 cases rx
 cases ry
 obtain ⟨its, r1, p1, _⟩ := I.tuple ha
 obtain ⟨its2, r2, p2, _⟩ := I.tuple hb
 refine HT.cat_tup p1 p2 (fun z => hx (r1.nil_iff.mp z)) (fun z => ⟨.ref a, H, I, rfl, q1 (r2.nil_iff.mp z)⟩) (fun z => ?_) (by rw [<- r1.length, <- r2.length]; exact hz)
 refine ⟨.ref s.heap.objs.size, _, I.laid (t' := s.toks) (o := .tup (xs ++ ys)) (fun b ob q => Heap.get?_push_of_some _ q) (Nat.le_refl _) ?_, rfl, q2 (fun w => z (r2.nil_iff.mpr w)) _ (I.hok.fresh (Nat.le_refl _))⟩
 exact ⟨by rw [List.length_append]; exact hz, _, r1.append r2, IsTup.new _ _⟩
end
end L2
namespace L2
open PySem PySem.Spec PyProof.Rows
def ixN (n : Nat) (i : Int) : Option Nat := if 0 <= i then (if i < n then some i.toNat else none) else if -(n : Int) <= i then some (i + n).toNat else none
def atI {α : Type} (xs : List α) (i : Int) : Option α := (ixN xs.length i).bind fun j => xs[j]?
theorem ixN_seq {n : Nat} {i : Int} {j : Nat} (h : ixN n i = some j) : seqIndex? i n = some j /\ j < n /\ -(n : Int) <= i /\ i < n := by
 unfold ixN at h
 by_cases h0 : 0 <= i
 ·rw [if_pos h0] at h
  by_cases h1 : i < n
  ·rw [if_pos h1] at h
   have e : i.toNat = j := Option.some.inj h
   exact ⟨by rw [seqIndex_of h0 h1, e], by omega, by omega, h1⟩
  ·rw [if_neg h1] at h; cases h
 ·rw [if_neg h0] at h
  by_cases h1 : -(n : Int) <= i
  ·rw [if_pos h1] at h
   have e : (i + n).toNat = j := Option.some.inj h
   exact ⟨by rw [seqIndex_neg (by omega) h1, e], by omega, h1, by omega⟩
  ·rw [if_neg h1] at h; cases h
theorem atI_get {α : Type} {xs : List α} {i : Int} {v : α} (h : atI xs i = some v) : ∃ j, seqIndex? i xs.length = some j /\ xs[j]? = some v /\ j < xs.length /\ -(xs.length : Int) <= i /\ i < xs.length := by
 unfold atI at h
 cases e : ixN xs.length i with
 | none => rw [e] at h; cases h
 | some j =>
  rw [e] at h
  obtain ⟨h1, h2, h3, h4⟩ := ixN_seq e
  exact ⟨j, h1, h, h2, h3, h4⟩
def PlainIx (b : Expr) : Prop := ∀ o i, subscripted b false o i = operate [o, i] (getItem o i)
def IxR (X : Cx) (r : R2) : Prop :=
 ∀ (value slice : Expr) (pins : List (Addr × Obj)) (s : Shared) (σ : St) (H : Hp) (x y : V) (v u : Value) (Q : VK), Inv X pins σ H s -> RelV x v -> RelV y u -> r x y H Q ->
  subscripted slice false v u = operate [v, u] (getItem v u) -> wpAny (model X.prog X.w) X.A (subscriptTail value slice v u) (EP X pins σ Q) X.xe s
def MtR (X : Cx) (id : String) (r : V -> List V -> Hp -> VK -> Prop) : Prop :=
 ∀ (pins : List (Addr × Obj)) (s : Shared) (σ : St) (H : Hp) (x : V) (xs : List V) (v : Value) (us : List Value) (Q : VK), Inv X pins σ H s -> RelV x v -> Vals xs us -> r x xs H Q ->
  wpAny (model X.prog X.w) X.A (call (.builtin id) (v :: us)) (EP X pins σ Q) X.xe s
section
variable {X : Cx} {a b : Expr} {ta tb : TE} {pos : Pos}
theorem IxR.or {r r' : R2} (h : IxR X r) (h' : IxR X r') : IxR X (fun x y H Q => r x y H Q \/ r' x y H Q) := by
 intro value slice pins s σ H x y v u Q I rx ry q hs
 rcases q with q | q
 ·exact h value slice pins s σ H x y v u Q I rx ry q hs
 ·exact h' value slice pins s σ H x y v u Q I rx ry q hs
theorem pe_ix {r : R2} (hr : IxR X r) (ha : PE X a ta) (hb : PE X b tb) (hs : PlainIx b) : PE X (.Subscript a b pos) (tOp r ta tb) := by
 intro pins s σ H Q I h
 exact Subscript_ (binT ha hb I h fun v u s2 x y H2 I2 rx ry q => hr a b pins s2 σ H2 x y v u Q I2 rx ry q (hs _ _))
def rIxL (K : PySem.W.Frag) : R2 := fun x y H Q => ∃ p xs i v, x = .ref p /\ y = .int i /\ SqL K H p xs /\ atI xs i = some v /\ Q v H
def rIxT (K : PySem.W.Frag) : R2 := fun x y H Q => ∃ p xs i v, x = .ref p /\ y = .int i /\ SqT K H p xs /\ atI xs i = some v /\ Q v H
theorem ix_list : IxR X (rIxL X.K) := by
 intro value slice pins s σ H x y v u Q I rx ry h hs
 obtain ⟨p, xs, i, z, rfl, rfl, hq, he, q⟩ := h
 cases rx
 obtain ⟨t, rfl⟩ := ry
 obtain ⟨its, r, pl, hz⟩ := I.list hq
 obtain ⟨j, h1, h2, h3, h4, h5⟩ := atI_get he
 obtain ⟨w, ew, rw'⟩ := r.get h2
 have hl := r.length
 have hn := line63
 have fin : EP X pins σ Q w s := ⟨z, H, I, rw', q⟩
 by_cases h0 : 0 <= i
 ·have hj : i.toNat = j := by
   rw [seqIndex_of h0 h5] at h1
   exact Option.some.inj h1
  exact item_listR pl.isList h0 (by omega) (by rw [hj]; simpa using ew) fin hs
 ·have hj : (i + (its.toArray.size : Int)).toNat = j := by
   rw [seqIndex_neg (by omega) h4] at h1
   rw [List.size_toArray, <- hl]
   exact Option.some.inj h1
  exact subscriptTail_builtinR (x := w) pl.isList.typeIs slot_list_getitem.lookup
   (wpAny_getItem_list_neg (Q := fun r s' => r = w /\ EP X pins σ Q r s') pl.isList (by omega) (by rw [List.size_toArray] <;> omega) (by omega) (by rw [hj]; simpa using ew) ⟨rfl, fin⟩) hs
theorem ix_tup : IxR X (rIxT X.K) := by
 intro value slice pins s σ H x y v u Q I rx ry h hs
 obtain ⟨p, xs, i, z, rfl, rfl, hq, he, q⟩ := h
 cases rx
 obtain ⟨t, rfl⟩ := ry
 obtain ⟨its, r, pl, hz⟩ := I.tuple hq
 obtain ⟨j, h1, h2, h3, h4, h5⟩ := atI_get he
 obtain ⟨w, ew, rw'⟩ := r.get h2
 have hl := r.length
 have hn := line63
 have fin : EP X pins σ Q w s := ⟨z, H, I, rw', q⟩
 exact subscriptTail_builtinR (x := w) pl.typeIs slot_tuple_getitem.lookup
  (getItem_tuple (j := j) (Q := fun r s' => r = w /\ EP X pins σ Q r s') pl (by omega) (by omega) (by rw [List.size_toArray, <- hl]; exact h1) (by simpa using ew) ⟨rfl, fin⟩) hs
theorem Inv.lst {pins : List (Addr × Obj)} {σ : St} {H : Hp} {s : Shared} {p : Addr} {xs : List V} (I : Inv X pins σ H s) (h : H p = some (.lst xs)) :
  ∃ (its : List Value) (n : Nat), Vals xs its /\ s.heap.get? p = some { cls := .type "list", data := .seq its.toArray n } /\ xs.length <= sizeLine := by
 obtain ⟨z, its, n, r, e⟩ := I.hok p _ h
 exact ⟨its, n, r, e, z⟩
theorem slice_bounds (lo hi : Option Int) (n : Nat) : (sliceBounds lo hi none n).1 = ((HT.sIx n 0 lo : Nat) : Int) /\ (sliceBounds lo hi none n).2.1 = ((HT.sIx n n hi : Nat) : Int) /\ (sliceBounds lo hi none n).2.2 = 1 := by
 refine ⟨?_, ?_, rfl⟩
 ·cases lo with
  | none => simp [sliceBounds, HT.sIx]
  | some i =>
   simp only [sliceBounds, HT.sIx, Option.getD_none, show (1 : Int) > 0 by decide, if_true]
   by_cases h : i < 0
   ·simp only [h, if_true] <;> omega
   ·simp only [h, if_false] <;> omega
 ·cases hi with
  | none => simp [sliceBounds, HT.sIx]
  | some i =>
   simp only [sliceBounds, HT.sIx, Option.getD_none, show (1 : Int) > 0 by decide, if_true]
   by_cases h : i < 0
   ·simp only [h, if_true] <;> omega
   ·simp only [h, if_false] <;> omega
theorem slicePick_cut (its : List Value) (lo hi : Option Int) : slicePick its.toArray lo hi none = ((its.drop (HT.sIx its.length 0 lo)).take (HT.sIx its.length its.length hi - HT.sIx its.length 0 lo)).toArray := by
 obtain ⟨h1, h2, h3⟩ := slice_bounds lo hi its.toArray.size
 unfold slicePick
 rw [h1, h2, h3]
 simp only [sliceRange_one, pick_run, List.size_toArray] <;> rfl
def rSlL (K : PySem.W.Frag) : V -> Option Int -> Option Int -> Hp -> VK -> Prop := fun x lo hi H Q => ∃ a xs, x = .ref a /\ SqL K H a xs /\ ∀ p, H p = none -> Q (.ref p) (upd H p (.lst (cutV xs lo hi)))
theorem sl_list : SlR X (rSlL X.K) := by
 intro pins s σ H x v vl vu lo hi sl Q I rx hs pl pu h
 obtain ⟨a, xs, rfl, hx, q⟩ := h
 cases rx
 obtain ⟨its, r, ht, hz⟩ := I.list hx
 have hlen := r.length
 refine ⟨"list", _, slot_list_getitem.lookup, ht.isList.typeIs, ?_⟩
 refine wpAny_getItem_list_slice ht.isList hs pl pu .none (by simp) ?_ (by rw [List.size_toArray] <;> omega)
 rw [slicePick_cut, <- hlen]
 refine ⟨.ref s.heap.objs.size, _, I.laid (t' := s.toks) (o := .lst (cutV xs lo hi)) (fun b ob q => Heap.get?_push_of_some _ q) (Nat.le_refl _) ?_, rfl, q _ (I.hok.fresh (Nat.le_refl _))⟩
 exact ⟨Nat.le_trans (cutV_length xs lo hi) hz, _, 0, (r.drop (HT.sIx xs.length 0 lo)).take (HT.sIx xs.length xs.length hi - HT.sIx xs.length 0 lo), Heap.get?_push_size _ rfl⟩
def flatV : V -> Bool
 | .non => true
 | .bl _ => true
 | .int _ => true
 | .str _ => true
 | _ => false
def eqV : V -> V -> Bool
 | .non, .non => true
 | .bl a, .bl b => a == b
 | .bl a, .int b => (if a then 1 else 0) == b
 | .int a, .bl b => a == (if b then 1 else 0)
 | .int a, .int b => a == b
 | .str a, .str b => a == b
 | _, _ => false
theorem eqAt_V {A : Around} {s : Shared} {y x : V} {u v : Value} (ry : RelV y u) (rx : RelV x v) (fy : flatV y = true) (fx : flatV x = true) : SeqAt.EqAt A s u v (eqV y x) := by
 cases y with
 | non =>
  cases ry
  cases x with
  | non => cases rx; exact SeqAt.EqAt.same _
  | bl b => cases rx; exact SeqAt.EqAt.none_bool b
  | int b => obtain ⟨t, rfl⟩ := rx; exact SeqAt.EqAt.none_int b t
  | str b => obtain ⟨t, rfl⟩ := rx; exact SeqAt.EqAt.none_str b t
  | _ => exact absurd (show false = true from fx) Bool.false_ne_true
 | bl a =>
  cases ry
  cases x with
  | non => cases rx; exact SeqAt.EqAt.bool_none a
  | bl b => cases rx; exact SeqAt.EqAt.bool_bool a b
  | int b => obtain ⟨t, rfl⟩ := rx; exact SeqAt.EqAt.bool_int a b t
  | str b => obtain ⟨t, rfl⟩ := rx; exact SeqAt.EqAt.bool_str a b t
  | _ => exact absurd (show false = true from fx) Bool.false_ne_true
 | int a =>
  obtain ⟨t', rfl⟩ := ry
  cases x with
  | non => cases rx; exact SeqAt.EqAt.int_none a t'
  | bl b => cases rx; exact SeqAt.EqAt.int_bool a t' b
  | int b => obtain ⟨t, rfl⟩ := rx; exact SeqAt.EqAt.int_int a t' b t
  | str b => obtain ⟨t, rfl⟩ := rx; exact SeqAt.EqAt.int_str a t' b t
  | _ => exact absurd (show false = true from fx) Bool.false_ne_true
 | str a =>
  obtain ⟨t', rfl⟩ := ry
  cases x with
  | non => cases rx; exact SeqAt.EqAt.str_none a t'
  | bl b => cases rx; exact SeqAt.EqAt.str_bool a t' b
  | int b => obtain ⟨t, rfl⟩ := rx; exact SeqAt.EqAt.str_int a t' b t
  | str b => obtain ⟨t, rfl⟩ := rx; exact SeqAt.EqAt.str_str a t' b t
  | _ => exact absurd (show false = true from fx) Bool.false_ne_true
 | _ => exact absurd (show false = true from fy) Bool.false_ne_true
def eqU (x : V) (u : Value) : Bool := match u with
 | .none => eqV .non x
 | .bool b => eqV (.bl b) x
 | .int i _ => eqV (.int i) x
 | .str z _ => eqV (.str z) x
 | _ => false
theorem eqU_of {x y : V} {u : Value} (r : RelV y u) (f : flatV y = true) : eqU x u = eqV y x := by
 cases y with
 | non => cases r; rfl
 | bl b => cases r; rfl
 | int i => obtain ⟨t, rfl⟩ := r; rfl
 | str z => obtain ⟨t, rfl⟩ := r; rfl
 | _ => exact absurd (show false = true from f) Bool.false_ne_true
theorem any_eqU {x : V} : ∀ {xs : List V} {us : List Value}, Vals xs us -> xs.all flatV = true -> us.any (eqU x) = xs.any fun y => eqV y x
 | _, _, .nil, _ => rfl
 | y :: xs, u :: us, .cons r t, f => by
  rw [List.all_cons, Bool.and_eq_true] at f
  rw [List.any_cons, List.any_cons, eqU_of r f.1, any_eqU t f.2]
theorem mem_eqAt {A : Around} {s : Shared} {x : V} {v : Value} (rx : RelV x v) (fx : flatV x = true) : ∀ {xs : List V} {us : List Value}, Vals xs us -> xs.all flatV = true -> ∀ u ∈ us, SeqAt.EqAt A s u v (eqU x u)
 | _, _, .nil, _ => fun u hu => by cases hu
 | y :: xs, u :: us, .cons r t, f => fun u' hu => by
  rw [List.all_cons, Bool.and_eq_true] at f
  rcases List.mem_cons.mp hu with rfl | hu
  ·rw [eqU_of r f.1]; exact eqAt_V r rx f.1 fx
  ·exact mem_eqAt rx fx t f.2 u' hu
def inV (x : V) (xs : List V) : Bool := xs.any fun y => eqV y x
def rIn (K : PySem.W.Frag) (neg : Bool) : R2 := fun x y H Q => ∃ p xs, y = .ref p /\ (SqL K H p xs \/ SqT K H p xs) /\ flatV x = true /\ xs.all flatV = true /\ Q (.bl (if neg then !inV x xs else inV x xs)) H
theorem op_in_seq : OpR X (compareOp .In) (rIn X.K false) := by
 intro pins s σ H x y v u Q I rx ry h
 obtain ⟨p, xs, rfl, hq, fx, fs, q⟩ := h
 cases ry
 rcases hq with hq | hq
 ·obtain ⟨its, r, pl, hz⟩ := I.list hq
  refine SeqAt.in_listAt (eqU x) pl.isList (fun w hw => mem_eqAt rx fx r fs w (by simpa using hw)) ⟨.bl _, H, I, rfl, ?_⟩
  rw [show its.toArray.any (eqU x) = its.any (eqU x) by simp, any_eqU r fs]
  exact q
 ·obtain ⟨its, r, pl, hz⟩ := I.tuple hq
  refine SeqAt.in_tupleAt (eqU x) pl (fun w hw => mem_eqAt rx fx r fs w (by simpa using hw)) ⟨.bl _, H, I, rfl, ?_⟩
  rw [show its.toArray.any (eqU x) = its.any (eqU x) by simp, any_eqU r fs]
  exact q
theorem op_notIn_seq : OpR X (compareOp .NotIn) (rIn X.K true) := by
 intro pins s σ H x y v u Q I rx ry h
 obtain ⟨p, xs, rfl, hq, fx, fs, q⟩ := h
 cases ry
 rcases hq with hq | hq
 ·obtain ⟨its, r, pl, hz⟩ := I.list hq
  refine SeqAt.notIn_listAt (eqU x) pl.isList (fun w hw => mem_eqAt rx fx r fs w (by simpa using hw)) ⟨.bl _, H, I, rfl, ?_⟩
  rw [show its.toArray.any (eqU x) = its.any (eqU x) by simp, any_eqU r fs]
  exact q
 ·obtain ⟨its, r, pl, hz⟩ := I.tuple hq
  refine SeqAt.notIn_tupleAt (eqU x) pl (fun w hw => mem_eqAt rx fx r fs w (by simpa using hw)) ⟨.bl _, H, I, rfl, ?_⟩
  rw [show its.toArray.any (eqU x) = its.any (eqU x) by simp, any_eqU r fs]
  exact q
theorem call_len_seq : CallR X (.builtin "len") (fun xs H Q => ∃ p ys, xs = [.ref p] /\ (SqL X.K H p ys \/ SqT X.K H p ys) /\ Q (.int ys.length) H) := by
 intro pins s σ H xs us Q I r h
 obtain ⟨p, ys, rfl, hq, q⟩ := h
 obtain ⟨u, rfl, rx⟩ := vals1 r
 cases rx
 have hn := line63
 rcases hq with hq | hq
 ·obtain ⟨its, r', pl, hz⟩ := I.list hq
  have hlen := r'.length
  exact Calls.call_len_list pl.isList (by simp only [List.size_toArray] <;> omega) ⟨.int ys.length, H, I.tok _, ⟨s.toks + 1, by rw [List.size_toArray, hlen]⟩, q⟩
 ·obtain ⟨its, r', pl, hz⟩ := I.tuple hq
  have hlen := r'.length
  exact len_tuple pl (by simp only [List.size_toArray] <;> omega) ⟨.int ys.length, H, I.tok _, ⟨s.toks + 1, by rw [List.size_toArray, hlen]⟩, q⟩
theorem call_tuple_of : CallR X (.type "tuple") (fun xs H Q => ∃ p ys, xs = [.ref p] /\ ((SqL X.K H p ys /\ ∀ l, H l = none -> Q (.ref l) (upd H l (.tup ys))) \/ (SqT X.K H p ys /\ Q (.ref p) H))) := by
 intro pins s σ H xs us Q I r h
 obtain ⟨p, ys, rfl, h⟩ := h
 obtain ⟨u, rfl, rx⟩ := vals1 r
 cases rx
 rcases h with ⟨hq, q⟩ | ⟨hq, q⟩
 ·obtain ⟨its, r', pl, hz⟩ := I.list hq
  have hlen := r'.length
  refine call_tuple_list pl.isList (fun h' kp => ?_) (by simp only [List.size_toArray] <;> omega)
  have I1 : Inv X pins σ H { s with heap := h' } := I.kept (t' := s.toks) kp
  have I2 : Inv X pins σ (upd H h'.objs.size (.tup ys)) { s with heap := h'.push { cls := .type "tuple", data := .seq its.toArray } } :=
   I1.laid (t' := s.toks) (fun b o e => Heap.get?_push_of_some _ e) (Nat.le_refl _) (show ObjOk X.prog X.w _ _ _ (.tup ys) from ⟨hz, its, r', IsTup.new _ _⟩)
  exact ⟨.ref h'.objs.size, _, I2, rfl, q _ (I1.hok.fresh (Nat.le_refl _))⟩
 ·obtain ⟨its, r', pl, hz⟩ := I.tuple hq
  exact call_tuple_same pl ⟨.ref p, H, I, rfl, q⟩
def tyV (K : PySem.W.Frag) (T : String) (x : V) (H : Hp) : Prop := match x with
 | .str _ => T = "str"
 | .int _ => T = "int"
 | .ref p => (T = "list" /\ ∃ xs, SqL K H p xs) \/ (T = "tuple" /\ ∃ o, K.lookup p = some o /\ o.cls = .type "tuple" /\ o.dict = none) \/
   (T = "dict" /\ ((∃ kvs, H p = some (.dK kvs)) \/ ∃ kvs, H p = some (.dT kvs))) \/ (T = "set" /\ ∃ S n, H p = some (.set S n))
 | _ => False
theorem tyV_is {pins : List (Addr × Obj)} {σ : St} {H : Hp} {s : Shared} {T : String} {x : V} {v : Value} (I : Inv X pins σ H s) (r : RelV x v) (ty : tyV X.K T x H) :
  s.TypeIs v T /\ ∀ a, v = .ref a -> ∃ ob, s.heap.get? a = some ob /\ ob.dict = none := by
 cases x with
 | str z =>
  obtain ⟨t, rfl⟩ := r
  cases (show T = "str" from ty)
  exact ⟨typeIs_str s z t, fun _ e => nomatch e⟩
 | int i =>
  obtain ⟨t, rfl⟩ := r
  cases (show T = "int" from ty)
  exact ⟨typeIs_int s i t, fun _ e => nomatch e⟩
 | ref p =>
  cases r
  rcases ty with ⟨rfl, xs, hq⟩ | ⟨rfl, o, hk, hc, hd⟩ | ⟨rfl, hk⟩ | ⟨rfl, S, n, hk⟩
  ·obtain ⟨its, _, pl, _⟩ := I.list hq
   refine ⟨pl.isList.typeIs, fun a e => ?_⟩
   cases e
   obtain ⟨o, n, e, c, hd, _⟩ := pl
   exact ⟨o, e, hd⟩
  ·refine ⟨⟨o, I.kIn p o hk, hc⟩, fun a e => ?_⟩
   cases e
   exact ⟨o, I.kIn _ o hk, hd⟩
  ·have z : ∃ o, s.heap.get? p = some o /\ o.ExactDict := by
    rcases hk with ⟨kvs, hk⟩ | ⟨kvs, hk⟩
    ·obtain ⟨_, _, _, _, o, _, _, e, ex, _⟩ := I.hok p _ hk
     exact ⟨o, e, ex⟩
    ·obtain ⟨_, _, _, _, o, _, _, e, ex, _⟩ := I.hok p _ hk
     exact ⟨o, e, ex⟩
   obtain ⟨o, e, ex⟩ := z
   refine ⟨⟨o, e, ex.1⟩, fun a e2 => ?_⟩
   cases e2
   exact ⟨o, e, ex.2.1⟩
  ·obtain ⟨o, _, _, _, e, ex, _⟩ := I.hok p _ hk
   refine ⟨⟨o, e, ex.1⟩, fun a e2 => ?_⟩
   cases e2
   exact ⟨o, e, ex.2.1⟩
 | _ => exact False.elim ty
def tBM0 (K : PySem.W.Frag) (T : String) (r : V -> List V -> Hp -> VK -> Prop) (to : TE) : TE := fun σ H Q => to σ H fun x H1 => tyV K T x H1 /\ r x [] H1 Q
def tBM (K : PySem.W.Frag) (T : String) (r : V -> List V -> Hp -> VK -> Prop) (to : TE) (t : TA) : TE := fun σ H Q => to σ H fun x H1 => tyV K T x H1 /\ t σ H1 fun xs H2 => r x xs H2 Q
variable {o e : Expr} {es : List Expr} {to : TE} {t : TA} {name : Str} {apos cpos : Pos} {T id : String} {r : V -> List V -> Hp -> VK -> Prop}
theorem pe_bm0 (pa : PlainAttrs T) (slot : Slot T name id) (hty : typeOf (.builtin id) = pure (.type "method_descriptor")) (hm : MtR X id r) (ho : PE X o to)
  (hbase : attributeBase o name X.env (eval o X.env) = eval o X.env := by rfl) (hline : (apos.endLine == cpos.line) = true := by rfl) : PE X (.Call (.Attribute o name apos) [] [] cpos) (tBM0 X.K T r to) := by
 intro pins s σ H Q I h
 refine wpAny_Call_method0_late hbase hline (thn (ho pins s σ H _ I h) fun v s1 ⟨x, H1, I1, r1, ty, q1⟩ => ?_)
 obtain ⟨h1, h2⟩ := tyV_is I1 r1 ty
 exact ⟨T, id, pa, slot, hty, h1, h2, Calls.callWith_builtin rfl (PySem.evalArgs_none (hm pins s1 σ H1 x [] v [] Q I1 r1 .nil q1))⟩
theorem pe_bm (pa : PlainAttrs T) (slot : Slot T name id) (hty : typeOf (.builtin id) = pure (.type "method_descriptor")) (hm : MtR X id r) (ho : PE X o to) (ha : PA X (e :: es) t)
  (hbase : attributeBase o name X.env (eval o X.env) = eval o X.env := by rfl)
  (hfew : ((backTo cpos (starEach (e :: es) X.env)).all (fun x => !x.1) && (backToKw cpos (keywordEach [] X.env)).all (fun x => x.1.isSome)
   && decide ((e :: es).length + ([] : List Keyword).length + (if ([] : List Keyword).isEmpty then 0 else 1) < 30)) = true := by rfl)
  (hline : (apos.endLine == cpos.line) = true := by rfl) (hs : starEach (e :: es) X.env = (false, eval e X.env) :: starEach es X.env := by rfl) (hplain : (backTo cpos (starEach es X.env)).any (·.1) = false := by rfl) :
  PE X (.Call (.Attribute o name apos) (e :: es) [] cpos) (tBM X.K T r to t) := by
 intro pins s σ H Q I h
 refine wpAny_Call_method_late hbase hfew hline rfl (thn (ho pins s σ H _ I h) fun v s1 ⟨x, H1, I1, r1, ty, q1⟩ => ?_)
 obtain ⟨h1, h2⟩ := tyV_is I1 r1 ty
 refine ⟨T, id, pa, slot, hty, h1, h2, ?_⟩
 have hA := ha cpos pins s1 σ H1 _ I1 q1
 rw [hs] at hA ⊢
 refine Calls.callWith_builtin (by show (false || (backTo cpos (starEach es X.env)).any (·.1)) = false; rw [hplain] <;> rfl) (Calls.evalArgs_plain ?_)
 exact thn hA fun us s2 hq5 => by obtain ⟨vs, H2, I2, r2, q2⟩ := hq5; exact hm pins s2 σ H2 x vs v us Q I2 r1 r2 q2
end
end L2
namespace L2
open PySem PySem.Spec PyProof.Rows
def MtM (X : Cx) (id : String) (r : V -> List V -> Hp -> VK -> Prop) : Prop :=
 ∀ (pins : List (Addr × Obj)) (s : Shared) (σ : St) (H : Hp) (x : V) (xs : List V) (v : Value) (us : List Value) (Q : VK), Inv X pins σ H s -> RelV x v -> Vals xs us -> r x xs H Q ->
  wpAny (model X.prog X.w) X.A (call (.builtin id) (v :: us)) (EP X pins σ Q) X.xe s
theorem Vals.one : ∀ {x : V} {us : List Value}, Vals [x] us -> ∃ u, us = [u] /\ RelV x u
 | _, _, .cons r .nil => ⟨_, rfl, r⟩
theorem Vals.zero : ∀ {us : List Value}, Vals [] us -> us = []
 | _, .nil => rfl
theorem Vals.dropLast {xs : List V} {us : List Value} (h : Vals xs us) : Vals xs.dropLast us.dropLast := by
 induction h with
 | nil => exact .nil
 | cons r t ih =>
  cases t with
  | nil => exact .nil
  | cons q t' => exact .cons r ih
theorem Vals.eraseIdx : ∀ {xs : List V} {us : List Value} (i : Nat), Vals xs us -> Vals (xs.eraseIdx i) (us.eraseIdx i)
 | _, _, _, .nil => .nil
 | _, _, 0, .cons _ t => t
 | _, _, i + 1, .cons r t => .cons r (Vals.eraseIdx i t)
theorem Vals.rep {xs : List V} {us : List Value} (h : Vals xs us) : ∀ k : Nat, Vals (List.replicate k xs).flatten (List.replicate k us).flatten
 | 0 => .nil
 | k + 1 => by
  rw [List.replicate_succ, List.replicate_succ, List.flatten_cons, List.flatten_cons]
  exact Vals.append h (Vals.rep h k)
theorem erase_last {α : Type} (l : List α) : l.eraseIdx (l.length - 1) = l.dropLast := by
 induction l with
 | nil => rfl
 | cons a r ih =>
  cases r with
  | nil => rfl
  | cons b r =>
   have e : (a :: b :: r).length - 1 = ((b :: r).length - 1) + 1 := by
    have h1 : (a :: b :: r).length = r.length + 2 := rfl
    have h2 : (b :: r).length = r.length + 1 := rfl
    omega
   rw [e, List.eraseIdx_cons_succ, ih]
   all_goals rfl
theorem len_erase {α : Type} : ∀ (l : List α) (i : Nat), (l.eraseIdx i).length <= l.length
 | [], _ => Nat.le_refl _
 | _ :: _, 0 => Nat.le_succ _
 | _ :: r, i + 1 => Nat.succ_le_succ (len_erase r i)
theorem foldl_rep (its : List Value) : ∀ (k : Nat) (acc : List Value),
  List.foldl (fun x1 x2 => x1 ++ x2) acc.toArray (List.replicate k its.toArray) = (acc ++ (List.replicate k its).flatten).toArray
 | 0, acc => by simp
 | k + 1, acc => by
  have e : acc.toArray ++ its.toArray = (acc ++ its).toArray := by simp
  have e2 : (acc ++ its) ++ (List.replicate k its).flatten = acc ++ (List.replicate (k + 1) its).flatten := by
   rw [List.replicate_succ, List.flatten_cons, List.append_assoc]
  rw [<- e2, <- foldl_rep its k (acc ++ its), <- e, List.replicate_succ, List.foldl_cons]
section
variable {X : Cx} {pins : List (Addr × Obj)} {σ : St} {H : Hp} {s : Shared} {l b : Addr} {xs ys zs : List V}
theorem Inv.lset {its its' : List Value} {n : Nat} {f : Array Value -> Array Value} {t' : Nat} (I : Inv X pins σ H s) (hH : H l = some (.lst xs))
  (e : s.heap.get? l = some { cls := .type "list", data := .seq its.toArray n }) (hf : f its.toArray = its'.toArray) (hv : Vals ys its') (hz : ys.length <= sizeLine) :
  Inv X pins σ (upd H l (.lst ys)) { s with heap := s.heap.update l (Obj.mapSeq f), toks := t' } := by
 have q := PySem.IsL.update e f
 rw [hf] at q
 refine I.write (x := l) (e := l) (by rw [hH]; exact trivial) (.inl rfl) (fun b' u hb hu => (Heap.get?_update_other s.heap (Obj.mapSeq f) (Ne.symm hb)).trans hu) ⟨_, q⟩ ?_
 exact ⟨hz, its', _, hv, q⟩
theorem Inv.lnew {its : List Value} {t' : Nat} (I : Inv X pins σ H s) (hv : Vals ys its) (hz : ys.length <= sizeLine) :
  Inv X pins σ (upd H s.heap.objs.size (.lst ys)) { s with heap := s.heap.push { cls := .type "list", data := .seq its.toArray }, toks := t' } :=
 I.laid (fun _ _ q => Heap.get?_push_of_some _ q) (Nat.le_refl _) ⟨hz, its, 0, hv, Heap.get?_push_size _ rfl⟩
theorem Inv.fresh (I : Inv X pins σ H s) : H s.heap.objs.size = none := I.hok.fresh (Nat.le_refl _)
theorem Inv.lstM (I : Inv X pins σ H s) (hH : H l = some (.lst xs)) : xs.length <= sizeLine /\ ∃ (its : List Value) (n : Nat), Vals xs its /\ xs.length = its.length /\ s.heap.get? l = some { cls := .type "list", data := .seq its.toArray n } := by
 obtain ⟨z, its, n, r, e⟩ := I.hok l _ hH
 exact ⟨z, its, n, r, r.length, e⟩
theorem notLongL {n : Nat} (h : n <= sizeLine) : Builtin.List.listTooLong n = false := by
 unfold Builtin.List.listTooLong
 exact decide_eq_false (by omega)
end
section
variable {X : Cx}
def rAppend : V -> List V -> Hp -> VK -> Prop := fun x vs H Q => ∃ l xs y, x = .ref l /\ vs = [y] /\ H l = some (.lst xs) /\ xs.length < sizeLine /\ Q .non (upd H l (.lst (xs ++ [y])))
theorem mt_append : MtM X "list.append" rAppend := by
 intro pins s σ H x vs v us Q I rx rv h
 obtain ⟨l, xs, y, rfl, rfl, hH, hz, q⟩ := h
 cases rx
 obtain ⟨u, rfl, ru⟩ := rv.one
 obtain ⟨z, its, n, r, hl, e⟩ := I.lstM hH
 refine call_meets F.slot_list_append ⟨_, e, rfl⟩ F.entry_list_append (F.args_list_append_2 _ _) (PySem.list_append l its.toArray n u (by rw [List.size_toArray]; omega)) ⟨e, ?_⟩
 refine ⟨.non, _, I.lset (its' := its ++ [u]) hH e (by simp) (r.append (.cons ru .nil)) ?_, rfl, q⟩
 rw [List.length_append, List.length_singleton]
 omega
def rPop : V -> List V -> Hp -> VK -> Prop := fun x vs H Q => ∃ l xs y, x = .ref l /\ vs = [] /\ H l = some (.lst xs) /\ xs[xs.length - 1]? = some y /\ Q y (upd H l (.lst xs.dropLast))
theorem mt_pop : MtM X "list.pop" rPop := by
 intro pins s σ H x vs v us Q I rx rv h
 obtain ⟨l, xs, y, rfl, rfl, hH, hy, q⟩ := h
 cases rx
 have hus := rv.zero
 subst hus
 obtain ⟨z, its, n, r, hl, e⟩ := I.lstM hH
 obtain ⟨u, hu, ru⟩ := r.get hy
 have hy' : its.toArray[its.toArray.size - 1]? = some u := by
  show its.toArray[its.length - 1]? = some u
  rw [<- Array.getElem?_toList, <- hl]
  exact hu
 refine call_meets F.slot_list_pop ⟨_, e, rfl⟩ F.entry_list_pop (F.args_list_pop_1 _) (MeetsSeq.list_pop_last l its.toArray n u hy' (by rw [List.size_toArray]; omega)) ⟨e, ?_⟩
 refine ⟨y, _, I.lset (its' := its.dropLast) hH e ?_ r.dropLast ?_, ru, q⟩
 ·show its.toArray.eraseIdxIfInBounds (its.toArray.size - 1) = its.dropLast.toArray
  rw [List.size_toArray, List.eraseIdxIfInBounds_toArray, erase_last]
 ·rw [List.length_dropLast]
  omega
def rPopAt : V -> List V -> Hp -> VK -> Prop := fun x vs H Q => ∃ l xs i k y, x = .ref l /\ vs = [.int i] /\ H l = some (.lst xs) /\ -(2 ^ 63) <= i /\ i < 2 ^ 63 /\ seqIndex? i xs.length = some k /\ xs[k]? = some y /\ Q y (upd H l (.lst (xs.eraseIdx k)))
theorem mt_popAt : MtM X "list.pop" rPopAt := by
 intro pins s σ H x vs v us Q I rx rv h
 obtain ⟨l, xs, i, k, y, rfl, rfl, hH, h1, h2, hk, hy, q⟩ := h
 cases rx
 obtain ⟨u, rfl, ru⟩ := rv.one
 obtain ⟨t, rfl⟩ := ru
 obtain ⟨z, its, n, r, hl, e⟩ := I.lstM hH
 obtain ⟨w, hw, rw'⟩ := r.get hy
 refine call_meets F.slot_list_pop ⟨_, e, rfl⟩ F.entry_list_pop (F.args_list_pop_2 _ _)
  (MeetsSeq.list_pop_at l its.toArray n i t k w (fitsIndex_both h1 h2) (by rw [List.size_toArray, <- hl]; exact hk) (by rw [<- Array.getElem?_toList]; exact hw) (by rw [List.size_toArray]; omega)) ⟨e, ?_⟩
 refine ⟨y, _, I.lset (its' := its.eraseIdx k) hH e ?_ (r.eraseIdx k) ?_, rw', q⟩
 ·show its.toArray.eraseIdxIfInBounds k = (its.eraseIdx k).toArray
  rw [List.eraseIdxIfInBounds_toArray]
 ·have := len_erase xs k
  omega
def rCat : R2 := fun x y H Q => ∃ l b xs zs, x = .ref l /\ y = .ref b /\ H l = some (.lst xs) /\ H b = some (.lst zs) /\ xs.length + zs.length <= sizeLine /\ ∀ p, H p = none -> Q (.ref p) (upd H p (.lst (xs ++ zs)))
theorem op_cat : OpR X (binaryOp .Add) rCat := by
 intro pins s σ H x y v u Q I rx ry h
 obtain ⟨l, b, xs, zs, rfl, rfl, hH, hB, hz, q⟩ := h
 cases rx
 cases ry
 obtain ⟨z, its, n, r, hl, e⟩ := I.lstM hH
 obtain ⟨z2, its2, n2, r2, hl2, e2⟩ := I.lstM hB
 refine PySem.P.add_list e e2 ?_ (by rw [List.size_toArray, List.size_toArray]; omega)
 have ea : its.toArray ++ its2.toArray = (its ++ its2).toArray := by simp
 rw [ea]
 exact ⟨.ref _, _, I.lnew (t' := s.toks) (r.append r2) (by rw [List.length_append]; omega), rfl, q _ I.fresh⟩
def rRep : R2 := fun x y H Q => ∃ l k xs, x = .ref l /\ y = .int k /\ H l = some (.lst xs) /\ -(2 ^ 63) <= k /\ k < 2 ^ 63 /\ xs.length * k.toNat <= sizeLine /\
 ∀ p, H p = none -> Q (.ref p) (upd H p (.lst (List.replicate k.toNat xs).flatten))
theorem len_rep {α : Type} (xs : List α) (k : Nat) : (List.replicate k xs).flatten.length = k * xs.length := by
 induction k with
 | zero => simp
 | succ k ih => rw [List.replicate_succ, List.flatten_cons, List.length_append, ih, Nat.succ_mul, Nat.add_comm]
theorem op_rep : OpR X (binaryOp .Mult) rRep := by
 intro pins s σ H x y v u Q I rx ry h
 obtain ⟨l, k, xs, rfl, rfl, hH, h1, h2, hz, q⟩ := h
 cases rx
 obtain ⟨t, rfl⟩ := ry
 obtain ⟨z, its, n, r, hl, e⟩ := I.lstM hH
 have hlen : its.toArray.size * k.toNat <= sizeLine := by rw [List.size_toArray, <- hl]; exact hz
 have hcap : ¬ its.toArray.size * k.toNat > (2 ^ 63 - 1) / 8 := by
  have : (sizeLine : Nat) <= (2 ^ 63 - 1) / 8 := by decide
  omega
 have hfit : ¬ (!Builtin.List.listFitsIndex k) = true := by
  rw [fitsIndex_both h1 h2]
  exact Bool.false_ne_true
 have hlong : ¬ Builtin.List.listTooLong (its.toArray.size * k.toNat) = true := by
  rw [notLongL hlen]
  exact Bool.false_ne_true
 have hnew : List.foldl (fun x1 x2 => x1 ++ x2) #[] (List.replicate (if its.toArray.isEmpty = true then 0 else k.toNat) its.toArray) = (List.replicate k.toNat its).flatten.toArray := by
  have f0 : ∀ m : Nat, List.foldl (fun x1 x2 => x1 ++ x2) #[] (List.replicate m its.toArray) = (List.replicate m its).flatten.toArray := fun m => by
   have := foldl_rep its m []
   rw [List.nil_append] at this
   exact this
  rw [f0]
  cases its with
  | nil => simp
  | cons a r' => rw [if_neg (by simp)]
 refine wpAny_binaryOp_repeat_ref (T := "list") (U := "int") (by decide) ⟨_, e, rfl⟩ (fun s' => typeIs_int s' k t) noFill_list_mul F.fills_int_mul F.slot_int_rmul repeat_list F.slot_int_index.lookup
  (call_meets F.slot_int_rmul (typeIs_int s k t) F.entry_int_rmul (F.args_int_rmul_2 _ _) (int___rmul___int_list k t l its.toArray n)
   ⟨e, rfl, ⟨_, e, rfl⟩, call_meets F.slot_list_mul ⟨_, e, rfl⟩ F.entry_list_mul (F.args_list_mul_2 _ _) (AutoListH.list___mul___list_int_3 l its.toArray n k t hfit hcap hlong) ⟨e, ?_⟩⟩)
 rw [hnew]
 exact ⟨.ref _, _, I.lnew (t' := s.toks) (r.rep k.toNat) (by rw [len_rep, Nat.mul_comm]; exact hz), rfl, q _ I.fresh⟩
end
section
variable {prog : Program} {w : World} {A : Around} {E : Value -> Shared -> Prop} {s : Shared}
set_option maxRecDepth 100000 in
end
section
variable {X : Cx}
end
end L2
namespace Att
open PySem PySem.W PySem.Calls PyProof.Rows
theorem ints_of_wellAll {P : Params} {h : Heap} : ∀ (ns : List Int) (vs : List Value), WellAll P h vs (ns.map WData.int) -> IntsAre vs ns := by
 intro ns
 induction ns with
 | nil =>
  intro vs w
  rw [List.map_nil] at w
  cases w
  exact .nil
 | cons n ns ih =>
  intro vs w
  rw [List.map_cons] at w
  cases w with
  | cons a b =>
   cases a
   exact .cons _ _ (ih _ b)
theorem script_of {l : OpenLaw} {n : Nat} (hn : l.most = some n) {P : Params} {h : Heap} {args : List WData} {vals : List Value}
  (hpre : l.row.toRowW.claim.pre args = true) (hwl : WellAll P h vals args) :
  ∃ a vs ns, vals = [Value.ref a] /\ args = [WData.list (ns.map WData.int)] /\ h.get? a = some { cls := .type "list", data := .seq vs.toArray } /\ IntsAre vs ns /\ ns.length <= n := by
 have hsh : WShape.hasAll [] args [.list .int] = true := (pre_splitW hpre).1
 have hc : l.pre.holds [] { args := args } = true := (pre_splitW hpre).2
 obtain ⟨d, r, rfl, h1, h2⟩ := hasAllW_cons hsh
 obtain rfl := hasAllW_nil h2
 obtain ⟨xs, rfl, h3⟩ := hasW_list h1
 obtain ⟨ns, rfl⟩ := items_int h3
 have hlen : ns.length <= n := by
  unfold OpenLaw.pre at hc
  have h4 : (WTm.not (.lt (.lit (.int (n : Int))) (.len (.arg 0)))).holds [] { args := [.list (ns.map .int)] } = true := by
   have h4 := (holds_andW hc).1
   rw [hn] at h4
   exact h4
  have h5 := condW_of h4 (w_not (w_lt w_lit (w_len_list (w_arg rfl))))
  rw [List.length_map] at h5
  refine Nat.le_of_not_lt fun q => ?_
  have q' : (n : Int) < ((ns.length : Nat) : Int) := by omega
  first
   | (rw [decide_eq_true q'] at h5; exact absurd h5 (by decide))
   | (simp at h5; omega)
 cases hwl with
 | cons w1 w2 =>
  cases w2
  cases w1 with
  | list ho hall => exact ⟨_, _, ns, rfl, rfl, ho, ints_of_wellAll ns _ hall, hlen⟩
theorem post_true (l : OpenLaw) (args : List WData) : l.row.toRowW.claim.post args (.bool true) args = true :=
 postW_of (r := l.row.toRowW) (X := (true == true))
  (show WShape.has [] (.bool true) .bool = true by first | rfl | decide | simp [WShape.has, WShape.arms, WShape.armsAll])
  (show (WTm.eq .res (.lit (.bool true))).value [] { args := args, res := some (.bool true), after := args } = some (.bool (true == true)) from w_eq_bool (w_res rfl) w_lit) rfl
theorem attach_call {l : OpenLaw} {n : Nat} {q : Program} {loose : List Str} {XP : (Str -> Option Value) -> Heap -> Prop} {YP : World -> Heap -> Prop} {d : DefRec}
  (hn : l.most = some n) (hdf : d.params.defaults = [])
  (call : ∀ (w : World) (s₀ s₁ : Shared) (mg mb : Str -> Option Value) (fa : Addr) (o : Obj) (pm cd doc : Value) (a : Addr) (vs : List Value) (ns : List Int),
   Ground q loose [] XP w s₀ mg mb s₁.heap -> YP w s₁.heap ->
   s₁.heap.get? fa = some o -> o.data = .func (docDef d.name d.params d.body d.scope pm cd doc) -> s₁.heap.CodeRec cd d.name -> mg d.name = some (.ref fa) ->
   s₁.heap.get? a = some { cls := .type "list", data := .seq vs.toArray } -> IntsAre vs ns -> ns.length <= n -> s₁.gens = #[] ->
   codeAny (model l.prog w) callerA (.call (.ref fa) ⟨[.ref a], []⟩) (fun r s' => r = .ok (.ret (.bool true)) /\ OldK s₁.heap s'.heap /\ s'.os = s₁.os /\ AllBare s'.gens) s₁) :
  WalkO q loose XP YP l.row.toRowW d [] (fun f vs => PySem.call f vs) := by
 intro w s₀ s₁ mg mb G Y fa o pm cd doc dV kV ho hd hcd hD hmg hg args vals as hpre hlay hrd hwl hlo
 obtain rfl : dV = .none := Dflts.none hD hdf
 obtain rfl : kV = .none := Dflts.noKw hD
 obtain ⟨a, vs, ns, rfl, rfl, hobj, hints, hlen⟩ := script_of hn hpre hwl
 refine enter_call (codeAny_mono (call w s₀ s₁ mg mb fa o pm cd doc a vs ns G Y ho (fd_plain hd) hcd hmg hobj hints hlen hg) fun r s' hq => ?_)
 obtain ⟨rfl, h2, h3, h4⟩ := hq
 exact ⟨.inl ⟨.bool true, .bool true, [], rfl, fun _ => rfl, .bool true, post_true l _, fun _ => ⟨List.Pairwise.nil, fun _ hm => (nomatch hm)⟩⟩, h2, h3, h4⟩
section
variable {prog : Program} {w : World} {A : Around} {E : Value -> Shared -> Prop} {s : Shared} {K : Frag}
def noObjs (h : Heap) : Heap := { h with objs := #[] }
theorem noObjs_get (h : Heap) (b : Addr) : (noObjs h).get? b = none := by
 cases e : (noObjs h).get? b with
 | none => rfl
 | some o => exact absurd (Heap.lt_size e) (Nat.not_lt_zero _)
def ledger (h : Heap) (L d : Addr) : List (Addr × Obj) := (List.range h.objs.size).filterMap fun a => if a = L \/ a = d then none else (h.get? a).map fun o => (a, o)
theorem mem_ledger {h : Heap} {L d a : Addr} {o : Obj} : (a, o) ∈ ledger h L d ↔ a ≠ L /\ a ≠ d /\ h.get? a = some o := by
 unfold ledger
 rw [List.mem_filterMap]
 constructor
 ·rintro ⟨b, _, e⟩
  split at e
  ·cases e
  ·rename_i hb
   obtain ⟨o', ho, e'⟩ := Option.map_eq_some_iff.mp e
   cases e'
   exact ⟨fun q => hb (.inl q), fun q => hb (.inr q), ho⟩
 ·rintro ⟨n1, n2, ho⟩
  refine ⟨a, List.mem_range.mpr (Heap.lt_size ho), ?_⟩
  rw [if_neg (show ¬ (a = L \/ a = d) from fun q => q.elim n1 n2), ho] <;> rfl
theorem fr_all {h : Heap} {L : Addr} {m : Str -> Option Value} (n : h.Ns L m) : Fr (noObjs h) L h m :=
 ⟨n, fun b o e => (by rw [noObjs_get] at e; cases e), Nat.zero_le _⟩
end
end Att
namespace L2
open PySem PySem.Spec PyProof.Rows
theorem vals_ints : ∀ {vs : List Value} {ns : List Int}, IntsAre vs ns -> Vals (ns.map V.int) vs
 | _, _, .nil => .nil
 | _, _, .cons n t h => .cons ⟨t, rfl⟩ (vals_ints h)
def Only (H : Hp) : Prop := ∀ b, H b = none \/ ∃ o xs, H b = some (.frz o (.lst xs))
theorem law_call {P : Program} {w : World} {K : PySem.W.Frag} {mg mb : Str -> Option Value} {CX : CXT} {k : Nat} {fa a : Addr} {fd : FuncData} {x : Str} {sp : Sp} {s₁ : Shared} {vs : List Value} {ns : List Int}
  (KX : K.In s₁.heap) (hns : s₁.heap.Ns mainGlobals mg) (hb : s₁.heap.Ns builtinsNs mb) (hbb : ∀ x : Str, x ≠ "__name__" -> mb x = bootBuiltins x) (hlim : s₁.heap.NoLimit) (hg : s₁.gens = #[])
  (ha : s₁.heap.get? a = some { cls := .type "list", data := .seq vs.toArray }) (hi : IntsAre vs ns) (hl : ns.length <= sizeLine) (hr : Room k callerA)
  (F : ∀ base : Heap, K.In base -> base.Ns mainGlobals mg -> FnOk P w K mg base CX k fa fd [x] sp) (hbind : ∀ (s : Shared) (u : Value), BindsTo s fd ⟨[u], []⟩ [(x, u)])
  (hsp : ∀ H : Hp, Only H -> SqL K H a (ns.map V.int) -> sp [.ref a] H (fun v _ => v = .bl true) fun _ _ _ => False)
  (hCX : ∀ H e s', CX [] H s₁ (fun _ _ _ => False) e s' -> False) :
  codeAny (model P w) callerA (.call (.ref fa) ⟨[.ref a], []⟩) (fun r s' => r = .ok (.ret (.bool true)) /\ OldK s₁.heap s'.heap /\ s'.os = s₁.os /\ AllBare s'.gens) s₁ := by
 have rv := vals_ints hi
 have lenV := hi.length
 -- from an abstract heap in which nothing but the script may be tracked
 have core : ∀ H : Hp, Only H -> SqL K H a (ns.map V.int) -> HOk P w H s₁.heap -> (∀ b, H b ≠ none -> b = a) -> (H a ≠ none -> K.lookup a = none) ->
   codeAny (model P w) callerA (.call (.ref fa) ⟨[.ref a], []⟩) (fun r s' => r = .ok (.ret (.bool true)) /\ OldK s₁.heap s'.heap /\ s'.os = s₁.os /\ AllBare s'.gens) s₁ := by
  intro H hO hS hok hA hK
  have base_of : ∀ {b : Addr} {o : Obj}, s₁.heap.get? b = some o -> H b = none -> (hidT s₁.heap H).get? b = some o := fun e n => hidT_get e n
  have noA : ∀ {b : Addr} {o : Obj} {es : Array DictEntry} {ep : Nat}, s₁.heap.get? b = some o -> o.data = .dict es ep -> H b = none := fun {b o es ep} e d => by
   cases q : H b with
   | none => rfl
   | some u =>
    have e' : b = a := hA b (by rw [q]; simp)
    subst e'
    rw [ha] at e; cases e
    have d' : Data.seq vs.toArray _ = Data.dict es ep := d
    cases d'
  have nsK : ∀ {b : Addr} {m : Str -> Option Value}, s₁.heap.Ns b m -> (hidT s₁.heap H).Ns b m := fun {b m} ⟨o, es, ep, e, d, r⟩ => ⟨o, es, ep, base_of e (noA e d), d, r⟩
  have hKb : K.In (hidT s₁.heap H) := fun b o e => base_of (KX b o e) (by
   cases q : H b with
   | none => rfl
   | some u =>
    have e' : b = a := hA b (by rw [q]; simp)
    subst e'
    rw [hK (by rw [q]; simp)] at e; cases e)
  have hM : Mod K mg (hidT s₁.heap H) := ⟨hKb, nsK hns, ⟨mb, nsK hb, hbb⟩, let ⟨mc, h1, h2⟩ := hlim; ⟨mc, nsK h1, h2⟩⟩
  have e0 : Env0 P w K mg (hidT s₁.heap H) callerA [] s₁ H := ⟨rfl, hM, fun b o e => of_hidT e, Nat.le_of_eq (hidT_size _ _), trivial, fun b hb => absurd (show b ∈ ([] : List Addr) from hb) (by simp), hok, .of_eq hg⟩
  refine codeAny_mono ((F _ hKb (nsK hns)).run callerA [] s₁ H ⟨[.ref a], []⟩ [.ref a] [.ref a] _ _ hr e0 (hbind s₁ (.ref a)) (.cons rfl .nil) (hsp H hO hS)) fun r s' h => ?_
  cases r with
  | error e => exact (hCX H e s' h).elim
  | ok fl =>
   cases fl with
   | next => exact False.elim h
   | brk => exact False.elim h
   | cont => exact False.elim h
   | ret u =>
    obtain ⟨v, H', os, bare, un, hok', r', q⟩ := h
    have q' : v = .bl true := q
    subst q'
    obtain rfl : u = Value.bool true := r'
    refine ⟨rfl, OldK.of_keep fun b o e => ?_, os, bare⟩
    cases q : H b with
    | none => exact un.keep b o e q (by intro z; exact absurd (show b ∈ ([] : List Addr) from z) (by simp)) (by simp)
    | some u =>
     rcases hO b with z | ⟨ob, xs, z⟩
     ·rw [q] at z; cases z
     ·have z2 := un.frzs b ob _ z
      obtain ⟨e1, _⟩ := hok b _ z
      obtain ⟨e2, _⟩ := hok' b _ z2
      rw [e] at e1; cases e1
      exact e2
 cases hk : K.lookup a with
 | some o =>
  -- the script is one of the module's own objects
  have e := KX a o hk
  rw [ha] at e
  cases e
  refine core (fun _ => none) (fun _ => .inl rfl) (.inr ⟨_, vs.toArray, _, hk, rfl, rfl, rfl, by rw [List.size_toArray, lenV]; exact hl, by simpa using rv⟩) (fun b u z => by have z' : (none : Option HO) = some u := z; cases z') (fun b z => absurd rfl z) fun z => absurd rfl z
 | none =>
  refine core (fun b => if b = a then some (.frz { cls := .type "list", data := .seq vs.toArray } (.lst (ns.map V.int))) else none) (fun b => ?_) (.inl (.inr ⟨{ cls := .type "list", data := .seq vs.toArray }, if_pos rfl⟩)) (fun b u z => ?_) (fun b z => ?_) fun _ => hk
  ·by_cases hb : b = a
   ·exact .inr ⟨_, _, if_pos hb⟩
   ·exact .inl (if_neg hb)
  ·by_cases hb : b = a
   ·have z' := (if_pos hb).symm.trans z
    cases z'
    subst hb
    exact ⟨ha, by rw [List.length_map]; exact hl, vs, _, rv, ha⟩
   ·have z' := (if_neg hb).symm.trans z
    cases z'
  ·by_cases hb : b = a
   ·exact hb
   ·exact absurd (if_neg hb) z
end L2
namespace L2
open PySem PySem.Spec PyProof.Rows
abbrev KOf {K : PySem.W.Frag} {h : Heap} (_ : K.In h) : PySem.W.Frag := K
theorem walk_of {l : PySem.W.OpenLaw} {n k : Nat} {q : Program} {loose : List Str} {XP : (Str -> Option Value) -> Heap -> Prop} {YP : World -> Heap -> Prop} {d : DefRec} {K : Params -> PySem.W.Frag} {CX : World -> CXT} {sp : World -> Sp} {x : Str}
  (hn : l.most = some n) (hn2 : n <= sizeLine) (hdf : d.params.defaults = []) (hr : Room k callerA)
  (hY : ∀ (w : World) (h : Heap), YP w h -> (K w.params).In h)
  (F : ∀ (w : World) (mg : Str -> Option Value) (fa : Addr) (h : Heap), (K w.params).In h -> h.Ns mainGlobals mg -> mg d.name = some (.ref fa) ->
   ∃ fd : FuncData, (∀ (s : Shared) (u : Value), BindsTo s fd ⟨[u], []⟩ [(x, u)]) /\
    ∀ base : Heap, (K w.params).In base -> base.Ns mainGlobals mg -> FnOk l.prog w (K w.params) mg base (CX w) k fa fd [x] (sp w))
  (hsp : ∀ (w : World) (H : Hp) (a : Addr) (ns : List Int), ns.length <= n -> Only H -> SqL (K w.params) H a (ns.map V.int) -> sp w [.ref a] H (fun v _ => v = .bl true) fun _ _ _ => False)
  (hCX : ∀ (w : World) (H : Hp) (s : Shared) (e : Value) (s' : Shared), CX w [] H s (fun _ _ _ => False) e s' -> False) :
  PySem.W.WalkO q loose XP YP l.row.toRowW d [] (fun f vs => PySem.call f vs) := by
 refine Att.attach_call hn hdf fun w s₀ s₁ mg mb fa o pm cd doc a vs ns G Y ho hd hcd hmg hobj hints hlen hg => ?_
 have KX := hY w _ Y
 obtain ⟨fd, hb, hF⟩ := F w mg fa _ KX G.T.g hmg
 exact law_call KX G.T.g G.T.b G.T.builtins G.T.nolimit hg hobj hints (Nat.le_trans hlen hn2) hr hF hb (fun H hO hS => hsp w H a ns hlen hO hS) fun H e s' => hCX w H s₁ e s'
end L2
namespace L2
open PySem PySem.Spec PyProof.Rows
def defArgs (s : Stmt) : Arguments := match s with
 | .FunctionDef _ a _ _ _ _ _ _ _ _ => a
 | _ => { posonlyargs := [], args := [], vararg := none, kwonlyargs := [], kw_defaults := [], kwarg := none, defaults := [] }
def defBody (s : Stmt) : List Stmt := match s with
 | .FunctionDef _ _ b _ _ _ _ _ _ _ => b
 | _ => []
def defScope (s : Stmt) : Scope := match s with
 | .FunctionDef _ _ _ _ _ _ sc _ _ _ => sc
 | _ => { kind := .function, names := [], isGenerator := false, isCoroutine := false }
abbrev CX0 : CXT := fun _ _ _ _ _ _ => False
abbrev E0 : XK := fun _ _ _ => False
theorem pass0 {X : Cx} : Passes CX0 X E0 := fun _ _ _ _ _ _ _ h => h.elim
structure Fun (K : PySem.W.Frag) (x qual : Str) (st : Stmt) (f : Addr) (fd : FuncData) : Prop where
 ex : ∃ (oc : Value) (od : Option Addr) (kV doc pm : Value) (an : Option Addr) (cdv ct : Value) (osl : Array (Option Value)),
  fd = PySem.W.fnOf x qual (defArgs st) (defBody st) (defScope st) .none kV doc pm an cdv ct /\ K.lookup f = some ⟨oc, od, .func fd, osl⟩ /\ PySem.W.codeIn K cdv qual = true
 kp : PySem.W.keepIn K (.ref f) = true
section
variable {P : Program} {w : World} {K : PySem.W.Frag} {mg : Str -> Option Value} {base : Heap}
theorem Fun.ok {x qual : Str} {st : Stmt} {f : Addr} {fd : FuncData} {N ps : List Str} {k : Nat} {sp : Sp} (F : Fun K x qual st f fd) (S : FnScope N ps (defScope st)) (len : ∀ vs H Q E, sp vs H Q E -> vs.length = ps.length)
  (hbody : ∀ (cdv : Value) (A : Around) (outer : List Env) (s : Shared) (H : Hp) (vs : List V) (Q : VK) (E : XK), Room k (A.deeper (envOfC qual (defScope st) s.heap.objs.size f cdv)) -> sp vs H Q E ->
   ∃ t, PSs (cxOf CX0 P w K mg base N qual (defScope st) f cdv A outer s H E).nox (defBody st) t /\ t { nx := fun _ H' => Q .non H', rt := Q } (start N vs) H) : FnOk P w K mg base CX0 (k + 1) f fd ps sp := by
 obtain ⟨oc, od, kV, doc, pm, an, cdv, ct, osl, rfl, lk, hcd⟩ := F.ex
 refine fn_of lk hcd S len fun A outer s H vs Q E hr hsp => ?_
 obtain ⟨t, h, q⟩ := hbody cdv A outer s H vs Q E hr hsp
 exact ⟨t, h.nox, q⟩
theorem Fun.binds {x qual : Str} {st : Stmt} {f : Addr} {fd : FuncData} {ps : List Str} (F : Fun K x qual st f fd)
  (h : ∀ (kV doc pm : Value) (an : Option Addr) (cdv ct : Value) (us : List Value), us.length = ps.length -> bindArgs (PySem.W.fnOf x qual (defArgs st) (defBody st) (defScope st) .none kV doc pm an cdv ct) ⟨us, []⟩ = pure (ps.zip us)) : Binds K fd ps [] := by
 obtain ⟨oc, od, kV, doc, pm, an, cdv, ct, osl, rfl, lk, hcd⟩ := F.ex
 exact .all (h kV doc pm an cdv ct)
theorem fun_mk {x qual : Str} {st : Stmt} {f : Addr} {oc : Value} {od an : Option Addr} {osl : Array (Option Value)} {kV doc pm cdv ct : Value} (l : K.lookup f = some ⟨oc, od, .func (PySem.W.fnOf x qual (defArgs st) (defBody st) (defScope st) .none kV doc pm an cdv ct), osl⟩)
  (c : PySem.W.codeIn K cdv qual = true) (k : PySem.W.keepIn K (.ref f) = true) : Fun K x qual st f (PySem.W.fnOf x qual (defArgs st) (defBody st) (defScope st) .none kV doc pm an cdv ct) := ⟨⟨oc, od, kV, doc, pm, an, cdv, ct, osl, rfl, l, c⟩, k⟩
end
section
variable {X : Cx}
end
def Same (H H' : Hp) : Prop := ∀ b o, H b = some o -> H' b = some o
theorem Same.refl (H : Hp) : Same H H := fun _ _ h => h
theorem Same.trans {H H1 H2 : Hp} (a : Same H H1) (b : Same H1 H2) : Same H H2 := fun c o h => b c o (a c o h)
theorem Same.free {H H' : Hp} (e : Same H H') {l : Addr} (h : H' l = Option.none) : H l = Option.none := by
 cases q : H l with
 | none => rfl
 | some o =>
  rw [e l o q] at h
  cases h
end L2
namespace L2
open PySem PySem.Spec PyProof.Rows
section
variable {κ : Type} [DecidableEq κ]
def valV (kvs : List (κ × V)) (k : κ) : Option V := (kvs.find? fun kv => decide (kv.1 = k)).map (·.2)
def putK (kvs : List (κ × V)) (k : κ) (v : V) : List (κ × V) :=
 if (kvs.any fun kv => decide (kv.1 = k)) = true then kvs.map (fun kv => if kv.1 = k then (kv.1, v) else kv) else kvs ++ [(k, v)]
theorem valV_pos {p : κ × V} {r : List (κ × V)} {k : κ} (e : p.1 = k) : valV (p :: r) k = some p.2 := by simp [valV, List.find?_cons, e]
theorem valV_neg {p : κ × V} {r : List (κ × V)} {k : κ} (e : ¬ p.1 = k) : valV (p :: r) k = valV r k := by simp [valV, List.find?_cons, e]
theorem valV_any (k : κ) : ∀ kvs : List (κ × V), (kvs.any fun kv => decide (kv.1 = k)) = (valV kvs k).isSome
 | [] => rfl
 | p :: r => by
  rw [List.any_cons]
  by_cases e : p.1 = k
  ·simp only [valV_pos e, decide_eq_true e, Bool.true_or, Option.isSome_some]
  ·rw [valV_neg e, decide_eq_false e, Bool.false_or]; exact valV_any k r
theorem length_putK (kvs : List (κ × V)) (k : κ) (v : V) : (putK kvs k v).length <= kvs.length + 1 := by
 unfold putK
 split
 ·rw [List.length_map]; omega
 ·rw [List.length_append, List.length_cons, List.length_nil]; omega
theorem putK_new {kvs : List (κ × V)} {k : κ} (v : V) (h : valV kvs k = none) : putK kvs k v = kvs ++ [(k, v)] := by
 unfold putK
 rw [valV_any, h]
 exact if_neg (by decide)
theorem RelO.isSome_eq {o : Option V} {u : Option Value} (r : RelO o u) : o.isSome = u.isSome := by
 cases o with
 | none => cases u with
  | none => rfl
  | some _ => exact (show False from r).elim
 | some _ => cases u with
  | none => exact (show False from r).elim
  | some _ => rfl
theorem RelO.getD {o : Option V} {u : Option Value} {d : V} {d' : Value} (r : RelO o u) (rd : RelV d d') : RelV (o.getD d) (u.getD d') := by
 cases o with
 | none => cases u with
  | none => exact rd
  | some _ => exact (show False from r).elim
 | some _ => cases u with
  | none => exact (show False from r).elim
  | some _ => exact r
theorem KV.val {kvs : List (κ × V)} {vs : List (κ × Value)} (r : KV kvs vs) (k : κ) : RelO (valV kvs k) (valueAt vs k) := by
 unfold KV at r
 induction r with
 | nil => exact True.intro
 | @cons p q ps qs h t ih =>
  obtain ⟨h1, h2⟩ := h
  by_cases e : p.1 = k
  ·have e' : q.1 = k := h1.symm.trans e
   have b : valueAt (q :: qs) k = some q.2 := by simp [valueAt, List.find?_cons, e']
   rw [valV_pos e, b]; exact h2
  ·have e' : ¬ q.1 = k := fun z => e (h1.trans z)
   have b : valueAt (q :: qs) k = valueAt qs k := by simp [valueAt, List.find?_cons, e']
   rw [valV_neg e, b]; exact ih
theorem KV.any {kvs : List (κ × V)} {vs : List (κ × Value)} (r : KV kvs vs) (k : κ) : (kvs.any fun kv => decide (kv.1 = k)) = vs.any fun kv => decide (kv.1 = k) := by
 unfold KV at r
 induction r with
 | nil => rfl
 | cons h t ih => rw [List.any_cons, List.any_cons, ih, h.1]
theorem KV.repl {kvs : List (κ × V)} {vs : List (κ × Value)} (r : KV kvs vs) (k : κ) {y : V} {u : Value} (ry : RelV y u) :
  KV (kvs.map fun kv => if kv.1 = k then (kv.1, y) else kv) (vs.map fun kv => if kv.1 = k then (kv.1, u) else kv) := by
 unfold KV at r ⊢
 induction r with
 | nil => exact .nil
 | @cons p q ps qs h t ih =>
  rw [List.map_cons, List.map_cons]
  refine .cons ?_ ih
  obtain ⟨h1, h2⟩ := h
  by_cases e : p.1 = k
  ·rw [if_pos e, if_pos (h1.symm.trans e)]; exact ⟨h1, ry⟩
  ·rw [if_neg e, if_neg (fun z => e (h1.trans z))]; exact ⟨h1, h2⟩
theorem KV.put {kvs : List (κ × V)} {vs : List (κ × Value)} (r : KV kvs vs) (k : κ) {y : V} {u : Value} (ry : RelV y u) : KV (putK kvs k y) (stored vs k u) := by
 unfold putK stored
 rw [r.any k]
 by_cases e : (vs.any fun kv => decide (kv.1 = k)) = true
 ·rw [if_pos e, if_pos e]; exact r.repl k ry
 ·rw [if_neg e, if_neg e]; exact Paired.snoc r ⟨rfl, ry⟩
theorem KV.length {kvs : List (κ × V)} {vs : List (κ × Value)} (r : KV kvs vs) : kvs.length = vs.length := Paired.length r
end
theorem kV_is {P : Program} {w : World} {k : Key} {u : Value} (r : RelV (kV k) u) : (mixKind P w).is k u = true := by
 cases k with
 | inl i => obtain ⟨t, e⟩ := (show ∃ t, u = Value.int i t from r); subst e; exact mixKind_int P w i t
 | inr x => obtain ⟨t, e⟩ := (show ∃ t, u = Value.str x t from r); subst e; exact mixKind_str P w x t
theorem items_are {P : Program} {w : World} : ∀ {ks : List Key} {us : List Value}, Vals (ks.map kV) us -> ItemsAre (mixKind P w) ks us
 | [], _, r => by rw [List.map_nil] at r; cases r; exact .nil
 | k :: ks, _, r => by
  rw [List.map_cons] at r
  cases r with
  | cons h t => exact .cons (kV_is h) (items_are t)
abbrev KT (H : Hp) : List (List Key × V) -> List (List Key × Addr × Value) -> Prop := Paired fun p q => p.1 = q.1 /\ H q.2.1 = some (.tup (p.1.map kV)) /\ RelV p.2 q.2.2
theorem KT.val {H : Hp} {kvs : List (List Key × V)} {xs : List (List Key × Addr × Value)} (r : KT H kvs xs) (k : List Key) : RelO (valV kvs k) ((atKey xs k).map (·.2)) := by
 induction r with
 | nil => exact True.intro
 | @cons p q ps qs h t ih =>
  obtain ⟨h1, _, h2⟩ := h
  by_cases e : p.1 = k
  ·have e' : q.1 = k := h1.symm.trans e
   have b : atKey (q :: qs) k = some q.2 := by simp [atKey, List.find?_cons, e']
   rw [valV_pos e, b]; exact h2
  ·have e' : ¬ q.1 = k := fun z => e (h1.trans z)
   have b : atKey (q :: qs) k = atKey qs k := by simp [atKey, List.find?_cons, e']
   rw [valV_neg e, b]; exact ih
theorem KT.repl {H : Hp} {kvs : List (List Key × V)} {xs : List (List Key × Addr × Value)} (r : KT H kvs xs) (k : List Key) {y : V} {u : Value} (ry : RelV y u) :
  KT H (kvs.map fun kv => if kv.1 = k then (kv.1, y) else kv) (xs.map (putAt k u)) := by
 induction r with
 | nil => exact .nil
 | @cons p q ps qs h t ih =>
  rw [List.map_cons, List.map_cons]
  refine .cons ?_ ih
  obtain ⟨h1, h2, h3⟩ := h
  unfold putAt
  by_cases e : p.1 = k
  ·rw [if_pos e, if_pos (h1.symm.trans e)]; exact ⟨h1, h2, ry⟩
  ·rw [if_neg e, if_neg (fun z => e (h1.trans z))]; exact ⟨h1, h2, h3⟩
theorem KT.put {H : Hp} {kvs : List (List Key × V)} {xs : List (List Key × Addr × Value)} (r : KT H kvs xs) (k : List Key) {b : Addr} {y : V} {u : Value} (hb : H b = some (.tup (k.map kV))) (ry : RelV y u) :
  KT H (putK kvs k y) (storedH xs k b u) := by
 have e : (kvs.any fun kv => decide (kv.1 = k)) = (atKey xs k).isSome := by
  rw [valV_any, (r.val k).isSome_eq, Option.isSome_map]
 unfold putK storedH
 rw [e]
 by_cases q : (atKey xs k).isSome = true
 ·rw [if_pos q, if_pos q]; exact r.repl k ry
 ·rw [if_neg q, if_neg q]; exact Paired.snoc r ⟨rfl, hb, ry⟩
theorem KT.keeps {H H' : Hp} {kvs : List (List Key × V)} {xs : List (List Key × Addr × Value)} (r : KT H kvs xs) (ht : ∀ b ys, H b = some (.tup ys) -> H' b = some (.tup ys)) : KT H' kvs xs :=
 Paired.mapP r fun _ _ z => ⟨z.1, ht _ _ z.2.1, z.2.2⟩
section
variable {P : Program} {w : World} {H : Hp} {h : Heap} {a : Addr}
theorem rd_of {u : HO} (ok : HOk P w H h) (e : Rd H a u) : ObjOk P w H h a u := e.ok ok
theorem dk_rd {kvs : List (Key × V)} (ok : HOk P w H h) (e : Rd H a (.dK kvs)) : kvs.length <= sizeLine /\ (a == sysModules) = false /\ ∃ vs, KV kvs vs /\ h.DictOf (mixKind P w) a vs :=
 show ObjOk P w H h a (.dK kvs) from rd_of ok e
theorem dk_of {kvs : List (Key × V)} (ok : HOk P w H h) (e : H a = some (.dK kvs)) : kvs.length <= sizeLine /\ (a == sysModules) = false /\ ∃ vs, KV kvs vs /\ h.DictOf (mixKind P w) a vs := dk_rd ok (.inl e)
theorem key_of {ks : List Key} (ok : HOk P w H h) (e : H a = some (.tup (ks.map kV))) : (tupleKind (mixKind P w)).is h ks a := by
 obtain ⟨_, its, r, o, h1, h2, n, h3⟩ := (show ObjOk P w H h a (.tup (ks.map kV)) from ok a _ e)
 exact ⟨o, its.toArray, n, h1, h2, h3, by simpa using items_are r⟩
theorem dt_rd {kvs : List (List Key × V)} (ok : HOk P w H h) (e : Rd H a (.dT kvs)) : kvs.length <= sizeLine /\ (a == sysModules) = false /\
  ∃ xs, KT H kvs xs /\ h.DictOfH (tupleKind (mixKind P w)) a xs := by
 obtain ⟨z, y, xs, r, o, es, ep, h1, h2, h3, h4, h5⟩ := (show ObjOk P w H h a (.dT kvs) from rd_of ok e)
 refine ⟨z, y, xs, r, o, es, ep, h1, h2, h3, h4, fun x hx => ?_, h5⟩
 have all : ∀ {l : List (List Key × V)} {m : List (List Key × Addr × Value)}, KT H l m -> ∀ x ∈ m, (tupleKind (mixKind P w)).is h x.1 x.2.1 := by
  intro l m q
  induction q with
  | nil => intro x hx; exact nomatch hx
  | @cons p q ps qs hq t ih =>
   intro x hx
   rcases List.mem_cons.mp hx with e | hx
   ·subst e
    exact key_of ok (by rw [<- hq.1]; exact hq.2.1)
   ·exact ih x hx
 exact all r x hx
theorem dt_of {kvs : List (List Key × V)} (ok : HOk P w H h) (e : H a = some (.dT kvs)) : kvs.length <= sizeLine /\ (a == sysModules) = false /\
  ∃ xs, KT H kvs xs /\ h.DictOfH (tupleKind (mixKind P w)) a xs := dt_rd ok (.inl e)
end
def DGet (H : Hp) (a : Addr) (y : V) (r : Option V) : Prop :=
 (∃ kvs k, Rd H a (.dK kvs) /\ y = kV k /\ r = valV kvs k) \/ ∃ kvs k b, Rd H a (.dT kvs) /\ y = .ref b /\ H b = some (.tup (k.map kV)) /\ r = valV kvs k
def DPut (H : Hp) (a : Addr) (y v : V) (H' : Hp) : Prop :=
 (∃ kvs k, H a = some (.dK kvs) /\ y = kV k /\ kvs.length < sizeLine /\ H' = upd H a (.dK (putK kvs k v))) \/
 ∃ kvs k b, H a = some (.dT kvs) /\ y = .ref b /\ H b = some (.tup (k.map kV)) /\ kvs.length < sizeLine /\ H' = upd H a (.dT (putK kvs k v))
theorem DGet.k {H : Hp} {a : Addr} {kvs : List (Key × V)} {k : Key} (e : H a = some (.dK kvs)) : DGet H a (kV k) (valV kvs k) := .inl ⟨kvs, k, .inl e, rfl, rfl⟩
theorem DGet.t {H : Hp} {a b : Addr} {kvs : List (List Key × V)} {k : List Key} (e : H a = some (.dT kvs)) (eb : H b = some (.tup (k.map kV))) : DGet H a (.ref b) (valV kvs k) := .inr ⟨kvs, k, b, .inl e, rfl, eb, rfl⟩
theorem DPut.k {H : Hp} {a : Addr} {kvs : List (Key × V)} {k : Key} {v : V} (e : H a = some (.dK kvs)) (hl : kvs.length < sizeLine) : DPut H a (kV k) v (upd H a (.dK (putK kvs k v))) := .inl ⟨kvs, k, e, rfl, hl, rfl⟩
theorem DPut.t {H : Hp} {a b : Addr} {kvs : List (List Key × V)} {k : List Key} {v : V} (e : H a = some (.dT kvs)) (eb : H b = some (.tup (k.map kV))) (hl : kvs.length < sizeLine) :
  DPut H a (.ref b) v (upd H a (.dT (putK kvs k v))) := .inr ⟨kvs, k, b, e, rfl, eb, hl, rfl⟩
section
variable {X : Cx} {pins : List (Addr × Obj)} {σ : St} {H : Hp} {s : Shared} {a : Addr} {y v : V} {u r : Value} {o : Option V} {A : Around} {E : Value -> Shared -> Prop}
theorem Inv.big (I : Inv X pins σ H s) : sysModules < s.heap.objs.size := by
 have h : mainGlobals < s.heap.objs.size := (I.mod.glob.keeps I.bk).lt
 exact Nat.lt_trans (by decide) h
theorem d_getItem {Q : Value -> Shared -> Prop} (hu : A.units + 1 < cLine) (I : Inv X pins σ H s) (g : DGet H a y (some v)) (ry : RelV y u) (h : ∀ w' s', Inv X pins σ H s' -> RelV v w' -> Q w' s') :
  wpAny (model X.prog X.w) A (getItem (.ref a) u) Q E s := by
 rcases g with ⟨kvs, k, e, ey, l⟩ | ⟨kvs, k, b, e, ey, eb, l⟩
 ·subst ey
  obtain ⟨z, hd, vs, rel, dd⟩ := dk_rd I.hok e
  obtain ⟨w', hw, rw'⟩ := RelO.some_of (v := v) (o := valueAt vs k) (by rw [l]; exact rel.val k)
  exact wpAny_getItem_of (kV_is ry) dd.mapOf hw (h w' _ (I.tok _) rw')
 ·subst ey
  cases (show u = Value.ref b from ry)
  obtain ⟨z, hd, xs, rel, dd⟩ := dt_rd I.hok e
  obtain ⟨w', hw, rw'⟩ := RelO.some_of (v := v) (o := (atKey xs k).map (·.2)) (by rw [l]; exact rel.val k)
  obtain ⟨p, hp, hp2⟩ := Option.map_eq_some_iff.mp hw
  refine wpAny_getItem_heap (tupleKind_room_in1 hu) (key_of I.hok eb) dd hp ?_
  rw [hp2]
  exact h w' _ (I.tok _) rw'
theorem d_write {h' : Heap} {t' : Nat} {ob : HO} (I : Inv X pins σ H s) (mu : Mut (H a)) (hs : Heap.SameBut a s.heap h') (he : ∃ q, h'.get? a = some q) (new : ObjOk X.prog X.w (upd H a ob) h' a ob) :
  Inv X pins σ (upd H a ob) { s with heap := h', toks := t' } :=
 I.write (x := a) (e := a) mu (.inl rfl) (fun b q hb z => (hs.2 b hb).trans z) he new
theorem dk_new {P : Program} {w : World} {H' : Hp} {h' : Heap} {kvs : List (Key × V)} {vs : List (Key × Value)} (z : kvs.length <= sizeLine) (hd : (a == sysModules) = false) (rel : KV kvs vs) (dd : h'.DictOf (mixKind P w) a vs) :
  ObjOk P w H' h' a (.dK kvs) := ⟨z, hd, vs, rel, dd⟩
theorem d_setItem {H' : Hp} {Q : Unit -> Shared -> Prop} (hu : A.units + 1 < cLine) (I : Inv X pins σ H s) (g : DPut H a y v H') (ry : RelV y u) (rv : RelV v r) (h : ∀ s', Inv X pins σ H' s' -> Q () s') :
  wpAny (model X.prog X.w) A (setItem (.ref a) u r) Q E s := by
 rcases g with ⟨kvs, k, e, ey, l, eH⟩ | ⟨kvs, k, b, e, ey, eb, l, eH⟩
 ·subst ey eH
  obtain ⟨z, hd, vs, rel, dd⟩ := dk_of I.hok e
  have hz : vs.length <= sizeLine := by rw [<- rel.length]; exact z
  have hl : (putK kvs k v).length <= sizeLine := by have := length_putK kvs k v; omega
  refine wpAny_setItem_pairs (hsz := hz) (kV_is ry) dd fun h' dd' hs => h _ ?_
  have he : ∃ q, h'.get? a = some q := let ⟨q, _, _, hq, _⟩ := dd'; ⟨q, hq⟩
  exact d_write I (by rw [e]; exact True.intro) hs he (dk_new hl hd (rel.put k rv) dd')
 ·subst ey eH
  cases (show u = Value.ref b from ry)
  obtain ⟨z, hd, xs, rel, dd⟩ := dt_of I.hok e
  have hz : xs.length <= sizeLine := by rw [<- Paired.length rel]; exact z
  have hl : (putK kvs k v).length <= sizeLine := by have := length_putK kvs k v; omega
  refine wpAny_setItem_heap (hsz := hz) (tupleKind_room_in1 hu) (key_of I.hok eb) dd fun h' dd' hs => h _ ?_
  obtain ⟨q, es, ep, hq, h2, h3, h4, _, h5⟩ := dd'
  refine d_write I (by rw [e]; exact True.intro) hs ⟨q, hq⟩ ⟨hl, hd, _, (rel.put k eb rv).keeps fun c ys ec => ?_, q, es, ep, hq, h2, h3, h4, h5⟩
  rw [upd_ne (ne_of ec e (fun z => nomatch z))]
  exact ec
end
section
variable {X : Cx} {pins : List (Addr × Obj)} {σ : St} {H : Hp} {s : Shared} {a : Addr} {kvs : List (Key × V)} {k : Key} {u : Value} {A : Around} {E : Value -> Shared -> Prop}
end
def NoSl (i : Expr) : Prop := ∀ ov iv, subscripted i false ov iv = operate [ov, iv] (getItem ov iv)
theorem subD_of {prog : Program} {w : World} {A : Around} {E : Value -> Shared -> Prop} {s : Shared} {env : Env} {value slice : Expr} {pos : Pos} {T id : String} {Q : Value -> Shared -> Prop}
  (hl : typeLookup (.type T) "__getitem__" = pure (some (.builtin id))) (hs : NoSl slice)
  (h : wpAny (model prog w) A (eval value env) (fun o s₁ => wpAny (model prog w) A (eval slice env) (fun i s₂ => s₂.TypeIs o T /\ wpAny (model prog w) A (getItem o i) Q E s₂) E s₁) E s) :
  wpAny (model prog w) A (eval (.Subscript value slice pos) env) Q E s := by
 refine Subscript_ (wpAny_mono h (fun o s₁ h₁ => wpAny_mono h₁ (fun i s₂ h₂ => ?_) fun _ _ x => x) fun _ _ x => x)
 obtain ⟨hT, h₂⟩ := h₂
 unfold subscriptTail
 refine wpAny_bind ?_
 rw [getitemInPython_of_ne hT.not_modules]
 refine wpAny_bind (wpAny_specialOf hT hl ?_)
 have fin : wpAny (model prog w) A (subscripted slice false o i) (fun r s₃ => wpAny (model prog w) A (letTemporaryGo value o r >>= fun _ => pure r) Q E s₃) E s₂ := by
  rw [hs o i]
  exact wpAny_operating (wpAny_mono h₂ (fun r s₃ h₃ => wpAny_bind (wpAny_letTemporaryGo (wpAny_pure h₃))) fun _ _ x => x)
 first
  | exact wpAny_pure (wpAny_bind fin)
  | exact wpAny_bind (wpAny_pure (wpAny_bind fin))
  | exact wpAny_bind fin
theorem dict_typeIs {X : Cx} {pins : List (Addr × Obj)} {σ : St} {H : Hp} {s : Shared} {a : Addr} {y : V} {o : Option V} (I : Inv X pins σ H s) (g : DGet H a y o) : s.TypeIs (.ref a) "dict" := by
 rcases g with ⟨kvs, k, e, _, _⟩ | ⟨kvs, k, b, e, _, _, _⟩
 ·obtain ⟨_, _, vs, _, dd⟩ := dk_rd I.hok e
  exact dd.typeIs
 ·obtain ⟨_, _, xs, _, dd⟩ := dt_rd I.hok e
  exact dd.typeIs
def tDGet (td ty : TE) : TE := fun σ H Q => td σ H fun x H1 => ty σ H1 fun y H2 => ∃ a v, x = .ref a /\ DGet H2 a y (some v) /\ Q v H2
def sDPut (td ty tv : TE) : TS := fun D σ H => tv σ H fun v H1 => td σ H1 fun x H2 => ty σ H2 fun y H3 => ∃ a H4, x = .ref a /\ DPut H3 a y v H4 /\ D.nx σ H4
section
variable {X : Cx} {o i e value : Expr} {pos pos' tpos : Pos} {td ty tv : TE}
theorem pe_dget (hu : X.A.units + 1 < cLine) (ho : PE X o td) (hi : PE X i ty) (hs : NoSl i) : PE X (.Subscript o i pos) (tDGet td ty) := by
 intro pins s σ H Q I h
 refine subD_of PySem.F.slot_dict_getitem.lookup hs (thn (ho pins s σ H _ I h) fun u s1 ⟨x, H1, I1, rx, q1⟩ => thn (hi pins s1 σ H1 _ I1 q1) fun iv s2 ⟨y, H2, I2, ry, a, v, ex, g, q2⟩ => ?_)
 subst ex
 obtain rfl : u = Value.ref a := rx
 exact ⟨dict_typeIs I2 g, d_getItem hu I2 g ry fun w' s3 I3 rw' => ⟨v, H2, I3, rw', q2⟩⟩
theorem ps_dput (hu : X.A.units + 1 < cLine) (ho : PE X o td) (hi : PE X i ty) (hv : PE X value tv) (hs : swapsWith value (some (.Subscript o i pos')) pos.line X.env = pure false) :
  PS X (.Assign [.Subscript o i pos'] value pos) (sDPut td ty tv) := by
 intro pins s σ H D I h
 refine wpAny_Assign_Subscript (thn (hv pins s σ H _ I h) fun r s1 ⟨v, H1, I1, rv, q1⟩ => thn (ho pins s1 σ H1 _ I1 q1) fun u s2 ⟨x, H2, I2, rx, q2⟩ => thn (hi pins s2 σ H2 _ I2 q2) fun iv s3 ⟨y, H3, I3, ry, a, H4, ex, g, q3⟩ => ?_) hs
 subst ex
 obtain rfl : u = Value.ref a := rx
 exact d_setItem hu I3 g ry rv fun s4 I4 => ⟨σ, H4, I4, q3⟩
end
theorem dk_empty {P : Program} {w : World} {H : Hp} (h : Heap) (hb : sysModules < h.objs.size) : ObjOk P w H (h.push { cls := .type "dict", data := .dict #[] }) h.objs.size (.dK []) :=
 ⟨Nat.zero_le _, beq_eq_false_iff_ne.mpr (Ne.symm (Nat.ne_of_lt hb)), [], .nil, Heap.DictOf.new h⟩
def tDNewK : TE := fun _ H Q => ∀ p, H p = none -> Q (.ref p) (upd H p (.dK []))
section
variable {X : Cx} {pos : Pos}
theorem pe_dnewK : PE X (.Dict [] [] pos) tDNewK := fun pins s σ H Q I h =>
 wpAny_Dict_empty ⟨.ref s.heap.objs.size, _, I.laid (a := s.heap.objs.size) (o := .dK []) (t' := s.toks) (fun _ _ q => Heap.get?_push_of_some _ q) (Nat.le_refl _) (dk_empty s.heap I.big), rfl, h _ (I.hok.fresh (Nat.le_refl _))⟩
end
section
variable {X : Cx} {pins : List (Addr × Obj)} {σ : St} {H : Hp} {s : Shared} {a : Addr} {y d : V} {u r : Value} {o : Option V} {A : Around} {E : Value -> Shared -> Prop}
end
section
variable {X : Cx} {o e f : Expr} {apos cpos : Pos} {td ty tx : TE}
end
section
variable {X : Cx} {pins : List (Addr × Obj)} {σ : St} {H : Hp} {s : Shared} {a : Addr} {kvs : List (Key × V)} {A : Around} {E : Value -> Shared -> Prop}
end
section
variable {X : Cx} {pins : List (Addr × Obj)} {σ : St} {H : Hp} {s : Shared} {a : Addr} {y : V} {u : Value} {A : Around} {E : Value -> Shared -> Prop}
end
end L2
namespace L2
open PySem PySem.Spec PyProof.Rows
section
variable {X : Cx}
end
section
variable {κ : Type} [DecidableEq κ]
end
end L2
end
section
namespace L3
open PySem L2
def Scr (K : PySem.W.Frag) (H : Hp) (a : Addr) (ns : List Int) : Prop := (∃ o, H a = some (.frz o (.lst (ns.map V.int)))) \/ SqL K (fun _ => none) a (ns.map V.int)
mutual
def Dn (K : PySem.W.Frag) (S : Addr -> Prop) (H : Hp) : D -> V -> Prop
 | .non, v => v = .non
 | .bl b, v => v = .bl b
 | .int i, v => v = .int i
 | .str x, v => v = .str x
 | .tup ds, v => ∃ a xs, v = .ref a /\ SqT K H a xs /\ Dns K S H ds xs
 | .lst ds, v => ∃ a xs, v = .ref a /\ H a = some (.lst xs) /\ S a /\ Dns K S H ds xs
 | .scr ns, v => ∃ a, v = .ref a /\ Scr K H a ns
 | .dic ks ds, v => ∃ a xs, v = .ref a /\ H a = some (.dK (ks.zip xs)) /\ S a /\ ks.length = xs.length /\ Dns K S H ds xs
 | .dicT ks ds, v => ∃ a xs, v = .ref a /\ H a = some (.dT (ks.zip xs)) /\ S a /\ ks.length = xs.length /\ Dns K S H ds xs
 | .exc _ a, v => v = .ref a
def Dns (K : PySem.W.Frag) (S : Addr -> Prop) (H : Hp) : List D -> List V -> Prop
 | [], xs => xs = []
 | d :: ds, xs => ∃ v r, xs = v :: r /\ Dn K S H d v /\ Dns K S H ds r
end
structure Fits (K : PySem.W.Frag) (S S' : Addr -> Prop) (H H' : Hp) : Prop where
 t : ∀ a xs, SqT K H a xs -> SqT K H' a xs
 s : ∀ a ns, Scr K H a ns -> Scr K H' a ns
 l : ∀ a xs, H a = some (.lst xs) -> S a -> H' a = some (.lst xs) /\ S' a
 d : ∀ a xs, H a = some (.dK xs) -> S a -> H' a = some (.dK xs) /\ S' a
 e : ∀ a xs, H a = some (.dT xs) -> S a -> H' a = some (.dT xs) /\ S' a
section
variable {K : PySem.W.Frag} {S S' : Addr -> Prop} {H H' : Hp}
mutual
theorem Dn.fits (f : Fits K S S' H H') : ∀ (d : D) (v : V), Dn K S H d v -> Dn K S' H' d v
 | .non, v, h => by simpa only [Dn] using h
 | .bl b, v, h => by simpa only [Dn] using h
 | .int i, v, h => by simpa only [Dn] using h
 | .str x, v, h => by simpa only [Dn] using h
 | .tup ds, v, h => by
  simp only [Dn] at h ⊢
  obtain ⟨a, xs, e, q, r⟩ := h
  exact ⟨a, xs, e, f.t a xs q, Dns.fits f ds xs r⟩
 | .lst ds, v, h => by
  simp only [Dn] at h ⊢
  obtain ⟨a, xs, e, q, s, r⟩ := h
  obtain ⟨q', s'⟩ := f.l a xs q s
  exact ⟨a, xs, e, q', s', Dns.fits f ds xs r⟩
 | .scr ns, v, h => by
  simp only [Dn] at h ⊢
  obtain ⟨a, e, q⟩ := h
  exact ⟨a, e, f.s a ns q⟩
 | .dic ks ds, v, h => by
  simp only [Dn] at h ⊢
  obtain ⟨a, xs, e, q, s, l, r⟩ := h
  obtain ⟨q', s'⟩ := f.d a _ q s
  exact ⟨a, xs, e, q', s', l, Dns.fits f ds xs r⟩
 | .dicT ks ds, v, h => by
  simp only [Dn] at h ⊢
  obtain ⟨a, xs, e, q, s, l, r⟩ := h
  obtain ⟨q', s'⟩ := f.e a _ q s
  exact ⟨a, xs, e, q', s', l, Dns.fits f ds xs r⟩
 | .exc _ _, v, h => by simpa only [Dn] using h
theorem Dns.fits (f : Fits K S S' H H') : ∀ (ds : List D) (xs : List V), Dns K S H ds xs -> Dns K S' H' ds xs
 | [], xs, h => by simpa only [Dns] using h
 | d :: ds, xs, h => by
  simp only [Dns] at h ⊢
  obtain ⟨v, r, e, h1, h2⟩ := h
  exact ⟨v, r, e, Dn.fits f d v h1, Dns.fits f ds r h2⟩
end
mutual
theorem Dn.imm {d : D} (hi : d.imm = true) {v : V} (h : Dn K S H d v) : Dn K S' H d v := by
 match d, hi, h with
 | .non, _, h => simpa only [Dn] using h
 | .bl b, _, h => simpa only [Dn] using h
 | .int i, _, h => simpa only [Dn] using h
 | .str x, _, h => simpa only [Dn] using h
 | .tup ds, hi, h =>
  simp only [Dn] at h ⊢
  obtain ⟨a, xs, e, q, r⟩ := h
  exact ⟨a, xs, e, q, Dns.imm (ds := ds) (by simpa only [D.imm] using hi) r⟩
 | .scr ns, _, h => simpa only [Dn] using h
 | .exc _ _, _, h => simpa only [Dn] using h
theorem Dns.imm {ds : List D} (hi : imms ds = true) {xs : List V} (h : Dns K S H ds xs) : Dns K S' H ds xs := by
 match ds, hi, h with
 | [], _, h => simpa only [Dns] using h
 | d :: ds, hi, h =>
  simp only [imms, Bool.and_eq_true] at hi
  simp only [Dns] at h ⊢
  obtain ⟨v, r, e, h1, h2⟩ := h
  exact ⟨v, r, e, Dn.imm hi.1 h1, Dns.imm hi.2 h2⟩
end
theorem Same.tup (e : Same H H') {a : Addr} {xs : List V} (h : SqT K H a xs) : SqT K H' a xs := by
 rcases h with (h | ⟨o, h⟩) | h
 ·exact .inl (.inl (e _ _ h))
 ·exact .inl (.inr ⟨o, e _ _ h⟩)
 ·exact .inr h
theorem SqL.some {a : Addr} {xs : List V} (h : SqL K (fun _ => none) a xs) : SqL K H a xs := by
 rcases h with (h | ⟨o, h⟩) | h
 ·cases h
 ·cases h
 ·exact .inr h
theorem Scr.sq {a : Addr} {ns : List Int} (h : Scr K H a ns) : SqL K H a (ns.map V.int) := by
 rcases h with ⟨o, h⟩ | h
 ·exact .inl (.inr ⟨o, h⟩)
 ·exact SqL.some h
def Wr (H : Hp) (p : Addr) : Prop := (∃ xs, H p = some (.lst xs)) \/ (∃ xs, H p = some (.dK xs)) \/ ∃ xs, H p = some (.dT xs)
theorem Wr.tup {p a : Addr} {o : HO} {xs : List V} (w : Wr H p) (h : SqT K H a xs) : SqT K (upd H p o) a xs := by
 have ne : ∀ u, H a = some u -> (u = .tup xs \/ ∃ o, u = .frz o (.tup xs)) -> a ≠ p := by
  intro u hu hk e
  subst e
  rcases w with ⟨ys, w⟩ | ⟨ys, w⟩ | ⟨ys, w⟩ <;> rw [hu] at w <;> cases w <;> rcases hk with hk | ⟨o, hk⟩ <;> cases hk
 rcases h with (h | ⟨o, h⟩) | h
 ·exact .inl (.inl (by rw [upd_ne (ne _ h (.inl rfl))]; exact h))
 ·exact .inl (.inr ⟨o, by rw [upd_ne (ne _ h (.inr ⟨o, rfl⟩))]; exact h⟩)
 ·exact .inr h
theorem Wr.scr {p a : Addr} {o : HO} {ns : List Int} (w : Wr H p) (h : Scr K H a ns) : Scr K (upd H p o) a ns := by
 rcases h with ⟨ob, h⟩ | h
 ·refine .inl ⟨ob, ?_⟩
  rw [upd_ne]
  ·exact h
  ·intro e
   subst e
   rcases w with ⟨ys, w⟩ | ⟨ys, w⟩ | ⟨ys, w⟩ <;> rw [h] at w <;> cases w
 ·exact .inr h
theorem Fits.same (e : Same H H') : Fits K S S H H' :=
 ⟨fun a xs h => Same.tup e h, fun a ns h => h.elim (fun ⟨o, h⟩ => .inl ⟨o, e _ _ h⟩) .inr, fun a xs h s => ⟨e _ _ h, s⟩, fun a xs h s => ⟨e _ _ h, s⟩, fun a xs h s => ⟨e _ _ h, s⟩⟩
theorem Fits.mono (m : ∀ a, S a -> S' a) : Fits K S S' H H :=
 ⟨fun _ _ h => h, fun _ _ h => h, fun a _ h s => ⟨h, m a s⟩, fun a _ h s => ⟨h, m a s⟩, fun a _ h s => ⟨h, m a s⟩⟩
theorem Fits.fresh {p : Addr} (hp : H p = none) : Fits K S (fun a => S a /\ a ≠ p) H H :=
 ⟨fun _ _ h => h, fun _ _ h => h, fun a _ h s => ⟨h, s, ne_of_none h hp⟩, fun a _ h s => ⟨h, s, ne_of_none h hp⟩, fun a _ h s => ⟨h, s, ne_of_none h hp⟩⟩
theorem Fits.upd {p : Addr} {o : HO} (w : Wr H p) (hs : ¬ S p) : Fits K S S H (upd H p o) := by
 have ne : ∀ a, S a -> a ≠ p := fun a s e => hs (e ▸ s)
 exact ⟨fun a xs h => w.tup h, fun a ns h => w.scr h, fun a xs h s => ⟨by rw [upd_ne (ne a s)]; exact h, s⟩, fun a xs h s => ⟨by rw [upd_ne (ne a s)]; exact h, s⟩, fun a xs h s => ⟨by rw [upd_ne (ne a s)]; exact h, s⟩⟩
theorem Fits.trans {S'' : Addr -> Prop} {H'' : Hp} (a : Fits K S S' H H') (b : Fits K S' S'' H' H'') : Fits K S S'' H H'' :=
 ⟨fun x xs h => b.t x xs (a.t x xs h), fun x ns h => b.s x ns (a.s x ns h), fun x xs h s => let ⟨h1, s1⟩ := a.l x xs h s; b.l x xs h1 s1, fun x xs h s => let ⟨h1, s1⟩ := a.d x xs h s; b.d x xs h1 s1, fun x xs h s => let ⟨h1, s1⟩ := a.e x xs h s; b.e x xs h1 s1⟩
theorem same_upd {p : Addr} {o : HO} (hp : H p = none) : Same H (upd H p o) := fun b u h => by rw [upd_ne (ne_of_none h hp)]; exact h
theorem Dns.len : ∀ {ds : List D} {xs : List V}, Dns K S H ds xs -> ds.length = xs.length
 | [], xs, h => by simp only [Dns] at h; subst h; rfl
 | d :: ds, xs, h => by
  simp only [Dns] at h
  obtain ⟨v, r, e, _, h2⟩ := h
  subst e
  simp [Dns.len h2]
theorem Dns.get : ∀ {ds : List D} {xs : List V} {i : Nat} {d : D}, Dns K S H ds xs -> ds[i]? = some d -> ∃ v, xs[i]? = some v /\ Dn K S H d v
 | [], xs, i, d, h, e => by simp at e
 | d :: ds, xs, i, d', h, e => by
  simp only [Dns] at h
  obtain ⟨v, r, e1, h1, h2⟩ := h
  subst e1
  cases i with
  | zero => simp at e; subst e; exact ⟨v, by simp, h1⟩
  | succ i =>
   obtain ⟨u, e2, q⟩ := Dns.get (i := i) (d := d') h2 (by simpa using e)
   exact ⟨u, by simpa using e2, q⟩
theorem Dns.nil : Dns K S H [] [] := by simp only [Dns]
theorem Dns.cons {d : D} {ds : List D} {v : V} {xs : List V} (h : Dn K S H d v) (t : Dns K S H ds xs) : Dns K S H (d :: ds) (v :: xs) := by
 simp only [Dns]; exact ⟨v, xs, rfl, h, t⟩
theorem Dns.uncons {d : D} {ds : List D} {xs : List V} (h : Dns K S H (d :: ds) xs) : ∃ v r, xs = v :: r /\ Dn K S H d v /\ Dns K S H ds r := by
 simpa only [Dns] using h
theorem Dns.append : ∀ {ds es : List D} {xs ys : List V}, Dns K S H ds xs -> Dns K S H es ys -> Dns K S H (ds ++ es) (xs ++ ys)
 | [], es, xs, ys, h, g => by simp only [Dns] at h; subst h; exact g
 | d :: ds, es, xs, ys, h, g => by
  obtain ⟨v, r, e, h1, h2⟩ := h.uncons
  subst e
  exact Dns.cons h1 (Dns.append h2 g)
theorem Dns.one {d : D} {v : V} (h : Dn K S H d v) : Dns K S H [d] [v] := Dns.cons h Dns.nil
theorem Dns.take : ∀ {ds : List D} {xs : List V} (n : Nat), Dns K S H ds xs -> Dns K S H (ds.take n) (xs.take n)
 | _, _, 0, _ => by simp [Dns.nil]
 | [], xs, n + 1, h => by simp only [Dns] at h; subst h; simp [Dns.nil]
 | d :: ds, xs, n + 1, h => by
  obtain ⟨v, r, e, h1, h2⟩ := h.uncons
  subst e
  simpa using Dns.cons h1 (Dns.take n h2)
theorem Dns.drop : ∀ {ds : List D} {xs : List V} (n : Nat), Dns K S H ds xs -> Dns K S H (ds.drop n) (xs.drop n)
 | _, _, 0, h => by simpa using h
 | [], xs, n + 1, h => by simp only [Dns] at h; subst h; simp [Dns.nil]
 | d :: ds, xs, n + 1, h => by
  obtain ⟨v, r, e, h1, h2⟩ := h.uncons
  subst e
  simpa using Dns.drop n h2
theorem Dns.erase : ∀ {ds : List D} {xs : List V} (n : Nat), Dns K S H ds xs -> Dns K S H (ds.eraseIdx n) (xs.eraseIdx n)
 | [], xs, n, g => by simp only [Dns] at g; subst g; simp [Dns.nil]
 | d :: ds, xs, n, g => by
  obtain ⟨v, r, e, h1, h2⟩ := g.uncons
  subst e
  cases n with
  | zero => exact h2
  | succ n => exact Dns.cons h1 (Dns.erase n h2)
theorem Dns.insert : ∀ {ds : List D} {xs : List V} {d : D} {v : V} (n : Nat), Dn K S H d v -> Dns K S H ds xs -> Dns K S H (ds.take n ++ d :: ds.drop n) (xs.take n ++ v :: xs.drop n) :=
 fun n h g => Dns.append (Dns.take n g) (Dns.cons h (Dns.drop n g))
theorem Dns.ints : ∀ {ns : List Int} {xs : List V}, Dns K S H (ns.map D.int) xs ↔ xs = ns.map V.int
 | [], xs => by simp [Dns]
 | n :: ns, xs => by
  rw [List.map_cons, List.map_cons]
  constructor
  ·intro h
   obtain ⟨v, r, e, h1, h2⟩ := h.uncons
   simp only [Dn] at h1
   rw [e, h1, Dns.ints.mp h2]
  ·intro e
   rw [e]
   exact Dns.cons (by simp only [Dn]) (Dns.ints.mpr rfl)
theorem imms_ints : ∀ ns : List Int, imms (ns.map D.int) = true
 | [] => rfl
 | n :: ns => by rw [List.map_cons, imms, imms_ints ns]; rfl
end
def Sl (K : PySem.W.Frag) (S : Addr -> Prop) (H : Hp) (ρ : DEnv) (σ : St) : Prop := ∀ (i : Nat) (d : D), ρ[i]? = some (some d) -> ∃ v, σ[i]? = some (some v) /\ Dn K S H d v
theorem Sl.fits {K : PySem.W.Frag} {S S' : Addr -> Prop} {H H' : Hp} {ρ : DEnv} {σ : St} (f : Fits K S S' H H') (h : Sl K S H ρ σ) : Sl K S' H' ρ σ := fun i d e =>
 let ⟨v, e1, q⟩ := h i d e; ⟨v, e1, Dn.fits f d v q⟩
def OwnD (K : PySem.W.Frag) (S : Addr -> Prop) (H : Hp) (d : D) (p : Addr) : Prop :=
 match d with
 | .lst ds => ∃ xs, H p = some (.lst xs) /\ Dns K S H ds xs
 | .dic ks ds => ∃ xs, H p = some (.dK (ks.zip xs)) /\ ks.length = xs.length /\ Dns K S H ds xs
 | .dicT ks ds => ∃ xs, H p = some (.dT (ks.zip xs)) /\ ks.length = xs.length /\ Dns K S H ds xs
 | _ => False
def SO (S : Addr -> Prop) (w : Nat -> Addr) (ρ : SEnv) : Addr -> Prop := fun a => S a /\ ∀ (i : Nat) (d : D), ρ[i]? = some (Sv.ow d) -> a ≠ w i
structure ST (K : PySem.W.Frag) (H₀ : Hp) (S : Addr -> Prop) (w : Nat -> Addr) (σ : St) (H : Hp) (ρ : SEnv) (G : List (D × V)) : Prop where
 fc : ∀ a, H₀ a = none -> S a
 sm : Same H₀ H
 own : ∀ (i : Nat) (d : D), ρ[i]? = some (Sv.ow d) -> σ[i]? = some (some (.ref (w i))) /\ H₀ (w i) = none /\ OwnD K (SO S w ρ) H d (w i)
 inj : ∀ (i j : Nat) (d e : D), ρ[i]? = some (Sv.ow d) -> ρ[j]? = some (Sv.ow e) -> w i = w j -> i = j
 ro : ∀ (i : Nat) (d : D), ρ[i]? = some (Sv.ro d) -> ∃ v, σ[i]? = some (some v) /\ Dn K (SO S w ρ) H d v
 gh : ∀ g ∈ G, Dn K (SO S w ρ) H g.1 g.2
section
variable {K : PySem.W.Frag} {H₀ H H' : Hp} {S S' : Addr -> Prop} {w : Nat -> Addr} {σ : St} {ρ : SEnv} {G : List (D × V)}
theorem OwnD.wr {d : D} {p : Addr} (h : OwnD K S H d p) : Wr H p := by
 cases d with
 | lst ds => obtain ⟨xs, e, _⟩ := h; exact .inl ⟨_, e⟩
 | dic ks ds => obtain ⟨xs, e, _⟩ := h; exact .inr (.inl ⟨_, e⟩)
 | dicT ks ds => obtain ⟨xs, e, _⟩ := h; exact .inr (.inr ⟨_, e⟩)
 | _ => exact False.elim h
theorem OwnD.dn {d : D} {p : Addr} (h : OwnD K S H d p) (hs : S' p) (m : ∀ a, S a -> S' a) : Dn K S' H d (.ref p) := by
 cases d with
 | lst ds => obtain ⟨xs, e, q⟩ := h; simp only [Dn]; exact ⟨p, xs, rfl, e, hs, Dns.fits (.mono m) ds xs q⟩
 | dic ks ds => obtain ⟨xs, e, l, q⟩ := h; simp only [Dn]; exact ⟨p, xs, rfl, e, hs, l, Dns.fits (.mono m) ds xs q⟩
 | dicT ks ds => obtain ⟨xs, e, l, q⟩ := h; simp only [Dn]; exact ⟨p, xs, rfl, e, hs, l, Dns.fits (.mono m) ds xs q⟩
 | _ => exact False.elim h
theorem OwnD.fits {d : D} {p : Addr} (f : Fits K S S' H H') (hp : ∀ o, H p = some o -> H' p = some o) (h : OwnD K S H d p) : OwnD K S' H' d p := by
 cases d with
 | lst ds => obtain ⟨xs, e, q⟩ := h; exact ⟨xs, hp _ e, Dns.fits f ds xs q⟩
 | dic ks ds => obtain ⟨xs, e, l, q⟩ := h; exact ⟨xs, hp _ e, l, Dns.fits f ds xs q⟩
 | dicT ks ds => obtain ⟨xs, e, l, q⟩ := h; exact ⟨xs, hp _ e, l, Dns.fits f ds xs q⟩
 | _ => exact False.elim h
theorem ST.fcH (h : ST K H₀ S w σ H ρ G) : ∀ a, H a = none -> S a := fun a e => h.fc a (h.sm.free e)
theorem ST.fcO (h : ST K H₀ S w σ H ρ G) : ∀ a, H a = none -> SO S w ρ a := fun a e => ⟨h.fcH a e, fun i d q z => by
 have wr := (h.own i d q).2.2.wr
 subst z
 rcases wr with ⟨xs, k⟩ | ⟨xs, k⟩ | ⟨xs, k⟩ <;> rw [e] at k <;> cases k⟩
theorem getElem?_vAll {i : Nat} {d : D} (h : (vAll ρ)[i]? = some (some d)) : ρ[i]? = some (Sv.ro d) \/ ρ[i]? = some (Sv.ow d) := by
 unfold vAll at h
 rw [List.getElem?_map] at h
 cases e : ρ[i]? with
 | none => rw [e] at h; cases h
 | some s =>
  rw [e] at h
  cases s with
  | no => cases h
  | ro d' => cases h; exact .inl rfl
  | ow d' => cases h; exact .inr rfl
theorem getElem?_vRd {i : Nat} {d : D} (h : (vRd ρ)[i]? = some (some d)) : ρ[i]? = some (Sv.ro d) := by
 unfold vRd at h
 rw [List.getElem?_map] at h
 cases e : ρ[i]? with
 | none => rw [e] at h; cases h
 | some s =>
  rw [e] at h
  cases s with
  | no => cases h
  | ro d' => cases h; rfl
  | ow d' => cases h
theorem ST.all (h : ST K H₀ S w σ H ρ G) : Sl K S H (vAll ρ) σ := fun i d e => by
 rcases getElem?_vAll e with e | e
 ·obtain ⟨v, e1, q⟩ := h.ro i d e
  exact ⟨v, e1, Dn.fits (.mono fun _ z => z.1) d v q⟩
 ·obtain ⟨e1, e2, q⟩ := h.own i d e
  exact ⟨_, e1, q.dn (h.fc _ e2) fun _ z => z.1⟩
theorem ST.rd (h : ST K H₀ S w σ H ρ G) : Sl K (SO S w ρ) H (vRd ρ) σ := fun i d e => h.ro i d (getElem?_vRd e)
theorem ST.same (h : ST K H₀ S w σ H ρ G) (e : Same H H') : ST K H₀ S w σ H' ρ G :=
 ⟨h.fc, h.sm.trans e, fun i d q => let ⟨a, b, c⟩ := h.own i d q; ⟨a, b, c.fits (.same e) fun o z => e _ o z⟩, h.inj, fun i d q => let ⟨v, a, b⟩ := h.ro i d q; ⟨v, a, Dn.fits (.same e) d v b⟩, fun g hg => Dn.fits (.same e) _ _ (h.gh g hg)⟩
theorem SO.mono {ρ' : SEnv} (hw : ∀ (i : Nat) (d : D), ρ'[i]? = some (Sv.ow d) -> ∃ e, ρ[i]? = some (Sv.ow e)) : ∀ a, SO S w ρ a -> SO S w ρ' a := fun a hq6 => by obtain ⟨s, n⟩ := hq6; exact ⟨s, fun i d e => let ⟨d', e'⟩ := hw i d e; n i d' e'⟩
theorem get_set {α : Type} {l : List α} {i j : Nat} {x y : α} (h : (l.set i x)[j]? = some y) : (j = i /\ y = x /\ i < l.length) \/ (j ≠ i /\ l[j]? = some y) := by
 by_cases e : j = i
 ·subst e
  by_cases hl : j < l.length
  ·rw [List.getElem?_set_self hl] at h
   exact .inl ⟨rfl, (Option.some.inj h).symm, hl⟩
  ·rw [List.getElem?_eq_none (by simp; omega)] at h
   cases h
 ·rw [List.getElem?_set_ne (Ne.symm e)] at h
  exact .inr ⟨e, h⟩
theorem ST.set_ro {i : Nat} {d : D} {v : V} (h : ST K H₀ S w σ H ρ G) (hi : i < σ.length) (q : Dn K (SO S w ρ) H d v) : ST K H₀ S w (σ.set i (some v)) H (ρ.set i (.ro d)) G := by
 have hw : ∀ (j : Nat) (e : D), (ρ.set i (.ro d))[j]? = some (Sv.ow e) -> j ≠ i /\ ρ[j]? = some (Sv.ow e) := fun j e he => by
  rcases get_set he with ⟨_, z, _⟩ | z
  ·cases z
  ·exact z
 have m : ∀ a, SO S w ρ a -> SO S w (ρ.set i (.ro d)) a := SO.mono fun j e he => ⟨e, (hw j e he).2⟩
 refine ⟨h.fc, h.sm, fun j e he => ?_, fun j k d' e' h1 h2 => h.inj j k d' e' (hw j d' h1).2 (hw k e' h2).2, fun j e he => ?_, fun g hg => Dn.fits (.mono m) _ _ (h.gh g hg)⟩
 ·obtain ⟨hj, he'⟩ := hw j e he
  obtain ⟨a, b, c⟩ := h.own j e he'
  exact ⟨by rw [List.getElem?_set_ne (Ne.symm hj)]; exact a, b, c.fits (.mono m) fun _ z => z⟩
 ·rcases get_set he with ⟨hj, z, _⟩ | ⟨hj, z⟩
  ·cases z
   subst hj
   exact ⟨v, List.getElem?_set_self hi, Dn.fits (.mono m) d v q⟩
  ·obtain ⟨u, a, b⟩ := h.ro j e z
   exact ⟨u, by rw [List.getElem?_set_ne (Ne.symm hj)]; exact a, Dn.fits (.mono m) e u b⟩
theorem ST.set_ow {i : Nat} {d : D} {p : Addr} (h : ST K H₀ S w σ H ρ G) (hi : i < σ.length) (e : Same H H') (hp : H p = none) (q : OwnD K (fun a => SO S w ρ a /\ a ≠ p) H' d p) :
  ST K H₀ S (fun j => if j = i then p else w j) (σ.set i (some (.ref p))) H' (ρ.set i (.ow d)) G := by
 have h0 : H₀ p = none := h.sm.free hp
 have hw : ∀ (j : Nat) (e : D), j ≠ i -> (ρ.set i (.ow d))[j]? = some (Sv.ow e) -> ρ[j]? = some (Sv.ow e) := fun j e hj he => by
  rcases get_set he with ⟨z, _, _⟩ | ⟨_, z⟩
  ·exact absurd z hj
  ·exact z
 have m : ∀ a, (SO S w ρ a /\ a ≠ p) -> SO S (fun j => if j = i then p else w j) (ρ.set i (.ow d)) a := fun a ⟨⟨s, n⟩, ne⟩ => ⟨s, fun j f hf => by
  show a ≠ (if j = i then p else w j)
  by_cases hj : j = i
  ·rw [if_pos hj]; exact ne
  ·rw [if_neg hj]; exact n j f (hw j f hj hf)⟩
 have F : Fits K (SO S w ρ) (SO S (fun j => if j = i then p else w j) (ρ.set i (.ow d))) H H' := ((Fits.fresh hp).trans (.mono m)).trans (.same e)
 have wp : ∀ (j : Nat) (f : D), ρ[j]? = some (Sv.ow f) -> w j ≠ p := fun j f hf z => by
  have wr := (h.own j f hf).2.2.wr
  rw [z] at wr
  rcases wr with ⟨xs, k⟩ | ⟨xs, k⟩ | ⟨xs, k⟩ <;> rw [hp] at k <;> cases k
 refine ⟨h.fc, h.sm.trans e, fun j f hf => ?_, fun j k d' e' h1 h2 z => ?_, fun j f hf => ?_, fun g hg => Dn.fits F _ _ (h.gh g hg)⟩
 ·by_cases hj : j = i
  ·subst hj
   rcases get_set hf with ⟨_, z, _⟩ | ⟨z, _⟩
   ·cases z
    rw [if_pos rfl]
    exact ⟨List.getElem?_set_self hi, h0, q.fits (.mono m) fun _ z => z⟩
   ·exact absurd rfl z
  ·rw [if_neg hj]
   obtain ⟨a, b, c⟩ := h.own j f (hw j f hj hf)
   exact ⟨by rw [List.getElem?_set_ne (Ne.symm hj)]; exact a, b, c.fits F fun o z => e _ o z⟩
 ·have z : (if j = i then p else w j) = (if k = i then p else w k) := z
  by_cases hj : j = i
  ·by_cases hk : k = i
   ·rw [hj, hk]
   ·rw [if_pos hj, if_neg hk] at z
    exact absurd z.symm (wp k e' (hw k e' hk h2))
  ·by_cases hk : k = i
   ·rw [if_neg hj, if_pos hk] at z
    exact absurd z (wp j d' (hw j d' hj h1))
   ·rw [if_neg hj, if_neg hk] at z
    exact h.inj j k d' e' (hw j d' hj h1) (hw k e' hk h2) z
 ·rcases get_set hf with ⟨_, z, _⟩ | ⟨hj, z⟩
  ·cases z
  ·obtain ⟨u, a, b⟩ := h.ro j f z
   exact ⟨u, by rw [List.getElem?_set_ne (Ne.symm hj)]; exact a, Dn.fits F f u b⟩
theorem ST.write {i : Nat} {d d' : D} {o : HO} (h : ST K H₀ S w σ H ρ G) (e : ρ[i]? = some (Sv.ow d)) (q : OwnD K (SO S w ρ) (upd H (w i) o) d' (w i)) : ST K H₀ S w σ (upd H (w i) o) (ρ.set i (.ow d')) G := by
 obtain ⟨a0, b0, c0⟩ := h.own i d e
 have so : SO S w (ρ.set i (.ow d')) = SO S w ρ := by
  funext a
  refine propext ⟨fun ⟨s, n⟩ => ⟨s, fun j f hf => ?_⟩, fun ⟨s, n⟩ => ⟨s, fun j f hf => ?_⟩⟩
  ·by_cases hj : j = i
   ·subst hj
    exact n j d' (by rw [List.getElem?_set_self (List.getElem?_eq_some_iff.mp e).1])
   ·exact n j f (by rw [List.getElem?_set_ne (Ne.symm hj)]; exact hf)
  ·by_cases hj : j = i
   ·subst hj; exact n j d e
   ·exact n j f (by rw [List.getElem?_set_ne (Ne.symm hj)] at hf; exact hf)
 have nS : ¬ SO S w ρ (w i) := fun ⟨_, n⟩ => n i d e rfl
 have F : Fits K (SO S w ρ) (SO S w ρ) H (upd H (w i) o) := .upd c0.wr nS
 refine ⟨h.fc, fun b u hb => ?_, fun j f hf => ?_, fun j k d1 e1 h1 h2 z => ?_, fun j f hf => ?_, fun g hg => by rw [so]; exact Dn.fits F _ _ (h.gh g hg)⟩
 ·rw [upd_ne (ne_of_none hb b0)]
  exact h.sm b u hb
 ·rw [so]
  rcases get_set hf with ⟨hj, z, _⟩ | ⟨hj, z⟩
  ·cases z
   subst hj
   exact ⟨a0, b0, q⟩
  ·obtain ⟨a, b, c⟩ := h.own j f z
   exact ⟨a, b, c.fits F fun ob hob => by rw [upd_ne fun y => hj (h.inj _ _ _ _ z e y)]; exact hob⟩
 ·have g1 : ∃ d2, ρ[j]? = some (Sv.ow d2) := by
   rcases get_set h1 with ⟨hj, _, _⟩ | ⟨_, z⟩
   ·subst hj; exact ⟨d, e⟩
   ·exact ⟨_, z⟩
  have g2 : ∃ d2, ρ[k]? = some (Sv.ow d2) := by
   rcases get_set h2 with ⟨hj, _, _⟩ | ⟨_, z⟩
   ·subst hj; exact ⟨d, e⟩
   ·exact ⟨_, z⟩
  obtain ⟨_, g1⟩ := g1
  obtain ⟨_, g2⟩ := g2
  exact h.inj j k _ _ g1 g2 z
 ·rw [so]
  rcases get_set hf with ⟨_, z, _⟩ | ⟨hj, z⟩
  ·cases z
  ·obtain ⟨u, a, b⟩ := h.ro j f z
   exact ⟨u, a, Dn.fits F f u b⟩
theorem ST.ghost (h : ST K H₀ S w σ H ρ G) {G' : List (D × V)} (hg : ∀ g ∈ G', Dn K (SO S w ρ) H g.1 g.2) : ST K H₀ S w σ H ρ G' := ⟨h.fc, h.sm, h.own, h.inj, h.ro, hg⟩
end
end L3
end
section
namespace L3
open PySem PySem.Spec PyProof.Rows L2
abbrev WE := DEnv -> (D -> Prop) -> Prop
abbrev WT := DEnv -> (Bool -> Prop) -> Prop
abbrev WA := DEnv -> (List D -> Prop) -> Prop
def lift (K : PySem.W.Frag) (t : WE) : TE := fun σ H Q => ∃ (S : Addr -> Prop) (ρ : DEnv) (Q3 : D -> Prop), (∀ a, H a = none -> S a) /\ Sl K S H ρ σ /\ t ρ Q3 /\ ∀ v H' d, Same H H' -> Dn K S H' d v -> Q3 d -> Q v H'
def liftT (K : PySem.W.Frag) (t : WT) : TT := fun σ H Q => ∃ (S : Addr -> Prop) (ρ : DEnv) (Q3 : Bool -> Prop), (∀ a, H a = none -> S a) /\ Sl K S H ρ σ /\ t ρ Q3 /\ ∀ b H', Same H H' -> Q3 b -> Q b H'
def liftA (K : PySem.W.Frag) (t : WA) : TA := fun σ H Q => ∃ (S : Addr -> Prop) (ρ : DEnv) (Q3 : List D -> Prop), (∀ a, H a = none -> S a) /\ Sl K S H ρ σ /\ t ρ Q3 /\ ∀ vs H' ds, Same H H' -> Dns K S H' ds vs -> Q3 ds -> Q vs H'
def liftF (K : PySem.W.Frag) (t : WE) : TE := fun σ H Q => ∃ (S : Addr -> Prop) (ρ : DEnv) (Q3 : D -> Prop), (∀ a, H a = none -> S a) /\ Sl K S H ρ σ /\ t ρ Q3 /\
 ∀ p xs H' ds, H p = none -> H' p = some (.lst xs) -> Same H H' -> Dns K (fun a => S a /\ a ≠ p) H' ds xs -> Q3 (.lst ds) -> Q (.ref p) H'
def PE3 (X : Cx) (e : Expr) (t : WE) : Prop := PE X e (lift X.K t)
def PF3 (X : Cx) (e : Expr) (t : WE) : Prop := PE X e (liftF X.K t)
def PT3 (X : Cx) (e : Expr) (t : WT) : Prop := PT X e (liftT X.K t)
def PA3 (X : Cx) (es : List Expr) (t : WA) : Prop := PA X es (liftA X.K t)
section
variable {X : Cx}
theorem imp {e : Expr} {t t' : TE} (h : PE X e t) (f : ∀ σ H Q, t' σ H Q -> t σ H Q) : PE X e t' := fun pins s σ H Q I q => h pins s σ H Q I (f σ H Q q)
theorem impT {e : Expr} {t t' : TT} (h : PT X e t) (f : ∀ σ H Q, t' σ H Q -> t σ H Q) : PT X e t' := fun pins s σ H Q I q => h pins s σ H Q I (f σ H Q q)
theorem impA {e : List Expr} {t t' : TA} (h : PA X e t) (f : ∀ σ H Q, t' σ H Q -> t σ H Q) : PA X e t' := fun pos pins s σ H Q I q => h pos pins s σ H Q I (f σ H Q q)
theorem fc_same {H H' : Hp} {S : Addr -> Prop} (fc : ∀ a, H a = none -> S a) (s : Same H H') : ∀ a, H' a = none -> S a := fun a e => fc a (s.free e)
theorem PF3.pe {e : Expr} {t : WE} (h : PF3 X e t) : PE3 X e t := imp h fun σ H Q hq7 => by
 obtain ⟨S, ρ, Q3, fc, sl, ht, k⟩ := hq7
 exact ⟨S, ρ, Q3, fc, sl, ht, fun p xs H' ds hp hp' s dn q => k _ H' _ s (by simp only [Dn]; exact ⟨p, xs, rfl, hp', fc p hp, Dns.fits (.mono fun _ z => z.1) ds xs dn⟩) q⟩
def wVar (i : Nat) : WE := fun ρ Q => match ρ[i]? with
 | some (some d) => Q d
 | _ => False
def wC (d : D) : WE := fun _ Q => Q d
theorem lift_var {K : PySem.W.Frag} {i : Nat} {σ : L2.St} {H : Hp} {Q : VK} (h : lift K (wVar i) σ H Q) : tVar i σ H Q := by
 obtain ⟨S, ρ, Q3, fc, sl, ht, k⟩ := h
 unfold wVar at ht
 split at ht
 ·rename_i d e
  obtain ⟨v, e1, q⟩ := sl i d e
  exact ⟨v, e1, k v H d (Same.refl H) q ht⟩
 ·exact ht.elim
theorem x3 (i : Nat) {x : Str} {pos : Pos} (hN : X.N[i]? = some x := by rfl) (hv : Vis X.env.scope x := by first | exact Or.inl rfl | exact Or.inr (Or.inl rfl) | exact Or.inr (Or.inr rfl)) (hd : (x == ("__debug__" : Str)) = false := by decide)
  (hcd : (x == ("__classdict__" : Str)) = false := by decide) : PE3 X (.Name x pos) (wVar i) := imp (pe_var hN hv hd hcd) fun _ _ _ => lift_var
theorem lift_c {K : PySem.W.Frag} {d : D} {v : V} {σ : L2.St} {H : Hp} {Q : VK} (hd : ∀ S H, Dn K S H d v) (h : lift K (wC d) σ H Q) : tC v σ H Q := by
 obtain ⟨S, ρ, Q3, fc, sl, ht, k⟩ := h
 exact k v H d (Same.refl H) (hd S H) ht
theorem i3 {i : Int} {j pos} : PE3 X (.Constant (.int i) j pos) (wC (.int i)) := imp pe_int fun _ _ _ => lift_c (fun _ _ => by simp only [Dn])
theorem b3 {b : Bool} {j pos} : PE3 X (.Constant (.bool b) j pos) (wC (.bl b)) := imp pe_bl fun _ _ _ => lift_c (fun _ _ => by simp only [Dn])
theorem n3 {j pos} : PE3 X (.Constant .none j pos) (wC .non) := imp pe_non fun _ _ _ => lift_c (fun _ _ => by simp only [Dn])
theorem s3 {x : Str} {j pos} : PE3 X (.Constant (.str x) j pos) (wC (.str x)) := imp pe_str fun _ _ _ => lift_c (fun _ _ => by simp only [Dn])
abbrev F2 := D -> D -> (D -> Prop) -> Prop
def wBin (f : F2) (ta tb : WE) : WE := fun ρ Q => ta ρ fun x => tb ρ fun y => f x y Q
def O3 (K : PySem.W.Frag) (r : R2) (f : F2) : Prop := ∀ (S : Addr -> Prop) (H : Hp) (x y : V) (dx dy : D) (Q3 : D -> Prop) (Q : VK), (∀ a, H a = none -> S a) -> Dn K S H dx x -> Dn K S H dy y -> f dx dy Q3 ->
 (∀ v H' d, Same H H' -> Dn K S H' d v -> Q3 d -> Q v H') -> r x y H Q
theorem lift_bin {K : PySem.W.Frag} {r : R2} {f : F2} {ta tb : WE} {σ : L2.St} {H : Hp} {Q : VK} (h3 : O3 K r f) (h : lift K (wBin f ta tb) σ H Q) : tOp r (lift K ta) (lift K tb) σ H Q := by
 obtain ⟨S, ρ, Q3, fc, sl, ht, k⟩ := h
 refine ⟨S, ρ, _, fc, sl, ht, fun v H1 d s1 d1 q1 => ?_⟩
 refine ⟨S, ρ, _, fc_same fc s1, Sl.fits (.same s1) sl, q1, fun u H2 d2 s2 d2' q2 => ?_⟩
 exact h3 S H2 v u d d2 Q3 Q (fc_same fc (s1.trans s2)) (Dn.fits (.same s2) _ _ d1) d2' q2 fun v' H' d' s' dn' q' => k v' H' d' ((s1.trans s2).trans s') dn' q'
theorem op3 {a b : Expr} {op : Operator} {pos : Pos} {r : R2} {f : F2} {ta tb : WE} (ho : OpR X (binaryOp op) r) (h3 : O3 X.K r f) (ha : PE3 X a ta) (hb : PE3 X b tb) : PE3 X (.BinOp a op b pos) (wBin f ta tb) :=
 imp (pe_op ho ha hb) fun _ _ _ => lift_bin h3
def intF (C : Int -> Int -> Prop) (g : Int -> Int -> D) : F2
 | .int i, .int j, Q => C i j /\ Q (g i j)
 | _, _, _ => False
theorem o3_int {K : PySem.W.Frag} {C : Int -> Int -> Prop} {g : Int -> Int -> Int} : O3 K (rI C fun i j => .int (g i j)) (intF C fun i j => .int (g i j)) := by
 intro S H x y dx dy Q3 Q fc hx hy hf k
 cases dx <;> cases dy <;> try exact hf.elim
 simp only [Dn] at hx hy
 exact ⟨_, _, hx, hy, hf.1, k _ H _ (Same.refl H) (by simp only [Dn]) hf.2⟩
def intF0 (g : Int -> Int -> D) : F2
 | .int i, .int j, Q => Q (g i j)
 | _, _, _ => False
theorem o3_int0 {K : PySem.W.Frag} {g : Int -> Int -> Int} : O3 K (rI0 fun i j => .int (g i j)) (intF0 fun i j => .int (g i j)) := by
 intro S H x y dx dy Q3 Q fc hx hy hf k
 cases dx <;> cases dy <;> try exact hf.elim
 simp only [Dn] at hx hy
 exact ⟨_, _, hx, hy, k _ H _ (Same.refl H) (by simp only [Dn]) hf⟩
def subF : F2 := intF0 fun i j => .int (i - j)
def modF : F2 := intF (fun _ j => 0 < j) fun i j => .int (i % j)
def divF : F2 := intF CDiv fun i j => .int (i / j)
def powF : F2 := intF CPow fun i j => .int (i ^ j.toNat)
section
variable {a b : Expr} {pos : Pos} {ta tb : WE}
theorem sub3 (ha : PE3 X a ta) (hb : PE3 X b tb) : PE3 X (.BinOp a .Sub b pos) (wBin subF ta tb) := op3 op_sub o3_int0 ha hb
theorem mod3 (ha : PE3 X a ta) (hb : PE3 X b tb) : PE3 X (.BinOp a .Mod b pos) (wBin modF ta tb) := op3 op_mod o3_int ha hb
theorem div3 (ha : PE3 X a ta) (hb : PE3 X b tb) : PE3 X (.BinOp a .FloorDiv b pos) (wBin divF ta tb) := op3 op_fdiv o3_int ha hb
theorem pow3 (ha : PE3 X a ta) (hb : PE3 X b tb) : PE3 X (.BinOp a .Pow b pos) (wBin powF ta tb) := op3 op_pow o3_int ha hb
end
def catTF (K : PySem.W.Frag) : R2 := fun x y H Q => ∃ a b xs ys, x = .ref a /\ y = .ref b /\ SqT K H a xs /\ SqT K H b ys /\ xs.length + ys.length <= sizeLine /\
 (xs = [] -> Q (.ref b) H) /\ (xs ≠ [] -> ys = [] -> Q (.ref a) H) /\ (xs ≠ [] -> ys ≠ [] -> ∀ p, H p = none -> Q (.ref p) (upd H p (.tup (xs ++ ys))))
theorem cat_tup0 {prog : Program} {w : World} {A : Around} {E : Value -> Shared -> Prop} {s : Shared} {t b : Addr} {ws : List Value} {Q : Value -> Shared -> Prop} (ht : IsTup s.heap t #[]) (hb : IsTup s.heap b ws.toArray)
  (h1 : Q (.ref b) s) : wpAny (model prog w) A (binaryOp .Add (.ref t) (.ref b)) Q E s := by
 obtain ⟨⟨cls, dd, data, sl⟩, ho, hc, n, hd⟩ := id ht
 obtain ⟨⟨cls2, dd2, data2, sl2⟩, ho2, hc2, n2, hd2⟩ := id hb
 simp only at hc hd hc2 hd2
 subst hc hd hc2 hd2
 exact concat_meets ⟨_, ho, rfl⟩ ⟨_, ho2, rfl⟩ noFill_tuple_add seq_tuple_add PySem.F.slot_tuple_add PySem.F.entry_tuple_add (PySem.F.args_tuple_add_2 _ _)
   (tuple_addW0 t b #[] ws.toArray n n2 dd dd2 sl sl2 (by simp)) ⟨ho, ho2, h1⟩
theorem op_catT2 : OpR X (binaryOp .Add) (catTF X.K) := by
 intro pins s σ H x y v u Q I rx ry h
 obtain ⟨a, b, xs, ys, rfl, rfl, ha, hb, hz, q0, q1, q2⟩ := h
 by_cases hx : xs = []
 ·cases rx
  cases ry
  subst hx
  obtain ⟨its, r1, p1, _⟩ := I.tuple ha
  obtain ⟨its2, r2, p2, _⟩ := I.tuple hb
  cases r1
  exact cat_tup0 p1 p2 ⟨.ref b, H, I, rfl, q0 rfl⟩
 ·exact op_catT pins s σ H _ _ v u Q I rx ry ⟨a, b, xs, ys, rfl, rfl, ha, hb, hx, hz, q1 hx, q2 hx⟩
def addF : F2
 | .int i, .int j, Q => Q (.int (i + j))
 | .lst a, .lst b, Q => a.length + b.length <= sizeLine /\ Q (.lst (a ++ b))
 | .tup a, .tup b, Q => a.length + b.length <= sizeLine /\ Q (.tup (a ++ b))
 | .str a, .str b, Q => a.length + b.length <= sizeLine /\ Q (.str (a ++ b))
 | _, _, _ => False
def rAdd (K : PySem.W.Frag) : R2 := fun x y H Q => (rI0 fun i j => .int (i + j)) x y H Q \/ (rCat x y H Q \/ (catTF K x y H Q \/ ∃ i j, x = .str i /\ y = .str j /\ i.length + j.length <= sizeLine /\ Q (.str (i ++ j)) H))
theorem o3_add {K : PySem.W.Frag} : O3 K (rAdd K) addF := by
 intro S H x y dx dy Q3 Q fc hx hy hf k
 cases dx with
 | int i =>
  cases dy with
  | int j => simp only [Dn] at hx hy; exact .inl ⟨_, _, hx, hy, k _ H _ (Same.refl H) (by simp only [Dn]) hf⟩
  | _ => exact hf.elim
 | str i =>
  cases dy with
  | str j => simp only [Dn] at hx hy; exact .inr (.inr (.inr ⟨_, _, hx, hy, hf.1, k _ H _ (Same.refl H) (by simp only [Dn]) hf.2⟩))
  | _ => exact hf.elim
 | lst ds =>
  cases dy with
  | lst es =>
   simp only [Dn] at hx hy
   obtain ⟨a, xs, rfl, ha, sa, da⟩ := hx
   obtain ⟨b, ys, rfl, hb, sb, db⟩ := hy
   refine .inr (.inl ⟨a, b, xs, ys, rfl, rfl, ha, hb, by rw [<- da.len, <- db.len]; exact hf.1, fun p hp => k _ _ _ (same_upd hp) ?_ hf.2⟩)
   simp only [Dn]
   exact ⟨p, _, rfl, upd_same, fc p hp, Dns.fits (.same (same_upd hp)) _ _ (da.append db)⟩
  | _ => exact hf.elim
 | tup ds =>
  cases dy with
  | tup es =>
   simp only [Dn] at hx hy
   obtain ⟨a, xs, rfl, ha, da⟩ := hx
   obtain ⟨b, ys, rfl, hb, db⟩ := hy
   refine .inr (.inr (.inl ⟨a, b, xs, ys, rfl, rfl, ha, hb, by rw [<- da.len, <- db.len]; exact hf.1, fun e => ?_, fun _ e => ?_, fun _ _ p hp => ?_⟩))
   ·subst e
    have e2 : ds = [] := List.length_eq_zero_iff.mp da.len
    subst e2
    exact k _ H _ (Same.refl H) (by simp only [Dn]; exact ⟨b, ys, rfl, hb, db⟩) hf.2
   ·subst e
    have e2 : es = [] := List.length_eq_zero_iff.mp db.len
    subst e2
    have q := hf.2
    rw [List.append_nil] at q
    exact k _ H _ (Same.refl H) (by simp only [Dn]; exact ⟨a, xs, rfl, ha, da⟩) q
   ·refine k _ _ _ (same_upd hp) ?_ hf.2
    simp only [Dn]
    exact ⟨p, _, rfl, .inl (.inl upd_same), Dns.fits (.same (same_upd hp)) _ _ (da.append db)⟩
  | _ => exact hf.elim
 | _ => cases dy <;> exact hf.elim
theorem op_add3 : OpR X (binaryOp .Add) (rAdd X.K) := OpR.or op_add (OpR.or op_cat (OpR.or op_catT2 op_add_str))
theorem add3 {a b : Expr} {pos : Pos} {ta tb : WE} (ha : PE3 X a ta) (hb : PE3 X b tb) : PE3 X (.BinOp a .Add b pos) (wBin addF ta tb) := op3 op_add3 o3_add ha hb
def catF : F2
 | .lst a, .lst b, Q => a.length + b.length <= sizeLine /\ Q (.lst (a ++ b))
 | _, _, _ => False
theorem catN3 {a b : Expr} {pos : Pos} {ta tb : WE} (ha : PE3 X a ta) (hb : PE3 X b tb) : PF3 X (.BinOp a .Add b pos) (wBin catF ta tb) := imp (pe_op op_cat ha hb) fun σ H Q h => by
 obtain ⟨S, ρ, Q3, fc, sl, ht, k⟩ := h
 refine ⟨S, ρ, _, fc, sl, ht, fun v H1 d s1 d1 q1 => ?_⟩
 refine ⟨S, ρ, _, fc_same fc s1, Sl.fits (.same s1) sl, q1, fun u H2 d2 s2 d2' q2 => ?_⟩
 cases d <;> cases d2 <;> try exact q2.elim
 simp only [Dn] at d1 d2'
 obtain ⟨a, xs, rfl, ha, sa, da⟩ := d1
 obtain ⟨b, ys, rfl, hb, sb, db⟩ := d2'
 have da' := Dns.fits (.same s2) _ _ da
 refine ⟨a, b, xs, ys, rfl, rfl, s2 _ _ ha, hb, by rw [<- da.len, <- db.len]; exact q2.1, fun p hp => k p _ _ _ ((s1.trans s2).free hp) upd_same ((s1.trans s2).trans (same_upd hp)) ?_ q2.2⟩
 exact Dns.fits ((Fits.fresh hp).trans (.same (same_upd hp))) _ _ (da'.append db)
def wNil : WA := fun _ Q => Q []
def wCons (ta : WE) (t : WA) : WA := fun ρ Q => ta ρ fun d => t ρ fun ds => Q (d :: ds)
theorem nil3 : PA3 X [] wNil := impA pa_nil fun σ H Q hq8 => by obtain ⟨S, ρ, Q3, fc, sl, ht, k⟩ := hq8; exact k [] H [] (Same.refl H) Dns.nil ht
theorem cons3 {e : Expr} {es : List Expr} {te : WE} {t : WA} (ha : PE3 X e te) (hr : PA3 X es t) (hs : starEach (e :: es) X.env = (false, eval e X.env) :: starEach es X.env := by rfl) : PA3 X (e :: es) (wCons te t) :=
 impA (pa_cons ha hr hs) fun σ H Q hq9 => by
  obtain ⟨S, ρ, Q3, fc, sl, ht, k⟩ := hq9
  refine ⟨S, ρ, _, fc, sl, ht, fun v H1 d s1 d1 q1 => ?_⟩
  refine ⟨S, ρ, _, fc_same fc s1, Sl.fits (.same s1) sl, q1, fun us H2 ds s2 d2 q2 => ?_⟩
  exact k _ H2 _ (s1.trans s2) (Dns.cons (Dn.fits (.same s2) _ _ d1) d2) q2
def wTup (t : WA) : WE := fun ρ Q => t ρ fun ds => ds.length <= sizeLine /\ Q (.tup ds)
def wLst (t : WA) : WE := fun ρ Q => t ρ fun ds => ds.length <= sizeLine /\ Q (.lst ds)
theorem tup3 {es : List Expr} {t : WA} {x1} {pos : Pos} (h : PA3 X es t) : PE3 X (.Tuple es x1 pos) (wTup t) := imp (pe_tup h) fun σ H Q hq10 => by
 obtain ⟨S, ρ, Q3, fc, sl, ht, k⟩ := hq10
 refine ⟨S, ρ, _, fc, sl, ht, fun vs H1 ds s1 d1 q1 => ⟨by rw [<- d1.len]; exact q1.1, fun p hp => k _ _ _ (s1.trans (same_upd hp)) ?_ q1.2⟩⟩
 simp only [Dn]
 exact ⟨p, _, rfl, .inl (.inl upd_same), Dns.fits (.same (same_upd hp)) _ _ d1⟩
theorem lst3 {es : List Expr} {t : WA} {pos : Pos} (h : PA3 X es t) : PF3 X (.List es pos) (wLst t) := imp (pe_lst h) fun σ H Q hq11 => by
 obtain ⟨S, ρ, Q3, fc, sl, ht, k⟩ := hq11
 refine ⟨S, ρ, _, fc, sl, ht, fun vs H1 ds s1 d1 q1 => ⟨by rw [<- d1.len]; exact q1.1, fun p hp => k p vs _ ds (s1.free hp) upd_same (s1.trans (same_upd hp)) ?_ q1.2⟩⟩
 exact Dns.fits ((Fits.fresh hp).trans (.same (same_upd hp))) _ _ d1
end
section
variable {X : Cx}
def wTest (t : WE) : WT := fun ρ Q => t ρ fun d => match d with
 | .bl b => Q b
 | _ => False
theorem lift_test {K : PySem.W.Frag} {t : WE} {σ : L2.St} {H : Hp} {Q : Bool -> Hp -> Prop} (h : liftT K (wTest t) σ H Q) : tTest (lift K t) σ H Q := by
 obtain ⟨S, ρ, Q3, fc, sl, ht, k⟩ := h
 refine ⟨S, ρ, _, fc, sl, ht, fun v H1 d s1 d1 q1 => ?_⟩
 cases d with
 | bl b => simp only [Dn] at d1; exact ⟨b, d1, k b H1 s1 q1⟩
 | _ => exact q1.elim
theorem tTest_mono {t t' : TE} {σ : L2.St} {H : Hp} {Q : Bool -> Hp -> Prop} (f : ∀ σ H Q, t' σ H Q -> t σ H Q) (h : tTest t' σ H Q) : tTest t σ H Q := f σ H _ h
theorem cmp3 {a b : Expr} {op : CmpOp} {pos : Pos} {r : R2} {f : F2} {ta tb : WE} (ho : OpR X (compareOp op) r) (h3 : O3 X.K r f) (ha : PE3 X a ta) (hb : PE3 X b tb) (hm : behindInMarks op b = false) : PE3 X (.Compare a [op] [b] pos) (wBin f ta tb) :=
 imp (pe_cmpR ho ha hb hm) fun _ _ _ => lift_bin h3
theorem cmpT3 {a b : Expr} {op : CmpOp} {pos : Pos} {r : R2} {f : F2} {ta tb : WE} (ho : OpR X (compareOp op) r) (h3 : O3 X.K r f) (ha : PE3 X a ta) (hb : PE3 X b tb) (hm : behindInMarks op b = false) : PT3 X (.Compare a [op] [b] pos) (wTest (wBin f ta tb)) :=
 impT (pt_cmpR ho ha hb hm) fun _ _ _ h => tTest_mono (fun _ _ _ => lift_bin h3) (lift_test h)
theorem o3_cmp {K : PySem.W.Frag} {g : Int -> Int -> Bool} : O3 K (rI0 fun i j => .bl (g i j)) (intF0 fun i j => .bl (g i j)) := by
 intro S H x y dx dy Q3 Q fc hx hy hf k
 cases dx <;> cases dy <;> try exact hf.elim
 simp only [Dn] at hx hy
 exact ⟨_, _, hx, hy, k _ H _ (Same.refl H) (by simp only [Dn]) hf⟩
def scalD : D -> D -> Bool
 | .non, .non => true | .non, .int _ => true | .int _, .non => true | .non, .bl _ => true | .bl _, .non => true | .non, .str _ => true | .str _, .non => true
 | .int _, .int _ => true | .bl _, .bl _ => true | .str _, .str _ => true | .int _, .str _ => true | .str _, .int _ => true | .bl _, .str _ => true | .str _, .bl _ => true
 | _, _ => false
def eqS : D -> D -> Bool
 | .non, .non => true
 | .int i, .int j => decide (i = j)
 | .bl i, .bl j => decide (i = j)
 | .str i, .str j => decide (i = j)
 | _, _ => false
def eqSF : F2 := fun x y Q => scalD x y = true /\ Q (.bl (eqS x y))
def neSF : F2 := fun x y Q => scalD x y = true /\ Q (.bl (!eqS x y))
theorem scal_eq {K : PySem.W.Frag} {S : Addr -> Prop} {H : Hp} {x y : V} {dx dy : D} (hx : Dn K S H dx x) (hy : Dn K S H dy y) (h : scalD dx dy = true) : scal x y = true /\ decide (x = y) = eqS dx dy := by
 cases dx <;> first
  | (exact absurd (show false = true from h) Bool.false_ne_true)
  | skip
 all_goals (cases dy <;> first
  | (exact absurd (show false = true from h) Bool.false_ne_true)
  | (simp only [Dn] at hx hy; subst hx; subst hy; exact ⟨rfl, by first | exact dec_int | exact dec_bl | exact dec_str | exact decide_eq_false (fun h => by cases h) | exact decide_eq_true rfl⟩))
theorem o3_eqS {K : PySem.W.Frag} : O3 K rEq eqSF := by
 intro S H x y dx dy Q3 Q fc hx hy hf k
 obtain ⟨h1, h2⟩ := scal_eq hx hy hf.1
 exact ⟨h1, k _ H _ (Same.refl H) (by simp only [Dn]; rw [h2]) hf.2⟩
theorem o3_neS {K : PySem.W.Frag} : O3 K rNe neSF := by
 intro S H x y dx dy Q3 Q fc hx hy hf k
 obtain ⟨h1, h2⟩ := scal_eq hx hy hf.1
 exact ⟨h1, k _ H _ (Same.refl H) (by simp only [Dn]; rw [h2]) hf.2⟩
def allI : List D -> Bool
 | [] => true
 | .int _ :: r => allI r
 | _ :: _ => false
def memI (i : Int) : List D -> Bool
 | [] => false
 | .int j :: r => j == i || memI i r
 | _ :: r => memI i r
theorem allI_ints : ∀ ns : List Int, allI (ns.map D.int) = true
 | [] => rfl
 | n :: ns => by rw [List.map_cons]; exact allI_ints ns
theorem memI_ints (i : Int) : ∀ ns : List Int, memI i (ns.map D.int) = ns.contains i
 | [] => rfl
 | n :: ns => by
  rw [List.map_cons, memI, memI_ints i ns, List.contains_cons]
  congr 1
  exact Bool.beq_comm
theorem allI_of : ∀ {ds : List D}, allI ds = true -> ∃ ns : List Int, ds = ns.map D.int
 | [], _ => ⟨[], rfl⟩
 | .int n :: r, h => by
  obtain ⟨ns, e⟩ := allI_of (ds := r) h
  exact ⟨n :: ns, by rw [e]; rfl⟩
 | .non :: r, h => absurd (show false = true from h) Bool.false_ne_true
 | .bl _ :: r, h => absurd (show false = true from h) Bool.false_ne_true
 | .str _ :: r, h => absurd (show false = true from h) Bool.false_ne_true
 | .tup _ :: r, h => absurd (show false = true from h) Bool.false_ne_true
 | .lst _ :: r, h => absurd (show false = true from h) Bool.false_ne_true
 | .scr _ :: r, h => absurd (show false = true from h) Bool.false_ne_true
 | .dic _ _ :: r, h => absurd (show false = true from h) Bool.false_ne_true
 | .dicT _ _ :: r, h => absurd (show false = true from h) Bool.false_ne_true
def inF (neg : Bool) : F2
 | .int i, .tup ds, Q => allI ds = true /\ Q (.bl (if neg then !memI i ds else memI i ds))
 | .int i, .lst ds, Q => allI ds = true /\ Q (.bl (if neg then !memI i ds else memI i ds))
 | _, _, _ => False
theorem inV_ints (i : Int) : ∀ ns : List Int, inV (.int i) (ns.map V.int) = memI i (ns.map D.int)
 | [] => rfl
 | n :: ns => by
  have e := inV_ints i ns
  unfold inV at e ⊢
  rw [List.map_cons, List.map_cons, List.any_cons, memI, e]
  rfl
theorem flat_ints : ∀ ns : List Int, (ns.map V.int).all flatV = true
 | [] => rfl
 | n :: ns => by rw [List.map_cons, List.all_cons, flat_ints ns]; rfl
theorem o3_in {K : PySem.W.Frag} {neg : Bool} : O3 K (rIn K neg) (inF neg) := by
 intro S H x y dx dy Q3 Q fc hx hy hf k
 cases dx with
 | int i =>
  simp only [Dn] at hx
  subst hx
  cases dy with
  | tup ds =>
   simp only [Dn] at hy
   obtain ⟨a, xs, rfl, ha, da⟩ := hy
   obtain ⟨h1, h2⟩ := hf
   obtain ⟨ns, rfl⟩ := allI_of h1
   have e := Dns.ints.mp da
   subst e
   refine ⟨a, _, rfl, .inr ha, rfl, flat_ints ns, k _ H _ (Same.refl H) ?_ h2⟩
   simp only [Dn]
   rw [inV_ints]
  | lst ds =>
   simp only [Dn] at hy
   obtain ⟨a, xs, rfl, ha, _, da⟩ := hy
   obtain ⟨h1, h2⟩ := hf
   obtain ⟨ns, rfl⟩ := allI_of h1
   have e := Dns.ints.mp da
   subst e
   refine ⟨a, _, rfl, .inl (SqL.of ha), rfl, flat_ints ns, k _ H _ (Same.refl H) ?_ h2⟩
   simp only [Dn]
   rw [inV_ints]
  | _ => exact hf.elim
 | _ => cases dy <;> exact hf.elim
section
variable {a b : Expr} {pos : Pos} {ta tb : WE}
def ltF : F2 := intF0 fun i j => .bl (decide (i < j))
def gtF : F2 := intF0 fun i j => .bl (decide (i > j))
def geF : F2 := intF0 fun i j => .bl (decide (i >= j))
theorem eqS3 (ha : PE3 X a ta) (hb : PE3 X b tb) : PE3 X (.Compare a [.Eq] [b] pos) (wBin eqSF ta tb) := cmp3 op_eq o3_eqS ha hb (nomark _)
theorem in3 (ha : PE3 X a ta) (hb : PE3 X b tb) (hm : behindInMarks .In b = false := by with_unfolding_all rfl) : PE3 X (.Compare a [.In] [b] pos) (wBin (inF false) ta tb) := cmp3 op_in_seq o3_in ha hb hm
theorem ltT3 (ha : PE3 X a ta) (hb : PE3 X b tb) : PT3 X (.Compare a [.Lt] [b] pos) (wTest (wBin ltF ta tb)) := cmpT3 op_lt o3_cmp ha hb (nomark _)
theorem gtT3 (ha : PE3 X a ta) (hb : PE3 X b tb) : PT3 X (.Compare a [.Gt] [b] pos) (wTest (wBin gtF ta tb)) := cmpT3 op_gt o3_cmp ha hb (nomark _)
theorem geT3 (ha : PE3 X a ta) (hb : PE3 X b tb) : PT3 X (.Compare a [.GtE] [b] pos) (wTest (wBin geF ta tb)) := cmpT3 op_ge o3_cmp ha hb (nomark _)
theorem eqST3 (ha : PE3 X a ta) (hb : PE3 X b tb) : PT3 X (.Compare a [.Eq] [b] pos) (wTest (wBin eqSF ta tb)) := cmpT3 op_eq o3_eqS ha hb (nomark _)
theorem neST3 (ha : PE3 X a ta) (hb : PE3 X b tb) : PT3 X (.Compare a [.NotEq] [b] pos) (wTest (wBin neSF ta tb)) := cmpT3 op_ne o3_neS ha hb (nomark _)
theorem inT3 (ha : PE3 X a ta) (hb : PE3 X b tb) (hm : behindInMarks .In b = false := by with_unfolding_all rfl) : PT3 X (.Compare a [.In] [b] pos) (wTest (wBin (inF false) ta tb)) := cmpT3 op_in_seq o3_in ha hb hm
theorem ninT3 (ha : PE3 X a ta) (hb : PE3 X b tb) (hm : behindInMarks .NotIn b = false := by with_unfolding_all rfl) : PT3 X (.Compare a [.NotIn] [b] pos) (wTest (wBin (inF true) ta tb)) := cmpT3 op_notIn_seq o3_in ha hb hm
end
def isD : D -> Bool
 | .non => true
 | _ => false
def isNF : F2 := fun x y Q => isD y = true /\ Q (.bl (isD x))
theorem o3_isN {K : PySem.W.Frag} : O3 K (fun x y H Q => y = .non /\ Q (.bl (decide (x = .non))) H) isNF := by
 intro S H x y dx dy Q3 Q fc hx hy hf k
 obtain ⟨h1, h2⟩ := hf
 cases dy <;> try exact absurd (show false = true from h1) Bool.false_ne_true
 simp only [Dn] at hy
 refine ⟨hy, k _ H _ (Same.refl H) ?_ h2⟩
 cases dx <;> simp only [Dn] at hx ⊢
 all_goals first
  | (subst hx; simp [isD])
  | (obtain ⟨a, xs, rfl, _⟩ := hx; simp [isD])
  | (obtain ⟨a, rfl, _⟩ := hx; simp [isD])
theorem isNT3 {a b : Expr} {pos : Pos} {ta tb : WE} (ha : PE3 X a ta) (hb : PE3 X b tb) : PT3 X (.Compare a [.Is] [b] pos) (wTest (wBin isNF ta tb)) := cmpT3 op_isN o3_isN ha hb (nomark _)
theorem isN3 {a b : Expr} {pos : Pos} {ta tb : WE} (ha : PE3 X a ta) (hb : PE3 X b tb) : PE3 X (.Compare a [.Is] [b] pos) (wBin isNF ta tb) := cmp3 op_isN o3_isN ha hb (nomark _)
def wNotT (t : WT) : WT := fun ρ Q => t ρ fun b => Q (!b)
def wAndT (t u : WT) : WT := fun ρ Q => t ρ fun b => if b = true then u ρ Q else Q false
def wOrT (t u : WT) : WT := fun ρ Q => t ρ fun b => if b = true then Q true else u ρ Q
def PW3 (X : Cx) (e : Expr) (t : WT) : Prop := PW X e (liftT X.K t)
theorem impW {e : Expr} {t t' : TT} (h : PW X e t) (f : ∀ σ H Q, t' σ H Q -> t σ H Q) : PW X e t' := fun wh pins s σ H Q I q => h wh pins s σ H Q I (f σ H Q q)
section
variable {a b : Expr} {rest : List Expr} {pos : Pos} {ta tb : WT}
theorem PW3.pt {e : Expr} {t : WT} (h : PW3 X e t) : PT3 X e t := PW.pt h
theorem notT3 (ha : PT3 X a ta) : PT3 X (.UnaryOp .Not a pos) (wNotT ta) := impT (pt_not ha) fun σ H Q hq12 => by obtain ⟨S, ρ, Q3, fc, sl, ht, k⟩ := hq12; exact ⟨S, ρ, _, fc, sl, ht, fun b H1 s1 q1 => k (!b) H1 s1 q1⟩
theorem and1 (ha : PT3 X a ta) : PW3 X (.BoolOp .And [a] pos) ta := pw_and1 ha
theorem or1 (ha : PT3 X a ta) : PW3 X (.BoolOp .Or [a] pos) ta := pw_or1 ha
theorem andT3 (ha : PT3 X a ta) (hb : PW3 X (.BoolOp .And (b :: rest) pos) tb) : PW3 X (.BoolOp .And (a :: b :: rest) pos) (wAndT ta tb) := impW (pw_and ha hb) fun σ H Q hq13 => by
 obtain ⟨S, ρ, Q3, fc, sl, ht, k⟩ := hq13
 refine ⟨S, ρ, _, fc, sl, ht, fun c H1 s1 q1 => ?_⟩
 cases c with
 | true => rw [if_pos rfl] at q1 ⊢; exact ⟨S, ρ, Q3, fc_same fc s1, Sl.fits (.same s1) sl, q1, fun b' H2 s2 q2 => k b' H2 (s1.trans s2) q2⟩
 | false => rw [if_neg Bool.false_ne_true] at q1 ⊢; exact k false H1 s1 q1
theorem orT3 (ha : PT3 X a ta) (hb : PW3 X (.BoolOp .Or (b :: rest) pos) tb) : PW3 X (.BoolOp .Or (a :: b :: rest) pos) (wOrT ta tb) := impW (pw_or ha hb) fun σ H Q hq14 => by
 obtain ⟨S, ρ, Q3, fc, sl, ht, k⟩ := hq14
 refine ⟨S, ρ, _, fc, sl, ht, fun c H1 s1 q1 => ?_⟩
 cases c with
 | false => rw [if_neg Bool.false_ne_true] at q1 ⊢; exact ⟨S, ρ, Q3, fc_same fc s1, Sl.fits (.same s1) sl, q1, fun b' H2 s2 q2 => k b' H2 (s1.trans s2) q2⟩
 | true => rw [if_pos rfl] at q1 ⊢; exact k true H1 s1 q1
end
def wAnd (ta tb : WE) : WE := fun ρ Q => ta ρ fun x => match x with
 | .bl true => tb ρ Q
 | .bl false => Q (.bl false)
 | _ => False
def wOr (ta tb : WE) : WE := fun ρ Q => ta ρ fun x => match x with
 | .bl true => Q (.bl true)
 | .bl false => tb ρ Q
 | _ => False
def wNot (ta : WE) : WE := fun ρ Q => ta ρ fun x => match x with
 | .bl b => Q (.bl (!b))
 | _ => False
def wIf (t : WT) (ta tb : WE) : WE := fun ρ Q => t ρ fun b => if b = true then ta ρ Q else tb ρ Q
section
variable {a b c : Expr} {rest : List Expr} {pos : Pos} {ta tb : WE} {tc : WT}
theorem one3 {op} (ha : PE3 X a ta) : PE3 X (.BoolOp op [a] pos) ta := pe_one ha
theorem and3 (ha : PE3 X a ta) (hb : PE3 X (.BoolOp .And (b :: rest) pos) tb) : PE3 X (.BoolOp .And (a :: b :: rest) pos) (wAnd ta tb) := imp (pe_and ha hb) fun σ H Q hq15 => by
 obtain ⟨S, ρ, Q3, fc, sl, ht, k⟩ := hq15
 refine ⟨S, ρ, _, fc, sl, ht, fun v H1 d s1 d1 q1 => ?_⟩
 cases d with
 | bl c =>
  simp only [Dn] at d1
  refine ⟨c, d1, ?_⟩
  cases c with
  | true => rw [if_pos rfl]; exact ⟨S, ρ, Q3, fc_same fc s1, Sl.fits (.same s1) sl, q1, fun v' H2 d' s2 d2 q2 => k v' H2 d' (s1.trans s2) d2 q2⟩
  | false => rw [if_neg Bool.false_ne_true]; exact k _ H1 (.bl false) s1 (by simp only [Dn]) q1
 | _ => exact q1.elim
theorem or3 (ha : PE3 X a ta) (hb : PE3 X (.BoolOp .Or (b :: rest) pos) tb) : PE3 X (.BoolOp .Or (a :: b :: rest) pos) (wOr ta tb) := imp (pe_or ha hb) fun σ H Q hq16 => by
 obtain ⟨S, ρ, Q3, fc, sl, ht, k⟩ := hq16
 refine ⟨S, ρ, _, fc, sl, ht, fun v H1 d s1 d1 q1 => ?_⟩
 cases d with
 | bl c =>
  simp only [Dn] at d1
  refine ⟨c, d1, ?_⟩
  cases c with
  | false => rw [if_neg Bool.false_ne_true]; exact ⟨S, ρ, Q3, fc_same fc s1, Sl.fits (.same s1) sl, q1, fun v' H2 d' s2 d2 q2 => k v' H2 d' (s1.trans s2) d2 q2⟩
  | true => rw [if_pos rfl]; exact k _ H1 (.bl true) s1 (by simp only [Dn]) q1
 | _ => exact q1.elim
theorem not3 (ha : PE3 X a ta) : PE3 X (.UnaryOp .Not a pos) (wNot ta) := imp (pe_not ha) fun σ H Q hq17 => by
 obtain ⟨S, ρ, Q3, fc, sl, ht, k⟩ := hq17
 refine ⟨S, ρ, _, fc, sl, ht, fun v H1 d s1 d1 q1 => ?_⟩
 cases d with
 | bl c => simp only [Dn] at d1; exact ⟨c, d1, k _ H1 (.bl (!c)) s1 (by simp only [Dn]) q1⟩
 | _ => exact q1.elim
theorem if3 (hc : PT3 X c tc) (ha : PE3 X a ta) (hb : PE3 X b tb) : PE3 X (.IfExp c a b pos) (wIf tc ta tb) := imp (pe_ifExp hc ha hb) fun σ H Q hq18 => by
 obtain ⟨S, ρ, Q3, fc, sl, ht, k⟩ := hq18
 refine ⟨S, ρ, _, fc, sl, ht, fun c H1 s1 q1 => ?_⟩
 cases c with
 | true => rw [if_pos rfl] at q1 ⊢; exact ⟨S, ρ, Q3, fc_same fc s1, Sl.fits (.same s1) sl, q1, fun v' H2 d' s2 d2 q2 => k v' H2 d' (s1.trans s2) d2 q2⟩
 | false => rw [if_neg Bool.false_ne_true] at q1 ⊢; exact ⟨S, ρ, Q3, fc_same fc s1, Sl.fits (.same s1) sl, q1, fun v' H2 d' s2 d2 q2 => k v' H2 d' (s1.trans s2) d2 q2⟩
def wNeg (ta : WE) : WE := fun ρ Q => ta ρ fun x => match x with
 | .int i => Q (.int (-i))
 | _ => False
theorem neg3 (ha : PE3 X a ta) : PE3 X (.UnaryOp .USub a pos) (wNeg ta) := imp (pe_un un_neg ha) fun σ H Q hq19 => by
 obtain ⟨S, ρ, Q3, fc, sl, ht, k⟩ := hq19
 refine ⟨S, ρ, _, fc, sl, ht, fun v H1 d s1 d1 q1 => ?_⟩
 cases d with
 | int i => simp only [Dn] at d1; exact ⟨i, d1, k _ H1 (.int (-i)) s1 (by simp only [Dn]) q1⟩
 | _ => exact q1.elim
end
def wChain (f g : F2) (ta tb tc : WE) : WE := fun ρ Q => ta ρ fun x => tb ρ fun y => f x y fun z => match z with
 | .bl true => tc ρ fun u => g y u Q
 | .bl false => Q (.bl false)
 | _ => False
theorem lift_chain {K : PySem.W.Frag} {r r' : R2} {f g : F2} {ta tb tc : WE} {σ : L2.St} {H : Hp} {Q : VK} (h1 : O3 K r f) (h2 : O3 K r' g) (h : lift K (wChain f g ta tb tc) σ H Q) : tChain r r' (lift K ta) (lift K tb) (lift K tc) σ H Q := by
 obtain ⟨S, ρ, Q3, fc, sl, ht, k⟩ := h
 refine ⟨S, ρ, _, fc, sl, ht, fun v H1 d s1 d1 q1 => ?_⟩
 refine ⟨S, ρ, _, fc_same fc s1, Sl.fits (.same s1) sl, q1, fun u H2 e s2 e1 q2 => ?_⟩
 refine h1 S H2 v u d e _ _ (fc_same fc (s1.trans s2)) (Dn.fits (.same s2) _ _ d1) e1 q2 fun z H3 dz s3 dz1 q3 => ?_
 cases dz with
 | bl c =>
  simp only [Dn] at dz1
  refine ⟨c, dz1, ?_⟩
  cases c with
  | false => rw [if_neg Bool.false_ne_true]; exact k _ H3 (.bl false) ((s1.trans s2).trans s3) (by simp only [Dn]) q3
  | true =>
   rw [if_pos rfl]
   refine ⟨S, ρ, _, fc_same fc ((s1.trans s2).trans s3), Sl.fits (.same ((s1.trans s2).trans s3)) sl, q3, fun w' H4 dw s4 dw1 q4 => ?_⟩
   exact h2 S H4 u w' e dw Q3 Q (fc_same fc (((s1.trans s2).trans s3).trans s4)) (Dn.fits (.same (s3.trans s4)) _ _ e1) dw1 q4 fun v' H5 d' s5 d5 q5 => k v' H5 d' ((((s1.trans s2).trans s3).trans s4).trans s5) d5 q5
 | _ => exact q3.elim
theorem chain3 {a b c : Expr} {op op' : CmpOp} {pos : Pos} {r r' : R2} {f g : F2} {ta tb tc : WE} (ho : OpR X (compareOp op) r) (ho' : OpR X (compareOp op') r') (h1 : O3 X.K r f) (h2 : O3 X.K r' g) (ha : PE3 X a ta) (hb : PE3 X b tb) (hc : PE3 X c tc)
  (hm : lastMarks [op, op'] [b, c] = false := by with_unfolding_all rfl) : PE3 X (.Compare a [op, op'] [b, c] pos) (wChain f g ta tb tc) := imp (pe_chain ho ho' ha hb hc hm) fun _ _ _ => lift_chain h1 h2
def ixF : F2
 | .lst ds, .int i, Q => (match atI ds i with | some d => Q d | none => False)
 | .tup ds, .int i, Q => (match atI ds i with | some d => Q d | none => False)
 | .scr ns, .int i, Q => (match atI ns i with | some n => Q (.int n) | none => False)
 | _, _, _ => False
theorem Dns.at {K : PySem.W.Frag} {S : Addr -> Prop} {H : Hp} {ds : List D} {xs : List V} {i : Int} {d : D} (h : Dns K S H ds xs) (e : atI ds i = some d) : ∃ v, atI xs i = some v /\ Dn K S H d v := by
 unfold atI at e ⊢
 rw [<- h.len]
 cases q : ixN ds.length i with
 | none => rw [q] at e; cases e
 | some j =>
  rw [q] at e
  obtain ⟨v, e1, dn⟩ := h.get (i := j) (d := d) e
  exact ⟨v, e1, dn⟩
theorem atI_map {α β : Type} (f : α -> β) (xs : List α) (i : Int) : atI (xs.map f) i = (atI xs i).map f := by
 unfold atI
 rw [List.length_map]
 cases ixN xs.length i with
 | none => rfl
 | some j => simp
theorem o3_ix {K : PySem.W.Frag} : O3 K (fun x y H Q => rIxL K x y H Q \/ rIxT K x y H Q) ixF := by
 intro S H x y dx dy Q3 Q fc hx hy hf k
 cases dx with
 | lst ds =>
  cases dy with
  | int i =>
   simp only [Dn] at hx hy
   obtain ⟨a, xs, rfl, ha, sa, da⟩ := hx
   have hf : (match atI ds i with | some d => Q3 d | none => False) := hf
   cases e : atI ds i with
   | none => rw [e] at hf; exact hf.elim
   | some d =>
    rw [e] at hf
    obtain ⟨v, e1, dv⟩ := da.at e
    exact .inl ⟨a, xs, i, v, rfl, hy, SqL.of ha, e1, k v H d (Same.refl H) dv hf⟩
  | _ => exact hf.elim
 | tup ds =>
  cases dy with
  | int i =>
   simp only [Dn] at hx hy
   obtain ⟨a, xs, rfl, ha, da⟩ := hx
   have hf : (match atI ds i with | some d => Q3 d | none => False) := hf
   cases e : atI ds i with
   | none => rw [e] at hf; exact hf.elim
   | some d =>
    rw [e] at hf
    obtain ⟨v, e1, dv⟩ := da.at e
    exact .inr ⟨a, xs, i, v, rfl, hy, ha, e1, k v H d (Same.refl H) dv hf⟩
  | _ => exact hf.elim
 | scr ns =>
  cases dy with
  | int i =>
   simp only [Dn] at hx hy
   obtain ⟨a, rfl, ha⟩ := hx
   have hf : (match atI ns i with | some n => Q3 (.int n) | none => False) := hf
   cases e : atI ns i with
   | none => rw [e] at hf; exact hf.elim
   | some n =>
    rw [e] at hf
    exact .inl ⟨a, _, i, .int n, rfl, hy, ha.sq, by rw [atI_map, e]; rfl, k _ H (.int n) (Same.refl H) (by simp only [Dn]) hf⟩
  | _ => exact hf.elim
 | _ => cases dy <;> exact hf.elim
theorem ix3 {a b : Expr} {pos : Pos} {ta tb : WE} (ha : PE3 X a ta) (hb : PE3 X b tb) (hs : PlainIx b := by intro _ _; rfl) : PE3 X (.Subscript a b pos) (wBin ixF ta tb) :=
 imp (pe_ix (ix_list.or ix_tup) ha hb hs) fun _ _ _ => lift_bin o3_ix
abbrev F1 := List D -> (D -> Prop) -> Prop
def wCB (f : F1) (t : WA) : WE := fun ρ Q => t ρ fun ds => f ds Q
def C3 (K : PySem.W.Frag) (r : List V -> Hp -> VK -> Prop) (f : F1) : Prop := ∀ (S : Addr -> Prop) (H : Hp) (xs : List V) (ds : List D) (Q3 : D -> Prop) (Q : VK), (∀ a, H a = none -> S a) -> Dns K S H ds xs -> f ds Q3 ->
 (∀ v H' d, Same H H' -> Dn K S H' d v -> Q3 d -> Q v H') -> r xs H Q
def C3F (K : PySem.W.Frag) (r : List V -> Hp -> VK -> Prop) (f : F1) : Prop := ∀ (S : Addr -> Prop) (H : Hp) (xs : List V) (ds : List D) (Q3 : D -> Prop) (Q : VK), (∀ a, H a = none -> S a) -> Dns K S H ds xs -> f ds Q3 ->
 (∀ p ys H' es, H p = none -> H' p = some (.lst ys) -> Same H H' -> Dns K (fun a => S a /\ a ≠ p) H' es ys -> Q3 (.lst es) -> Q (.ref p) H') -> r xs H Q
theorem lift_cb {K : PySem.W.Frag} {r : List V -> Hp -> VK -> Prop} {f : F1} {t : WA} {σ : L2.St} {H : Hp} {Q : VK} (h3 : C3 K r f) (h : lift K (wCB f t) σ H Q) : tCB r (liftA K t) σ H Q := by
 obtain ⟨S, ρ, Q3, fc, sl, ht, k⟩ := h
 refine ⟨S, ρ, _, fc, sl, ht, fun vs H1 ds s1 d1 q1 => ?_⟩
 exact h3 S H1 vs ds Q3 Q (fc_same fc s1) d1 q1 fun v H' d s' d' q' => k v H' d (s1.trans s') d' q'
theorem lift_cbF {K : PySem.W.Frag} {r : List V -> Hp -> VK -> Prop} {f : F1} {t : WA} {σ : L2.St} {H : Hp} {Q : VK} (h3 : C3F K r f) (h : liftF K (wCB f t) σ H Q) : tCB r (liftA K t) σ H Q := by
 obtain ⟨S, ρ, Q3, fc, sl, ht, k⟩ := h
 refine ⟨S, ρ, _, fc, sl, ht, fun vs H1 ds s1 d1 q1 => ?_⟩
 exact h3 S H1 vs ds Q3 Q (fc_same fc s1) d1 q1 fun p ys H' es hp hp' s' d' q' => k p ys H' es (s1.free hp) hp' (s1.trans s') d' q'
theorem callB3 {x : Str} {p pos : Pos} {e : Expr} {es : List Expr} {t : WA} {id : String} {r : List V -> Hp -> VK -> Prop} {f : F1} (hc : CallR X (.builtin id) r) (h3 : C3 X.K r f) (hv : bootBuiltins x = some (.builtin id)) (hg : Gl X x) (hm : X.mg x = none) (ha : PA3 X (e :: es) t) (hn : x ≠ "__name__" := by decide) (hdb : (x == ("__debug__" : Str)) = false := by decide)
  (he : starEach (e :: es) X.env = (false, eval e X.env) :: starEach es X.env := by rfl) (hpl : (backTo pos (starEach es X.env)).any (·.1) = false := by rfl) : PE3 X (.Call (.Name x p) (e :: es) [] pos) (wCB f t) :=
 imp (pe_callB hc hg hm hv ha hn hdb he hpl) fun _ _ _ => lift_cb h3
theorem callBF3 {x : Str} {p pos : Pos} {e : Expr} {es : List Expr} {t : WA} {id : String} {r : List V -> Hp -> VK -> Prop} {f : F1} (hc : CallR X (.builtin id) r) (h3 : C3F X.K r f) (hv : bootBuiltins x = some (.builtin id)) (hg : Gl X x) (hm : X.mg x = none) (ha : PA3 X (e :: es) t) (hn : x ≠ "__name__" := by decide) (hdb : (x == ("__debug__" : Str)) = false := by decide)
  (he : starEach (e :: es) X.env = (false, eval e X.env) :: starEach es X.env := by rfl) (hpl : (backTo pos (starEach es X.env)).any (·.1) = false := by rfl) : PF3 X (.Call (.Name x p) (e :: es) [] pos) (wCB f t) :=
 imp (pe_callB hc hg hm hv ha hn hdb he hpl) fun _ _ _ => lift_cbF h3
theorem callTy3 {x : Str} {p pos : Pos} {e : Expr} {es : List Expr} {t : WA} {T : String} {r : List V -> Hp -> VK -> Prop} {f : F1} (hc : CallR X (.type T) r) (h3 : C3 X.K r f) (hv : bootBuiltins x = some (.type T)) (hg : Gl X x) (hm : X.mg x = none) (ha : PA3 X (e :: es) t) (hn : x ≠ "__name__" := by decide) (hdb : (x == ("__debug__" : Str)) = false := by decide)
  (he : starEach (e :: es) X.env = (false, eval e X.env) :: starEach es X.env := by rfl) (hpl : (backTo pos (starEach es X.env)).any (·.1) = false := by rfl) : PE3 X (.Call (.Name x p) (e :: es) [] pos) (wCB f t) :=
 imp (pe_callTy hc hg hm hv ha hn hdb he hpl) fun _ _ _ => lift_cb h3
def lenF : F1
 | [.lst ds], Q => Q (.int ds.length)
 | [.tup ds], Q => Q (.int ds.length)
 | [.scr ns], Q => Q (.int ns.length)
 | _, _ => False
theorem c3_len {K : PySem.W.Frag} : C3 K (fun xs H Q => ∃ p ys, xs = [.ref p] /\ (SqL K H p ys \/ SqT K H p ys) /\ Q (.int ys.length) H) lenF := by
 intro S H xs ds Q3 Q fc hd hf k
 match ds, hf with
 | [.lst es], hf =>
  obtain ⟨v, r, rfl, h1, h2⟩ := hd.uncons
  simp only [Dns] at h2
  subst h2
  simp only [Dn] at h1
  obtain ⟨a, ys, rfl, ha, sa, da⟩ := h1
  exact ⟨a, ys, rfl, .inl (SqL.of ha), k _ H _ (Same.refl H) (by simp only [Dn]; rw [da.len]) hf⟩
 | [.tup es], hf =>
  obtain ⟨v, r, rfl, h1, h2⟩ := hd.uncons
  simp only [Dns] at h2
  subst h2
  simp only [Dn] at h1
  obtain ⟨a, ys, rfl, ha, da⟩ := h1
  exact ⟨a, ys, rfl, .inr ha, k _ H _ (Same.refl H) (by simp only [Dn]; rw [da.len]) hf⟩
 | [.scr ns], hf =>
  obtain ⟨v, r, rfl, h1, h2⟩ := hd.uncons
  simp only [Dns] at h2
  subst h2
  simp only [Dn] at h1
  obtain ⟨a, rfl, ha⟩ := h1
  exact ⟨a, _, rfl, .inl ha.sq, k _ H _ (Same.refl H) (by simp only [Dn]; rw [List.length_map]) hf⟩
theorem len3 {p pos : Pos} {e : Expr} {t : WA} (hm : X.mg "len" = none) (ha : PA3 X [e] t) (hg : Gl X "len" := by rfl)
  (he : starEach [e] X.env = (false, eval e X.env) :: starEach [] X.env := by rfl) : PE3 X (.Call (.Name "len" p) [e] [] pos) (wCB lenF t) := callB3 call_len_seq c3_len PySem.boot_len hg hm ha (by decide) (by decide) he (by rfl)
def tupleF : F1
 | [.lst ds], Q => Q (.tup ds)
 | [.tup ds], Q => Q (.tup ds)
 | _, _ => False
theorem c3_tuple {K : PySem.W.Frag} : C3 K (fun xs H Q => ∃ p ys, xs = [.ref p] /\ ((SqL K H p ys /\ ∀ l, H l = none -> Q (.ref l) (upd H l (.tup ys))) \/ (SqT K H p ys /\ Q (.ref p) H))) tupleF := by
 intro S H xs ds Q3 Q fc hd hf k
 match ds, hf with
 | [.lst es], hf =>
  obtain ⟨v, r, rfl, h1, h2⟩ := hd.uncons
  simp only [Dns] at h2
  subst h2
  simp only [Dn] at h1
  obtain ⟨a, ys, rfl, ha, sa, da⟩ := h1
  refine ⟨a, ys, rfl, .inl ⟨SqL.of ha, fun l hl => k _ _ _ (same_upd hl) ?_ hf⟩⟩
  simp only [Dn]
  exact ⟨l, ys, rfl, .inl (.inl upd_same), Dns.fits (.same (same_upd hl)) _ _ da⟩
 | [.tup es], hf =>
  obtain ⟨v, r, rfl, h1, h2⟩ := hd.uncons
  simp only [Dns] at h2
  subst h2
  have h1' := h1
  simp only [Dn] at h1
  obtain ⟨a, ys, rfl, ha, da⟩ := h1
  exact ⟨a, ys, rfl, .inr ⟨ha, k _ H _ (Same.refl H) h1' hf⟩⟩
theorem tuple3 {p pos : Pos} {e : Expr} {t : WA} (hm : X.mg "tuple" = none) (hv : bootBuiltins "tuple" = some (.type "tuple")) (ha : PA3 X [e] t) (hg : Gl X "tuple" := by rfl)
  (he : starEach [e] X.env = (false, eval e X.env) :: starEach [] X.env := by rfl) : PE3 X (.Call (.Name "tuple" p) [e] [] pos) (wCB tupleF t) := callTy3 call_tuple_of c3_tuple hv hg hm ha (by decide) (by decide) he (by rfl)
abbrev Spec := List D -> (D -> Prop) -> Prop
def sp3 (K : PySem.W.Frag) (R : Spec) : Sp := fun vs H Q _ => ∃ (S : Addr -> Prop) (ds : List D) (Q3 : D -> Prop), (∀ a, H a = none -> S a) /\ Dns K S H ds vs /\ R ds Q3 /\ ∀ v H' d, Same H H' -> Dn K S H' d v -> Q3 d -> Q v H'
theorem call3 {k : Nat} {f : Addr} {fd : FuncData} {ps : List Str} {R : Spec} {x : Str} {p pos : Pos} {e : Expr} {es : List Expr} {t : WA} (F : FnOk X.prog X.w X.K X.mg X.base CX0 k f fd ps (sp3 X.K R)) (hr : Room k X.A) (hm : X.mg x = some (.ref f)) (hk : PySem.W.keepIn X.K (.ref f) = true) (hb : Binds X.K fd ps [])
  (ha : PA3 X (e :: es) t) (hg : Gl X x := by rfl) (hdb : (x == ("__debug__" : Str)) = false := by decide) (he : starEach (e :: es) X.env = (false, eval e X.env) :: starEach es X.env := by rfl) (hpl : (backTo pos (starEach es X.env)).any (·.1) = false := by rfl) :
  PE3 X (.Call (.Name x p) (e :: es) [] pos) (wCB R t) := imp (pe_call F hr hg hm hk hb .nil pass0 ha hdb he hpl) fun σ H Q hq20 => by
 obtain ⟨S, ρ, Q3, fc, sl, ht, k⟩ := hq20
 refine ⟨S, ρ, _, fc, sl, ht, fun vs H1 ds s1 d1 q1 => ?_⟩
 show sp3 X.K R (vs ++ []) H1 Q E0
 rw [List.append_nil]
 exact ⟨S, ds, Q3, fc_same fc s1, d1, q1, fun v H' d s' d' q' => k v H' d (s1.trans s') d' q'⟩
end
structure DE where
 nx : SEnv -> Prop
 rt : D -> Prop
 bk : SEnv -> Prop := fun _ => False
 ct : SEnv -> Prop := fun _ => False
 ex : Str -> Prop := fun _ => False
abbrev WS := DE -> SEnv -> Prop
structure Thrown (X : Cx) (pins : List (Addr × Obj)) (H : Hp) (s : Shared) (e : Addr) (cls a0 : Value) (P : List Addr) : Prop where
 mem : e ∈ P
 free : ∀ q ∈ P, H q = none
 new : ∀ q ∈ P, X.s₀.heap.get? q = none
 fld : ∀ q ∈ P, ∃ o vs, s.heap.get? q = some o /\ o.data = .fields vs
 pin : ∀ q ∈ P, ∀ p ∈ X.pn ++ pins, p.1 ≠ q
 tr : (∃ oe vs, s.heap.get? e = some oe /\ oe.cls = cls /\ oe.data = .fields vs /\ vs[1]? = some .none /\ vs[0]? = some a0) \/
  (∃ oe vs T oT ts, s.heap.get? e = some oe /\ (oe.cls = cls /\ vs[0]? = some a0) /\ oe.data = .fields vs /\ vs[1]? = some (.ref T) /\ T ∈ P /\ T ≠ e /\ s.heap.get? T = some oT /\ oT.data = .fields ts /\ ts[3]? = some .none)
def XC (X : Cx) (c : Str) (H : Hp) : Prop := ∃ C : Addr, X.mg c = some (.ref C) /\ ∀ (pins : List (Addr × Obj)) (σ : L2.St) (s : Shared) (e : Addr) (a0 : Value) (P : List Addr), Inv X pins σ H s -> Thrown X pins H s e (.ref C) a0 P -> X.xe (.ref e) s
structure EndsOk (K : PySem.W.Frag) (xc : Str -> Hp -> Prop) (n : Nat) (H₀ : Hp) (S : Addr -> Prop) (G : List (D × V)) (E : DE) (B : Ends) : Prop where
 nx : ∀ w σ H ρ, σ.length = n -> ST K H₀ S w σ H ρ G -> E.nx ρ -> B.nx σ H
 rt : ∀ v H d, Same H₀ H -> Dn K S H d v -> E.rt d -> B.rt v H
 bk : ∀ w σ H ρ, σ.length = n -> ST K H₀ S w σ H ρ G -> E.bk ρ -> B.bk σ H
 ct : ∀ w σ H ρ, σ.length = n -> ST K H₀ S w σ H ρ G -> E.ct ρ -> B.ct σ H
 ex : ∀ c H, Same H₀ H -> E.ex c -> xc c H
def liftS (K : PySem.W.Frag) (xc : Str -> Hp -> Prop) (n : Nat) (t : WS) : TS := fun B σ H => ∃ (H₀ : Hp) (S : Addr -> Prop) (w : Nat -> Addr) (ρ : SEnv) (G : List (D × V)) (E : DE), σ.length = n /\ ST K H₀ S w σ H ρ G /\ t E ρ /\ EndsOk K xc n H₀ S G E B
def PS3 (X : Cx) (st : Stmt) (t : WS) : Prop := PS X st (liftS X.K (XC X) X.N.length t)
def PSs3 (X : Cx) (st : List Stmt) (t : WS) : Prop := PSs X st (liftS X.K (XC X) X.N.length t)
section
variable {X : Cx}
theorem impS {e : Stmt} {t t' : TS} (h : PS X e t) (f : ∀ B σ H, t' B σ H -> t B σ H) : PS X e t' := fun pins s σ H B I q => h pins s σ H B I (f B σ H q)
theorem impSs {e : List Stmt} {t t' : TS} (h : PSs X e t) (f : ∀ B σ H, t' B σ H -> t B σ H) : PSs X e t' := fun pins s σ H B I q => h pins s σ H B I (f B σ H q)
def wNext : WS := fun E ρ => E.nx ρ
def wSeq (t u : WS) : WS := fun E ρ => t { E with nx := u E } ρ
theorem end3 : PSs3 X [] wNext := impSs pss_nil fun B σ H hq21 => by obtain ⟨H₀, S, w, ρ, G, E, hl, st, ht, ok⟩ := hq21; exact ok.nx w σ H ρ hl st ht
theorem seq3 {st : Stmt} {rest : List Stmt} {t u : WS} (h1 : PS3 X st t) (h2 : PSs3 X rest u) : PSs3 X (st :: rest) (wSeq t u) := impSs (pss_cons h1 h2) fun B σ H hq22 => by
 obtain ⟨H₀, S, w, ρ, G, E, hl, sT, ht, ok⟩ := hq22
 exact ⟨H₀, S, w, ρ, G, { E with nx := u E }, hl, sT, ht, ⟨fun w' σ' H' ρ' hl' st' q => ⟨H₀, S, w', ρ', G, E, hl', st', q, ok⟩, ok.rt, ok.bk, ok.ct, ok.ex⟩⟩
theorem last3 {st : Stmt} {t : WS} (h1 : PS3 X st t) : PSs3 X [st] t := impSs (pss_one h1) fun _ _ _ h => h
def wRet (t : WE) : WS := fun E ρ => t (vAll ρ) E.rt
theorem ret3 {e : Expr} {t : WE} {pos : Pos} (h : PE3 X e t) : PS3 X (.Return (some e) pos) (wRet t) := impS (ps_ret h) fun B σ H hq23 => by
 obtain ⟨H₀, S, w, ρ, G, E, hl, st, ht, ok⟩ := hq23
 exact ⟨S, vAll ρ, E.rt, st.fcH, st.all, ht, fun v H' d s' d' q' => ok.rt v H' d (st.sm.trans s') d' q'⟩
def wIfS (c : WT) (t u : WS) : WS := fun E ρ => c (vAll ρ) fun b => if b = true then t E ρ else u E ρ
theorem ifS3 {c : Expr} {a b : List Stmt} {pos : Pos} {tc : WT} {t u : WS} (hc : PT3 X c tc) (ha : PSs3 X a t) (hb : PSs3 X b u) : PS3 X (.If c a b pos) (wIfS tc t u) := impS (ps_if hc ha hb) fun B σ H hq24 => by
 obtain ⟨H₀, S, w, ρ, G, E, hl, st, ht, ok⟩ := hq24
 refine ⟨S, vAll ρ, _, st.fcH, st.all, ht, fun d H1 s1 q1 => ?_⟩
 cases d with
 | true => rw [if_pos rfl] at q1 ⊢; exact ⟨H₀, S, w, ρ, G, E, hl, st.same s1, q1, ok⟩
 | false => rw [if_neg Bool.false_ne_true] at q1 ⊢; exact ⟨H₀, S, w, ρ, G, E, hl, st.same s1, q1, ok⟩
def wSet (i : Nat) (t : WE) : WS := fun E ρ => t (vRd ρ) fun d => E.nx (ρ.set i (.ro d))
def wOwn (i : Nat) (t : WE) : WS := fun E ρ => t (vRd ρ) fun d => E.nx (ρ.set i (.ow d))
def wOwnI (i : Nat) (t : WE) : WS := fun E ρ => t (vAll ρ) fun d => (match d with | .lst ds => imms ds = true | _ => False) /\ E.nx (ρ.set i (.ow d))
section
variable {i : Nat} {x : Str} {e : Expr} {t : WE} {pos pos' : Pos}
theorem ix_lt {N : List Str} {i : Nat} {x : Str} (h : N[i]? = some x) : i < N.length := (List.getElem?_eq_some_iff.mp h).1
theorem set3 (hN : X.N.Nodup) (he : PE3 X e t) (hi : X.N[i]? = some x := by rfl) (hx : Loc X.env.scope x := by first | exact .inl rfl | exact .inr rfl) (hs : swapsWith e (some (.Name x pos')) pos.line X.env = pure false := by rfl) (hf : X.fn x = true \/ X.env.scope.names.lookup x = some .local := by first | exact .inl rfl | exact .inr rfl) :
  PS3 X (.Assign [.Name x pos'] e pos) (wSet i t) := impS (ps_set hN hi hx he hs hf) fun B σ H hq25 => by
 obtain ⟨H₀, S, w, ρ, G, E, hl, st, ht, ok⟩ := hq25
 exact ⟨_, vRd ρ, _, st.fcO, st.rd, ht, fun v H' d s' d' q' => ok.nx w _ H' _ (by rw [List.length_set]; exact hl) ((st.same s').set_ro (by rw [hl]; exact ix_lt hi) d') q'⟩
theorem own3 (hN : X.N.Nodup) (he : PF3 X e t) (hi : X.N[i]? = some x := by rfl) (hx : Loc X.env.scope x := by first | exact .inl rfl | exact .inr rfl) (hs : swapsWith e (some (.Name x pos')) pos.line X.env = pure false := by rfl) (hf : X.fn x = true \/ X.env.scope.names.lookup x = some .local := by first | exact .inl rfl | exact .inr rfl) :
  PS3 X (.Assign [.Name x pos'] e pos) (wOwn i t) := impS (ps_set hN hi hx he hs hf) fun B σ H hq26 => by
 obtain ⟨H₀, S, w, ρ, G, E, hl, st, ht, ok⟩ := hq26
 exact ⟨_, vRd ρ, _, st.fcO, st.rd, ht, fun p xs H' ds hp hp' s' d' q' => ok.nx _ _ H' _ (by rw [List.length_set]; exact hl) (st.set_ow (d := .lst ds) (by rw [hl]; exact ix_lt hi) s' hp ⟨xs, hp', d'⟩) q'⟩
theorem ownI3 (hN : X.N.Nodup) (he : PF3 X e t) (hi : X.N[i]? = some x := by rfl) (hx : Loc X.env.scope x := by first | exact .inl rfl | exact .inr rfl) (hs : swapsWith e (some (.Name x pos')) pos.line X.env = pure false := by rfl) (hf : X.fn x = true \/ X.env.scope.names.lookup x = some .local := by first | exact .inl rfl | exact .inr rfl) :
  PS3 X (.Assign [.Name x pos'] e pos) (wOwnI i t) := impS (ps_set hN hi hx he hs hf) fun B σ H hq27 => by
 obtain ⟨H₀, S, w, ρ, G, E, hl, st, ht, ok⟩ := hq27
 exact ⟨_, vAll ρ, _, st.fcH, st.all, ht, fun p xs H' ds hp hp' s' d' q' => ok.nx _ _ H' _ (by rw [List.length_set]; exact hl) (st.set_ow (d := .lst ds) (by rw [hl]; exact ix_lt hi) s' hp ⟨xs, hp', Dns.imm q'.1 d'⟩) q'.2⟩
end
def start3 (N : List Str) (ds : List D) : SEnv := ds.map Sv.ro ++ List.replicate (N.length - ds.length) Sv.no
theorem start_st {K : PySem.W.Frag} {H : Hp} {S : Addr -> Prop} {N : List Str} {ds : List D} {vs : List V} (fc : ∀ a, H a = none -> S a) (h : Dns K S H ds vs) : ST K H S (fun _ => 0) (L2.start N vs) H (start3 N ds) [] := by
 have no : ∀ (i : Nat) (d : D), (start3 N ds)[i]? ≠ some (Sv.ow d) := fun i d e => by
  unfold start3 at e
  by_cases hi : i < ds.length
  ·rw [List.getElem?_append_left (by simpa using hi), List.getElem?_map] at e
   cases q : ds[i]? with
   | none => rw [q] at e; cases e
   | some a => rw [q] at e; cases e
  ·rw [List.getElem?_append_right (by simpa using hi), List.getElem?_replicate] at e
   split at e <;> cases e
 have so : ∀ a, S a -> SO S (fun _ => 0) (start3 N ds) a := fun a s => ⟨s, fun i d e => absurd e (no i d)⟩
 refine ⟨fc, Same.refl H, fun i d e => absurd e (no i d), fun i j d e h1 => absurd h1 (no i d), fun i d e => ?_, fun g hg => nomatch hg⟩
 unfold start3 at e
 by_cases hi : i < ds.length
 ·rw [List.getElem?_append_left (by simpa using hi), List.getElem?_map] at e
  cases q : ds[i]? with
  | none => rw [q] at e; cases e
  | some a =>
   rw [q] at e
   cases e
   obtain ⟨v, e1, dv⟩ := h.get q
   refine ⟨v, ?_, Dn.fits (.mono so) _ _ dv⟩
   unfold L2.start
   have hv : i < vs.length := (List.getElem?_eq_some_iff.mp e1).1
   rw [List.getElem?_append_left (by simpa using hv), List.getElem?_map, e1]
   rfl
 ·rw [List.getElem?_append_right (by simpa using hi), List.getElem?_replicate] at e
  split at e <;> cases e
theorem fun3 {P : Program} {w : World} {K : PySem.W.Frag} {mg : Str -> Option Value} {base : Heap} {x qual : Str} {st : Stmt} {f : Addr} {fd : FuncData} {N ps : List Str} {k : Nat} {R : Spec} (F : Fun K x qual st f fd) (S : FnScope N ps (defScope st)) (len : ∀ ds Q, R ds Q -> ds.length = ps.length)
  (hbody : ∀ (cdv : Value) (A : Around) (outer : List Env) (s : Shared) (H : Hp) (E : XK), Room k (A.deeper (envOfC qual (defScope st) s.heap.objs.size f cdv)) ->
   ∃ t : WS, PSs3 (cxOf CX0 P w K mg base N qual (defScope st) f cdv A outer s H E).nox (defBody st) t /\ ∀ ds Q, R ds Q -> t { nx := fun _ => Q .non, rt := Q } (start3 N ds)) : FnOk P w K mg base CX0 (k + 1) f fd ps (sp3 K R) := by
 refine F.ok S (fun vs H Q E h => ?_) fun cdv A outer s H vs Q E hr h => ?_
 ·obtain ⟨S', ds, Q3, fc, dn, r, _⟩ := h
  rw [<- dn.len]
  exact len ds Q3 r
 ·obtain ⟨t, ht, hq⟩ := hbody cdv A outer s H E hr
  obtain ⟨S', ds, Q3, fc, dn, r, kk⟩ := h
  refine ⟨_, ht, H, S', fun _ => 0, start3 N ds, [], { nx := fun _ => Q3 .non, rt := Q3 }, ?_, start_st fc dn, hq ds Q3 r, ⟨fun w' σ' H' ρ' _ st' q => ?_, fun v H' d s' d' q => kk v H' d s' d' q, fun _ _ _ _ _ _ q => q, fun _ _ _ _ _ _ q => q, fun _ _ _ q => q.elim⟩⟩
  ·have hl := len ds Q3 r
   have hl2 := dn.len
   have hp : ps.length <= N.length := by have := congrArg List.length S.pre; rw [List.length_take] at this; omega
   unfold L2.start
   show _ = N.length
   rw [List.length_append, List.length_map, List.length_replicate]
   omega
  ·exact kk .non H' .non st'.sm (by simp only [Dn]) q
end
abbrev WX := SEnv -> (SEnv -> D -> Prop) -> Prop
def liftX (K : PySem.W.Frag) (n : Nat) (t : WX) : TE := fun σ H Q => ∃ (H₀ : Hp) (S : Addr -> Prop) (w : Nat -> Addr) (ρ : SEnv) (G : List (D × V)) (Q3 : SEnv -> D -> Prop), σ.length = n /\ ST K H₀ S w σ H ρ G /\ t ρ Q3 /\
 ∀ w' v H' ρ' d, ST K H₀ S w' σ H' ρ' G -> Dn K (SO S w' ρ') H' d v -> Q3 ρ' d -> Q v H'
def PX3 (X : Cx) (e : Expr) (t : WX) : Prop := PE X e (liftX X.K X.N.length t)
def wPure (t : WE) : WX := fun ρ Q => t (vAll ρ) fun d => d.imm = true /\ Q ρ d
def wPureR (t : WE) : WX := fun ρ Q => t (vRd ρ) fun d => Q ρ d
section
variable {X : Cx}
theorem px3 {e : Expr} {t : WE} (h : PE3 X e t) : PX3 X e (wPure t) := imp h fun σ H Q hq28 => by
 obtain ⟨H₀, S, w, ρ, G, Q3, hl, st, ht, k⟩ := hq28
 exact ⟨S, vAll ρ, _, st.fcH, st.all, ht, fun v H' d s' d' q' => k w v H' ρ d (st.same s') (Dn.imm q'.1 d') q'.2⟩
theorem pxr3 {e : Expr} {t : WE} (h : PE3 X e t) : PX3 X e (wPureR t) := imp h fun σ H Q hq29 => by
 obtain ⟨H₀, S, w, ρ, G, Q3, hl, st, ht, k⟩ := hq29
 exact ⟨_, vRd ρ, _, st.fcO, st.rd, ht, fun v H' d s' d' q' => k w v H' ρ d (st.same s') d' q'⟩
def wSetX (i : Nat) (t : WX) : WS := fun E ρ => t ρ fun ρ' d => E.nx (ρ'.set i (.ro d))
theorem setX3 {i : Nat} {x : Str} {e : Expr} {t : WX} {pos pos' : Pos} (hN : X.N.Nodup) (he : PX3 X e t) (hi : X.N[i]? = some x := by rfl) (hx : Loc X.env.scope x := by first | exact .inl rfl | exact .inr rfl) (hs : swapsWith e (some (.Name x pos')) pos.line X.env = pure false := by rfl) (hf : X.fn x = true \/ X.env.scope.names.lookup x = some .local := by first | exact .inl rfl | exact .inr rfl) :
  PS3 X (.Assign [.Name x pos'] e pos) (wSetX i t) := impS (ps_set hN hi hx he hs hf) fun B σ H hq30 => by
 obtain ⟨H₀, S, w, ρ, G, E, hl, st, ht, ok⟩ := hq30
 exact ⟨H₀, S, w, ρ, G, _, hl, st, ht, fun w' v H' ρ' d st' d' q' => ok.nx w' _ H' _ (by rw [List.length_set]; exact hl) (st'.set_ro (by rw [hl]; exact ix_lt hi) d') q'⟩
def wDrop (t : WX) : WS := fun E ρ => t ρ fun ρ' _ => E.nx ρ'
theorem expr3 {e : Expr} {t : WX} {pos : Pos} (he : PX3 X e t) (hs : swapsWith e none pos.line X.env = pure false := by rfl) : PS3 X (.Expr e pos) (wDrop t) := impS (ps_expr he hs) fun B σ H hq31 => by
 obtain ⟨H₀, S, w, ρ, G, E, hl, st, ht, ok⟩ := hq31
 exact ⟨H₀, S, w, ρ, G, _, hl, st, ht, fun w' v H' ρ' d st' d' q' => ok.nx w' _ H' _ hl st' q'⟩
def wM1 (i : Nat) (f : List D -> D -> (List D -> D -> Prop) -> Prop) (t : WX) : WX := fun ρ Q => (match ρ[i]? with | some (.ow (.lst _)) => True | _ => False) /\ t ρ fun ρ' d => match ρ'[i]? with
 | some (.ow (.lst ds)) => f ds d fun ds' r => Q (ρ'.set i (.ow (.lst ds'))) r
 | _ => False
def M3 (K : PySem.W.Frag) (r : V -> List V -> Hp -> VK -> Prop) (f : List D -> D -> (List D -> D -> Prop) -> Prop) : Prop := ∀ (S : Addr -> Prop) (H : Hp) (p : Addr) (xs : List V) (ds : List D) (y : V) (d : D) (Q3 : List D -> D -> Prop) (Q : VK),
 H p = some (.lst xs) -> Dns K S H ds xs -> Dn K S H d y -> f ds d Q3 -> (∀ ys ds' v d', Dns K S H ds' ys -> Dn K S H d' v -> Q3 ds' d' -> Q v (upd H p (.lst ys))) -> r (.ref p) [y] H Q
theorem lift_m1 {K : PySem.W.Frag} {n i : Nat} {r : V -> List V -> Hp -> VK -> Prop} {f : List D -> D -> (List D -> D -> Prop) -> Prop} {t : WX} {σ : L2.St} {H : Hp} {Q : VK} (h3 : M3 K r f) (h : liftX K n (wM1 i f t) σ H Q) :
  tBM K "list" r (tVar i) (tCons (liftX K n t) tNil) σ H Q := by
 obtain ⟨H₀, S, w, ρ, G, Q3, hl, st, ⟨h0, ht⟩, k⟩ := h
 split at h0
 ·rename_i ds e
  obtain ⟨a, b, c⟩ := st.own i _ e
  obtain ⟨xs, hp, dn⟩ := c
  refine ⟨_, a, .inl ⟨rfl, xs, SqL.of hp⟩, H₀, S, w, ρ, G, _, hl, st, ht, fun w' v H' ρ' d st' d' q' => ?_⟩
  split at q'
  ·rename_i ds' e'
   obtain ⟨a', b', c'⟩ := st'.own i _ e'
   obtain ⟨xs', hp', dn'⟩ := c'
   have ew : w i = w' i := by
    have z := a.symm.trans a'
    have z1 := Option.some.inj (Option.some.inj z)
    injection z1
   rw [ew]
   refine h3 _ H' (w' i) xs' ds' v d _ Q hp' dn' d' q' fun ys ds2 v2 d2 dn2 dv2 q2 => ?_
   have nS : ¬ SO S w' ρ' (w' i) := fun ⟨_, z⟩ => z i _ e' rfl
   have F : Fits K (SO S w' ρ') (SO S w' ρ') H' (upd H' (w' i) (.lst ys)) := .upd (.inl ⟨_, hp'⟩) nS
   have so : ∀ a, SO S w' ρ' a -> SO S w' (ρ'.set i (.ow (.lst ds2))) a := SO.mono fun j f hf => by
    rcases get_set hf with ⟨hj, _, _⟩ | ⟨_, z⟩
    ·subst hj; exact ⟨_, e'⟩
    ·exact ⟨_, z⟩
   exact k w' v2 _ _ d2 (st'.write (d' := .lst ds2) e' ⟨ys, upd_same, Dns.fits F _ _ dn2⟩) (Dn.fits (F.trans (.mono so)) _ _ dv2) q2
  ·exact q'.elim
 ·exact h0.elim
theorem m1 {i : Nat} {x : Str} {id : String} {name : Str} {e : Expr} {p apos cpos : Pos} {r : V -> List V -> Hp -> VK -> Prop} {f : List D -> D -> (List D -> D -> Prop) -> Prop} {t : WX} (slot : Slot "list" name id) (hty : typeOf (.builtin id) = pure (.type "method_descriptor")) (hm : MtR X id r) (h3 : M3 X.K r f) (he : PX3 X e t)
  (hN : X.N[i]? = some x := by rfl) (hv : Vis X.env.scope x := by first | exact Or.inl rfl | exact Or.inr (Or.inl rfl) | exact Or.inr (Or.inr rfl)) (hd : (x == ("__debug__" : Str)) = false := by decide) (hcd : (x == ("__classdict__" : Str)) = false := by decide)
  (hbase : attributeBase (.Name x p) name X.env (eval (.Name x p) X.env) = eval (.Name x p) X.env := by rfl)
  (hfew : ((backTo cpos (starEach [e] X.env)).all (fun x => !x.1) && (backToKw cpos (keywordEach [] X.env)).all (fun x => x.1.isSome)
   && decide ([e].length + ([] : List Keyword).length + (if ([] : List Keyword).isEmpty then 0 else 1) < 30)) = true := by rfl)
  (hline : (apos.endLine == cpos.line) = true := by rfl) (hs : starEach [e] X.env = (false, eval e X.env) :: starEach [] X.env := by rfl) :
  PX3 X (.Call (.Attribute (.Name x p) name apos) [e] [] cpos) (wM1 i f t) :=
 imp (pe_bm PySem.F.plainAttrs_list slot hty hm (pe_var hN hv hd hcd) (pa_cons he pa_nil hs) hbase hfew hline hs (by rfl)) fun _ _ _ h => lift_m1 h3 h
def appF : List D -> D -> (List D -> D -> Prop) -> Prop := fun ds d Q => ds.length < sizeLine /\ Q (ds ++ [d]) .non
theorem m3_app {K : PySem.W.Frag} : M3 K rAppend appF := by
 intro S H p xs ds y d Q3 Q hp dn dy hf k
 exact ⟨p, xs, y, rfl, rfl, hp, by rw [<- dn.len]; exact hf.1, k _ _ _ _ (dn.append (Dns.one dy)) (by simp only [Dn]) hf.2⟩
def popF : List D -> D -> (List D -> D -> Prop) -> Prop
 | ds, .int k, Q => (-(2 ^ 63) <= k /\ k < 2 ^ 63) /\ (match ixN ds.length k with | some j => (match ds[j]? with | some d => Q (ds.eraseIdx j) d | none => False) | none => False)
 | _, _, _ => False
theorem m3_pop {K : PySem.W.Frag} : M3 K rPopAt popF := by
 intro S H p xs ds y d Q3 Q hp dn dy hf k
 cases d with
 | int i =>
  simp only [Dn] at dy
  subst dy
  obtain ⟨⟨h1, h2⟩, hf⟩ := hf
  split at hf
  ·rename_i j ej
   split at hf
   ·rename_i dd ed
    obtain ⟨v, ev, dv⟩ := dn.get ed
    obtain ⟨g1, _⟩ := ixN_seq ej
    exact ⟨p, xs, i, j, v, rfl, rfl, hp, h1, h2, by rw [<- dn.len]; exact g1, ev, k _ _ _ _ (dn.erase j) dv hf⟩
   ·exact hf.elim
  ·exact hf.elim
 | _ => exact hf.elim
section
variable {i : Nat} {x : Str} {e : Expr} {p apos cpos : Pos} {t : WX}
theorem app3 (he : PX3 X e t) (hN : X.N[i]? = some x := by rfl) (hv : Vis X.env.scope x := by first | exact Or.inl rfl | exact Or.inr (Or.inl rfl) | exact Or.inr (Or.inr rfl)) (hd : (x == ("__debug__" : Str)) = false := by decide) (hcd : (x == ("__classdict__" : Str)) = false := by decide)
  (hbase : attributeBase (.Name x p) "append" X.env (eval (.Name x p) X.env) = eval (.Name x p) X.env := by rfl)
  (hfew : ((backTo cpos (starEach [e] X.env)).all (fun x => !x.1) && (backToKw cpos (keywordEach [] X.env)).all (fun x => x.1.isSome)
   && decide ([e].length + ([] : List Keyword).length + (if ([] : List Keyword).isEmpty then 0 else 1) < 30)) = true := by rfl)
  (hline : (apos.endLine == cpos.line) = true := by rfl) (hs : starEach [e] X.env = (false, eval e X.env) :: starEach [] X.env := by rfl) :
  PX3 X (.Call (.Attribute (.Name x p) "append" apos) [e] [] cpos) (wM1 i appF t) := m1 PySem.F.slot_list_append PySem.F.type_list_append mt_append m3_app he hN hv hd hcd hbase hfew hline hs
theorem pop3 (he : PX3 X e t) (hN : X.N[i]? = some x := by rfl) (hv : Vis X.env.scope x := by first | exact Or.inl rfl | exact Or.inr (Or.inl rfl) | exact Or.inr (Or.inr rfl)) (hd : (x == ("__debug__" : Str)) = false := by decide) (hcd : (x == ("__classdict__" : Str)) = false := by decide)
  (hbase : attributeBase (.Name x p) "pop" X.env (eval (.Name x p) X.env) = eval (.Name x p) X.env := by rfl)
  (hfew : ((backTo cpos (starEach [e] X.env)).all (fun x => !x.1) && (backToKw cpos (keywordEach [] X.env)).all (fun x => x.1.isSome)
   && decide ([e].length + ([] : List Keyword).length + (if ([] : List Keyword).isEmpty then 0 else 1) < 30)) = true := by rfl)
  (hline : (apos.endLine == cpos.line) = true := by rfl) (hs : starEach [e] X.env = (false, eval e X.env) :: starEach [] X.env := by rfl) :
  PX3 X (.Call (.Attribute (.Name x p) "pop" apos) [e] [] cpos) (wM1 i popF t) := m1 PySem.F.slot_list_pop PySem.F.type_list_pop mt_popAt m3_pop he hN hv hd hcd hbase hfew hline hs
end
end
structure Wlk (K : PySem.W.Frag) (J : It) (ds : List D) (G : List (D × V)) : Prop where
 go : ∀ (S : Addr -> Prop) (H : Hp), (∀ a, H a = none -> S a) -> (∀ g ∈ G, Dn K S H g.1 g.2) -> ∀ (i : Nat) (d : D), ds[i]? = some d -> J.go i H /\ ∀ x H', J.yld i H x H' -> Same H H' /\ Dn K S H' d x
 stop : ∀ (S : Addr -> Prop) (H : Hp), (∀ g ∈ G, Dn K S H g.1 g.2) -> ∀ i : Nat, ds.length = i -> J.stop i H
abbrev WI := DEnv -> (List D -> Prop) -> Prop
def liftI (K : PySem.W.Frag) (t : WI) : TI := fun σ H R => ∃ (S : Addr -> Prop) (ρ : DEnv) (Q3 : List D -> Prop), (∀ a, H a = none -> S a) /\ Sl K S H ρ σ /\ t ρ Q3 /\
 ∀ J H' ds G, Same H H' -> (∀ g ∈ G, Dn K S H' g.1 g.2) -> Wlk K J ds G -> Q3 ds -> R J H'
def PI3 (X : Cx) (tg iter : Expr) (t : WI) : Prop := PI X tg iter (liftI X.K t)
section
variable {X : Cx} {tg : Expr}
theorem impI {e : Expr} {t t' : TI} (h : PI X tg e t) (f : ∀ σ H R, t' σ H R -> t σ H R) : PI X tg e t' := fun pins s σ H R I q => h pins s σ H R I (f σ H R q)
def wWalk (t : WE) : WI := fun ρ Q => t ρ fun d => match d with
 | .lst ds => Q ds
 | .tup ds => Q ds
 | _ => False
theorem wlk_list {K : PySem.W.Frag} {a : Addr} {ds : List D} : Wlk K (Itl K a) ds [(.lst ds, .ref a)] where
 go := fun S H fc hg i d e => by
  have h := hg _ (List.mem_singleton.mpr rfl)
  simp only [Dn] at h
  obtain ⟨b, xs, eb, hb, sb, dn⟩ := h
  injection eb with eb
  subst eb
  obtain ⟨v, ev, dv⟩ := dn.get e
  refine ⟨⟨xs, v, SqL.of hb, ev⟩, fun x H' y => ?_⟩
  obtain ⟨e1, y⟩ := y
  subst e1
  have ex := y xs (SqL.of hb)
  rw [ev] at ex
  cases ex
  exact ⟨Same.refl _, dv⟩
 stop := fun S H hg i hi => by
  have h := hg _ (List.mem_singleton.mpr rfl)
  simp only [Dn] at h
  obtain ⟨b, xs, eb, hb, sb, dn⟩ := h
  injection eb with eb
  subst eb
  exact ⟨xs, SqL.of hb, by rw [<- dn.len]; exact Nat.le_of_eq hi⟩
theorem wlk_tup {K : PySem.W.Frag} {a : Addr} {ds : List D} : Wlk K (Itt K a) ds [(.tup ds, .ref a)] where
 go := fun S H fc hg i d e => by
  have h := hg _ (List.mem_singleton.mpr rfl)
  simp only [Dn] at h
  obtain ⟨b, xs, eb, hb, dn⟩ := h
  injection eb with eb
  subst eb
  obtain ⟨v, ev, dv⟩ := dn.get e
  refine ⟨⟨xs, v, hb, ev⟩, fun x H' y => ?_⟩
  obtain ⟨e1, y⟩ := y
  subst e1
  have ex := y xs hb
  rw [ev] at ex
  cases ex
  exact ⟨Same.refl _, dv⟩
 stop := fun S H hg i hi => by
  have h := hg _ (List.mem_singleton.mpr rfl)
  simp only [Dn] at h
  obtain ⟨b, xs, eb, hb, dn⟩ := h
  injection eb with eb
  subst eb
  exact ⟨xs, hb, by rw [<- dn.len]; exact Nat.le_of_eq hi⟩
theorem pi_seq {l : Expr} {tl : TE} (hl : PE X l tl) : PI X tg l (fun σ H R => tl σ H fun x H1 => ∃ a, x = .ref a /\ (((∃ xs, SqL X.K H1 a xs) /\ R (Itl X.K a) H1) \/ ((∃ xs, SqT X.K H1 a xs) /\ R (Itt X.K a) H1))) := by
 intro pins s σ H R I h
 refine thn (hl pins s σ H _ I h) fun v s1 hq32 => ?_
 obtain ⟨x, H1, I1, r1, q1⟩ := hq32
 obtain ⟨a, e, q⟩ := q1
 subst e
 cases r1
 rcases q with ⟨⟨xs, hq⟩, q⟩ | ⟨⟨xs, hq⟩, q⟩
 ·obtain ⟨its, rv, p, hz⟩ := I1.list hq
  refine wpAny_pyIter_list p.isList ?_
  refine ⟨s1.heap.objs.size, [s1.heap.objs.size], _, _, H1, rfl, I1.kept (t' := s1.toks) fun b o e => Heap.get?_push_of_some _ e, turn_list a _, ⟨_, Heap.get?_push_size _ rfl, rfl, rfl⟩, fun b hb => ?_, q⟩
  have e : b = s1.heap.objs.size := by simpa using hb
  subst e
  exact I1.fpOk (Nat.le_refl _) (I1.hok.fresh (Nat.le_refl _))
 ·obtain ⟨its, rv, p, hz⟩ := I1.tuple hq
  refine wpAny_pyIter_tuple (show s1.heap.IsTuple a its.toArray from p) ?_
  refine ⟨s1.heap.objs.size, [s1.heap.objs.size], _, _, H1, rfl, I1.kept (t' := s1.toks) fun b o e => Heap.get?_push_of_some _ e, turn_tuple a _, ⟨_, Heap.get?_push_size _ rfl, rfl, rfl⟩, fun b hb => ?_, q⟩
  have e : b = s1.heap.objs.size := by simpa using hb
  subst e
  exact I1.fpOk (Nat.le_refl _) (I1.hok.fresh (Nat.le_refl _))
theorem walk3 {l : Expr} {t : WE} (h : PE3 X l t) : PI3 X tg l (wWalk t) := impI (pi_seq h) fun σ H R hq33 => by
 obtain ⟨S, ρ, Q3, fc, sl, ht, k⟩ := hq33
 refine ⟨S, ρ, _, fc, sl, ht, fun v H1 d s1 d1 q1 => ?_⟩
 cases d with
 | lst ds =>
  have d1' := d1
  simp only [Dn] at d1
  obtain ⟨a, xs, rfl, ha, sa, da⟩ := d1
  exact ⟨a, rfl, .inl ⟨⟨xs, SqL.of ha⟩, k _ H1 ds [(.lst ds, .ref a)] s1 (fun g hg => by cases List.mem_singleton.mp hg; exact d1') wlk_list q1⟩⟩
 | tup ds =>
  have d1' := d1
  simp only [Dn] at d1
  obtain ⟨a, xs, rfl, ha, da⟩ := d1
  exact ⟨a, rfl, .inr ⟨⟨xs, ha⟩, k _ H1 ds [(.tup ds, .ref a)] s1 (fun g hg => by cases List.mem_singleton.mp hg; exact d1') wlk_tup q1⟩⟩
 | _ => exact q1.elim
def rngI (lo : Int) (n : Nat) : List Int := (List.range n).map fun k : Nat => lo + (k : Int)
theorem rngI_length (lo : Int) (n : Nat) : (rngI lo n).length = n := by simp [rngI]
theorem rngI_get {lo : Int} {n i : Nat} : (rngI lo n)[i]? = if i < n then some (lo + (i : Int)) else none := by
 unfold rngI
 rw [List.getElem?_map]
 by_cases h : i < n
 ·rw [if_pos h, List.getElem?_range h]; rfl
 ·rw [if_neg h, List.getElem?_eq_none (by simpa using h)]; rfl
theorem wlk_range {K : PySem.W.Frag} {lo : Int} {n : Nat} : Wlk K (Itr lo n) ((rngI lo n).map D.int) [] where
 go := fun S H fc hg i d e => by
  rw [List.getElem?_map, rngI_get] at e
  by_cases h : i < n
  ·rw [if_pos h] at e
   cases e
   refine ⟨h, fun x H' y => ?_⟩
   obtain ⟨e1, e2⟩ := y
   subst e1
   exact ⟨Same.refl _, by simp only [Dn]; exact e2⟩
  ·rw [if_neg h] at e; cases e
 stop := fun S H hg i hi => by rw [List.length_map, rngI_length] at hi; exact Nat.le_of_eq hi
def wRange (t : WA) : WI := fun ρ Q => t ρ fun ds => match ds with
 | [.int j] => (-(2 ^ 62) <= j /\ j < 2 ^ 62) /\ Q ((rngI 0 j.toNat).map D.int)
 | _ => False
theorem range3 {a : Expr} {t : WA} {p pos : Pos} (hm : X.mg "range" = none) (ha : PA3 X [a] t) (hg : Gl X "range" := by rfl) (hs : starEach [a] X.env = [(false, eval a X.env)] := by rfl) : PI3 X tg (.Call (.Name "range" p) [a] [] pos) (wRange t) :=
 impI (pi_range1 hg hm ha hs) fun σ H R hq34 => by
  obtain ⟨S, ρ, Q3, fc, sl, ht, k⟩ := hq34
  refine ⟨S, ρ, _, fc, sl, ht, fun vs H1 ds s1 d1 q1 => ?_⟩
  split at q1
  ·rename_i j
   obtain ⟨v, r, rfl, h1, h2⟩ := d1.uncons
   simp only [Dns] at h2
   subst h2
   simp only [Dn] at h1
   subst h1
   exact ⟨j, rfl, q1.1.1, q1.1.2, k _ H1 _ [] s1 (fun g hg => nomatch hg) wlk_range q1.2⟩
  ·exact q1.elim
abbrev WG := D -> SEnv -> (SEnv -> Prop) -> Prop
def liftG (K : PySem.W.Frag) (n : Nat) (g : WG) : TG := fun v σ H Q => ∃ (H₀ : Hp) (S : Addr -> Prop) (w : Nat -> Addr) (ρ : SEnv) (G : List (D × V)) (d : D) (Q3 : SEnv -> Prop), σ.length = n /\ ST K H₀ S w σ H ρ G /\ Dn K (SO S w ρ) H d v /\ g d ρ Q3 /\
 ∀ σ' H' ρ', σ'.length = n -> ST K H₀ S w σ' H' ρ' G -> Q3 ρ' -> Q σ' H'
def PG3 (X : Cx) (tg : Expr) (g : WG) : Prop := PG X tg (liftG X.K X.N.length g)
theorem impG {e : Expr} {t t' : TG} (h : PG X e t) (f : ∀ v σ H Q, t' v σ H Q -> t v σ H Q) : PG X e t' := fun pins s σ H v u Q I r q => h pins s σ H v u Q I r (f v σ H Q q)
def gN (i : Nat) : WG := fun d ρ Q => Q (ρ.set i (.ro d))
theorem name3 {i : Nat} {x : Str} {pos : Pos} (hN : X.N.Nodup) (hi : X.N[i]? = some x := by rfl) (hx : Loc X.env.scope x := by first | exact .inl rfl | exact .inr rfl) (hf : X.fn x = true \/ X.env.scope.names.lookup x = some .local := by first | exact .inl rfl | exact .inr rfl) : PG3 X (.Name x pos) (gN i) :=
 impG (pg_name hN hi hx hf) fun v σ H Q hq35 => by obtain ⟨H₀, S, w, ρ, G, d, Q3, hl, st, dn, hg, k⟩ := hq35; exact k _ H _ (by rw [List.length_set]; exact hl) (st.set_ro (by rw [hl]; exact ix_lt hi) dn) hg
def g2 (i j : Nat) : WG := fun d ρ Q => match d with
 | .tup [d1, d2] => Q ((ρ.set i (.ro d1)).set j (.ro d2))
 | _ => False
theorem pair3 {i j : Nat} {x y : Str} {k : Nat} {pos px py : Pos} (hc : X.calm = true) (hN : X.N.Nodup) (hi : X.N[i]? = some x := by rfl) (hj : X.N[j]? = some y := by rfl) (hx : Loc X.env.scope x := by first | exact .inl rfl | exact .inr rfl) (hy : Loc X.env.scope y := by first | exact .inl rfl | exact .inr rfl)
  (hf : X.fn x = true \/ X.env.scope.names.lookup x = some .local := by first | exact .inl rfl | exact .inr rfl) (hf2 : X.fn y = true \/ X.env.scope.names.lookup y = some .local := by first | exact .inl rfl | exact .inr rfl)
  (hn : (assignEach [.Name x px, .Name y py] X.env).length = 2 := by rfl) (hst : (assignEach [.Name x px, .Name y py] X.env).findIdx? (·.1) = none := by rfl)
  (hs1 : (assignEach [.Name x px, .Name y py] X.env).map (·.2) = assign (.Name x px) X.env :: (assignEach [.Name y py] X.env).map (·.2) := by rfl) (hs2 : (assignEach [.Name y py] X.env).map (·.2) = assign (.Name y py) X.env :: (assignEach [] X.env).map (·.2) := by rfl) :
  PG3 X (.Tuple [.Name x px, .Name y py] k pos) (g2 i j) :=
 impG (pg_tup (n := 2) hc (pgs_cons (pg_name hN hi hx hf) (pgs_cons (pg_name hN hj hy hf2) pgs_nil hs2) hs1) hn hst) fun v σ H Q hq36 => by
  obtain ⟨H₀, S, w, ρ, G, d, Q3, hl, st, dn, hg, k⟩ := hq36
  unfold g2 at hg
  split at hg
  ·rename_i d1 d2
   simp only [Dn] at dn
   obtain ⟨a, xs, rfl, ha, da⟩ := dn
   obtain ⟨v1, r1, rfl, h1, h2⟩ := da.uncons
   obtain ⟨v2, r2, rfl, h3, h4⟩ := h2.uncons
   simp only [Dns] at h4
   subst h4
   refine ⟨a, _, rfl, ha, rfl, v1, [v2], rfl, v2, [], rfl, rfl, ?_⟩
   have st1 := st.set_ro (i := i) (by rw [hl]; exact ix_lt hi) h1
   have m : ∀ a, SO S w ρ a -> SO S w (ρ.set i (.ro d1)) a := SO.mono fun n f hf => by
    rcases get_set hf with ⟨_, z, _⟩ | ⟨_, z⟩
    ·cases z
    ·exact ⟨_, z⟩
   have st2 := st1.set_ro (i := j) (d := d2) (v := v2) (by rw [List.length_set, hl]; exact ix_lt hj) (Dn.fits (.mono m) _ _ h3)
   exact k _ H _ (by rw [List.length_set, List.length_set]; exact hl) st2 hg
  ·exact hg.elim
def wFor (ti : WI) (g : WG) (tb : WS) : WS := fun E ρ => ti (vRd ρ) fun ds => ∃ Inv : Nat -> SEnv -> Prop, Inv 0 ρ /\
 (∀ (i : Nat) (d : D) (ρ' : SEnv), ds[i]? = some d -> Inv i ρ' -> g d ρ' fun ρ2 => tb { E with nx := Inv (i + 1), ct := Inv (i + 1), bk := E.nx } ρ2) /\ ∀ ρ', Inv ds.length ρ' -> E.nx ρ'
theorem for3 {iter : Expr} {body : List Stmt} {ti : WI} {g : WG} {tb : WS} {pos : Pos} (hc : X.calm = true) (hp : PassesOwn (model X.prog X.w) X.A X.env X.xe) (hi : PI3 X tg iter ti) (hg : PG3 X tg g) (hb : PSs3 X body tb)
  (hs : ∀ x, foldedSetIterable iter X.env x = pure x := by intro _; rfl) : PS3 X (.For tg iter body [] pos) (wFor ti g tb) := impS (ps_for hp hc hi hg hb hs) fun B σ H hq37 => by
 obtain ⟨H₀, S, w, ρ, G, E, hl, st, ht, ok⟩ := hq37
 refine ⟨_, vRd ρ, _, st.fcO, st.rd, ht, fun J H1 ds G1 s1 hg1 wk q1 => ?_⟩
 obtain ⟨Iv, h0, turn, fin⟩ := q1
 have stG : ∀ {w σ H ρ}, ST X.K H₀ S w σ H ρ (G1 ++ G) -> ST X.K H₀ S w σ H ρ G := fun st => st.ghost fun g hg => st.gh g (List.mem_append_right _ hg)
 refine ⟨fun i m σ H => m = ds.length - i /\ i <= ds.length /\ σ.length = X.N.length /\ ∃ w ρ, ST X.K H₀ S w σ H ρ (G1 ++ G) /\ Iv i ρ,
  ⟨_, rfl, Nat.zero_le _, hl, w, ρ, (st.same s1).ghost fun g hg => (List.mem_append.mp hg).elim (fun z => hg1 g z) fun z => (st.same s1).gh g z, h0⟩, ?_⟩
 rintro i m σ2 H2 ⟨rfl, hi2, hl2, w2, ρ2, st2, iv⟩
 by_cases hlt : i < ds.length
 ·refine .inr ?_
  obtain ⟨g1, g2⟩ := wk.go _ H2 st2.fcO (fun g hg => st2.gh g (List.mem_append_left _ hg)) i ds[i] (by simp [hlt])
  refine ⟨g1, fun σ' H' => σ'.length = X.N.length /\ ∃ w ρ, ST X.K H₀ S w σ' H' ρ (G1 ++ G) /\ Iv (i + 1) ρ, fun σ' H' ⟨hl', w', ρ', st', iv'⟩ => ⟨ds.length - (i + 1), by omega, rfl, hlt, hl', w', ρ', st', iv'⟩, fun x H' y => ?_⟩
  obtain ⟨s3, dx⟩ := g2 x H' y
  refine ⟨H₀, S, w2, ρ2, G1 ++ G, ds[i], _, hl2, st2.same s3, dx, turn i ds[i] ρ2 (by simp [hlt]) iv, fun σ4 H4 ρ4 hl4 st4 q4 => ?_⟩
  exact ⟨H₀, S, w2, ρ4, G1 ++ G, _, hl4, st4, q4, ⟨fun w' σ' H' ρ' hl' st' q => ⟨hl', w', ρ', st', q⟩, fun v H' d s' d' q => ok.rt v H' d s' d' q, fun w' σ' H' ρ' hl' st' q => ok.nx w' σ' H' ρ' hl' (stG st') q, fun w' σ' H' ρ' hl' st' q => ⟨hl', w', ρ', st', q⟩, ok.ex⟩⟩
 ·have e : i = ds.length := by omega
  subst e
  exact .inl ⟨wk.stop _ H2 (fun g hg => st2.gh g (List.mem_append_left _ hg)) _ rfl, ok.nx w2 σ2 H2 ρ2 hl2 (stG st2) (fin ρ2 iv)⟩
end
theorem closure_of {scope : Scope} {env : Env} (h : ∀ x ∈ scope.names, x.2 = .free -> ∃ c, env.cells.lookup x.1 = some c) :
  ∃ cl, closureFor scope env = pure cl /\ (∀ x ∈ scope.names, x.2 = .free -> cl.lookup x.1 = env.cells.lookup x.1) /\ ∀ x c, cl.lookup x = some c -> env.cells.lookup x = some c := by
 have go : ∀ (l : List (Str × NameKind)) (acc : List (Str × Addr)), (∀ x ∈ l, x.2 = .free -> ∃ c, env.cells.lookup x.1 = some c) -> (∀ x c, acc.lookup x = some c -> env.cells.lookup x = some c) ->
   ∃ cl, (forIn l acc fun (x : Str × NameKind) (cs : List (Str × Addr)) => (match x with | (name, kind) => if (kind == NameKind.free) = true then (do let c <- cellOf env name; pure (ForInStep.yield ((name, c) :: cs))) else pure (ForInStep.yield cs) : Sem (ForInStep (List (Str × Addr))))) = pure cl /\
    (∀ x c, acc.lookup x = some c -> cl.lookup x = some c) /\ (∀ x ∈ l, x.2 = .free -> cl.lookup x.1 = env.cells.lookup x.1) /\ ∀ x c, cl.lookup x = some c -> env.cells.lookup x = some c := by
  intro l
  induction l with
  | nil => intro acc _ ha; exact ⟨acc, by rw [List.forIn_nil], fun _ _ z => z, fun x hx => (nomatch hx), ha⟩
  | cons y l ih =>
   intro acc hf ha
   by_cases hk : y.2 = .free
   ·obtain ⟨c, hc⟩ := hf y List.mem_cons_self hk
    have ha' : ∀ x c', ((y.1, c) :: acc).lookup x = some c' -> env.cells.lookup x = some c' := fun x c' hx => by
     rw [List.lookup_cons] at hx
     split at hx
     ·rename_i e
      cases hx
      rw [eq_of_beq e]; exact hc
     ·exact ha x c' hx
    obtain ⟨cl, e, h1, h2, h3⟩ := ih ((y.1, c) :: acc) (fun x hx => hf x (List.mem_cons_of_mem _ hx)) ha'
    refine ⟨cl, ?_, fun x c' hx => ?_, fun x hx hfx => ?_, h3⟩
    ·rw [List.forIn_cons, <- e]
     have e1 : (y.2 == NameKind.free) = true := by rw [hk]; rfl
     have e2 : cellOf env y.1 = pure c := by unfold cellOf; rw [hc]
     obtain ⟨yn, yk⟩ := y
     dsimp only at e1 e2 ⊢
     rw [if_pos e1, e2]
     rfl
    ·by_cases hxy : x = y.1
     ·subst hxy
      have e3 : ((y.1, c) :: acc).lookup y.1 = some c := by simp
      have e4 := ha _ _ hx
      rw [hc] at e4
      cases e4
      exact h1 _ _ e3
     ·refine h1 x c' ?_
      rw [List.lookup_cons]
      have : (x == y.1) = false := by simpa using hxy
      rw [this]; exact hx
    ·rcases List.mem_cons.mp hx with rfl | hx
     ·rw [hc]; exact h1 _ _ (by simp)
     ·exact h2 x hx hfx
   ·obtain ⟨cl, e, h1, h2, h3⟩ := ih acc (fun x hx => hf x (List.mem_cons_of_mem _ hx)) ha
    refine ⟨cl, ?_, h1, fun x hx hfx => ?_, h3⟩
    ·rw [List.forIn_cons, <- e]
     have e1 : ¬ (y.2 == NameKind.free) = true := by simpa using hk
     obtain ⟨yn, yk⟩ := y
     dsimp only at e1 ⊢
     rw [if_neg e1]
     rfl
    ·rcases List.mem_cons.mp hx with rfl | hx
     ·exact absurd hfx hk
     ·exact h2 x hx hfx
 obtain ⟨cl, e, _, h2, h3⟩ := go scope.names [] h (fun x c z => by simp at z)
 refine ⟨cl, ?_, h2, h3⟩
 have e' := congrArg (fun t => t >>= fun r => (pure r : Sem (List (Str × Addr)))) e
 exact e'
theorem cellsFrom_around : ∀ (l : List (Str × NameKind)) (n : Nat) (own cl : List (Str × Addr)), cellsFrom n l (own ++ cl) = cellsFrom n l own ++ cl
 | [], _, _, _ => rfl
 | (x, k) :: r, n, own, cl => by
  unfold cellsFrom
  split
  ·exact cellsFrom_around r (n + 1) ((x, n) :: own) cl
  ·exact cellsFrom_around r n own cl
theorem cellsFrom_kind : ∀ (l : List (Str × NameKind)) (n : Nat) (own : List (Str × Addr)) (p : Str × Addr), p ∈ cellsFrom n l own -> p ∈ own \/ (p.1, NameKind.cell) ∈ l
 | [], _, _, _, h => .inl h
 | (x, k) :: r, n, own, p, h => by
  unfold cellsFrom at h
  split at h
  ·rename_i hk
   rcases cellsFrom_kind r _ _ p h with h | h
   ·rcases List.mem_cons.1 h with rfl | h
    ·exact .inr (by rw [<- eq_of_beq hk]; exact List.mem_cons_self)
    ·exact .inl h
   ·exact .inr (List.mem_cons_of_mem _ h)
  ·rcases cellsFrom_kind r _ _ p h with h | h
   ·exact .inl h
   ·exact .inr (List.mem_cons_of_mem _ h)
theorem cellsFrom_has : ∀ (l : List (Str × NameKind)) (n : Nat) (own : List (Str × Addr)) (x : Str), ((∃ c, own.lookup x = some c) \/ (x, NameKind.cell) ∈ l) -> ∃ c, (cellsFrom n l own).lookup x = some c
 | [], _, _, _, h => h.elim id fun z => (nomatch z)
 | (y, k) :: r, n, own, x, h => by
  unfold cellsFrom
  split
  ·refine cellsFrom_has r _ _ x ?_
   by_cases e : x = y
   ·exact .inl ⟨n, by rw [e, List.lookup_cons, beq_self_eq_true]⟩
   ·rcases h with ⟨c, h⟩ | h
    ·exact .inl ⟨c, by rw [List.lookup_cons, beq_eq_false_iff_ne.mpr e]; exact h⟩
    ·rcases List.mem_cons.mp h with z | z
     ·exact absurd (Prod.mk.inj z).1 e
     ·exact .inr z
  ·rename_i hk
   refine cellsFrom_has r _ _ x (h.imp_right fun z => ?_)
   rcases List.mem_cons.mp z with z | z
   ·rw [<- (Prod.mk.inj z).2] at hk; exact absurd rfl hk
   ·exact z
theorem new_block {M : Model} {A : Around} {E : Value -> Shared -> Prop} {s : Shared} {sc : Scope} {g : Addr} {cl : List (Str × Addr)} {q : Str} {f : Option Addr} {code : Value} {env : Env} {bl : Addr} {Q : Env -> Shared -> Prop}
  (h : ∀ h4 : Heap, h4.Ns s.heap.objs.size (fun _ => none) -> (∀ b o, s.heap.get? b = some o -> h4.get? b = some o) -> CellsOk h4 (s.heap.objs.size + 1) (cellsFrom (s.heap.objs.size + 1) sc.names []) ->
   Q (newEnv sc s.heap.objs.size g (cellsFrom (s.heap.objs.size + 1) sc.names cl) q f code (some env) bl) { s with heap := h4 }) :
  wpAny M A (newFunctionEnv sc g cl [] q f code (some env) bl) Q E s := by
 unfold newFunctionEnv
 refine wpAny_bind (wpAny_alloc (wpAny_bind (wpAny_layCells _ (fun x k c => by cases e : k == NameKind.cell <;> simp [e]) _ _ _ _ ?_)))
 have hz : ∀ o : Obj, (s.heap.push o).objs.size = s.heap.objs.size + 1 := fun o => Heap.size_push ..
 have ok := fun o => cellsFrom_ok sc.names (s.heap.push o) (s.heap.objs.size + 1) [] ⟨fun _ _ z => (nomatch z), .nil⟩ (by rw [hz]; exact Nat.le_refl _)
 simp only [hz] at ok ⊢
 rw [List.forIn_nil]
 exact wpAny_bind (wpAny_pure (wpAny_pure (h _ ((Heap.Ns.new s.heap _).keeps (pushCells_keeps _ _)) (fun b o e => pushCells_keeps _ _ b o (Heap.get?_push_of_some _ e)) (ok _))))
def blk (X : Cx) (N : List Str) (sc : Scope) (cl : List (Str × Addr)) (C : Addr) (pn : List (Addr × Obj)) (ex : List Addr) (s₀ : Shared) (H₀ : Hp) : Cx :=
 { X with N := N, s₀ := s₀, H₀ := H₀, env := compEnvC sc cl C X.env, outer := X.stack, stack := X.stack, ex := ex, fn := fun x => sc.names.lookup x == some NameKind.cell, pn := pn, xe := fun _ _ => False }
def bst (nl : Nat) (fr : List Nat) (σ : L2.St) : L2.St := List.replicate nl none ++ fr.map fun j => (σ[j]?).join
structure BlkOk (X : Cx) (ls fs : List Str) (fr : List Nat) (sc : Scope) : Prop where
 kind : sc.kind = .function
 nd : (ls ++ fs).Nodup
 uniq : ∀ x ∈ sc.names, sc.names.lookup x.1 = some x.2
 free : ∀ x ∈ sc.names, x.2 = .free -> X.env.kindOf x.1 = some .cell \/ X.env.kindOf x.1 = some .free
 slot : ∀ (k : Nat) (x : Str), fs[k]? = some x -> ∃ j, fr[k]? = some j /\ X.N[j]? = some x /\ (x, NameKind.free) ∈ sc.names /\ sc.names.lookup x = some .free
 lenF : fr.length = fs.length
section
variable {X : Cx}
theorem lookup_kept (t : Str -> NameKind -> NameKind) (x : Str) : ∀ l : List (Str × NameKind), (l.map fun p => (p.1, t p.1 p.2)).lookup x = (l.lookup x).map (t x)
 | [] => rfl
 | (n, k) :: r => by
  rw [List.map_cons, List.lookup_cons, List.lookup_cons]
  by_cases hx : (x == n) = true
  ·rw [hx, eq_of_beq hx]; rfl
  ·rw [Bool.not_eq_true] at hx
   rw [hx]
   exact lookup_kept t x r
theorem relabel_lookup {sc : Scope} {env : Env} {x : Str} {l : List (Str × NameKind)} : (l.map fun (n, k) => if (k == NameKind.free && env.scope.kind == .function && env.kindOf n == some .cell) then (n, NameKind.cell) else (n, k)).lookup x =
  (l.lookup x).map fun k => if (k == NameKind.free && env.scope.kind == .function && env.kindOf x == some .cell) then NameKind.cell else k := by
 rw [<- lookup_kept (fun y k => if (k == NameKind.free && env.scope.kind == .function && env.kindOf y == some .cell) then NameKind.cell else k) x l]
 refine congrArg (List.lookup x) (List.map_congr_left fun p _ => ?_)
 dsimp only
 split <;> rfl
theorem ne_size {b c : Addr} {h : Heap} {o : Obj} (e : h.get? b = some o) (hc : c = h.objs.size) : b ≠ c := fun z => Nat.lt_irrefl _ (by have q := Heap.lt_size e; rw [z, hc] at q; exact q)
theorem lt_ne {b c : Addr} {n : Nat} (h : b < n) (hc : n <= c) : b ≠ c := fun z => Nat.lt_irrefl c (Nat.lt_of_lt_of_le (z ▸ h) hc)
theorem inv_blk {ls fs : List Str} {fr : List Nat} {sc : Scope} {cl : List (Str × Addr)} {C : Addr} {pins : List (Addr × Obj)} {ex : List Addr} {σ : L2.St} {H : Hp} {s s4 : Shared} (B : BlkOk X ls fs fr sc) (I : Inv X pins σ H s)
  (hcl : ∀ x ∈ sc.names, x.2 = .free -> cl.lookup x.1 = X.env.cells.lookup x.1) (hcl2 : ∀ x c, cl.lookup x = some c -> X.env.cells.lookup x = some c \/ (C < c /\ s4.heap.IsCell c none)) (hcl3 : ∀ x ∈ sc.names, x.2 = .cell -> ∃ c, cl.lookup x.1 = some c /\ C < c)
  (hinj : ∀ x y c, cl.lookup x = some c -> cl.lookup y = some c -> x = y) (hex : ∀ b ∈ ex, FpOk X pins H b /\ b < s.heap.objs.size)
  (hC : C = s.heap.objs.size) {m : Str -> Option Value} (hn : s4.heap.Ns C m) (hk : ∀ b o, s.heap.get? b = some o -> s4.heap.get? b = some o) (ho : s4.os = s.os) (hg : s4.gens = s.gens) :
  Inv (blk X (ls ++ fs) sc cl C (X.pn ++ pins) ex s H) [] (bst ls.length fr σ) H s4 := by
 have ltC : ∀ {b : Addr} {o : Obj}, s.heap.get? b = some o -> b ≠ C := fun e => ne_size e hC
 have cellC : ∀ x c, cl.lookup x = some c -> c ≠ C := fun x c e => by
  rcases hcl2 x c e with e | ⟨e, _⟩
  ·obtain ⟨v, o, ho, _⟩ := I.cell x c e
   exact ltC ho
  ·exact Nat.ne_of_gt e
 have kOf : ∀ x, (compEnvC sc cl C X.env).kindOf x = (sc.names.lookup x).map fun k => if (k == NameKind.free && X.env.scope.kind == .function && X.env.kindOf x == some .cell) then NameKind.cell else k := fun x => relabel_lookup (sc := sc)
 have okX : (blk X (ls ++ fs) sc cl C (X.pn ++ pins) ex s H).Ok := by
  refine ⟨I.ok.mod, B.kind, I.ok.glob, I.ok.blt, (by show s.heap.objs.size <= C; rw [hC]; exact Nat.le_refl _), hinj, fun x hx => ?_, fun x c hf hl => ?_, I.ok.hd, I.ok.frames, .inl rfl, fun b hb => ?_, fun b o e => I.bs b o e, Nat.le_trans I.ok.bsz I.sz, fun b o e hb => ?_, fun b hb => ?_, I.stack, I.stkFree⟩
  ·-- a cell or free name of the block
   have hx' : ∃ k, sc.names.lookup x = some k /\ ((if (k == NameKind.free && X.env.scope.kind == .function && X.env.kindOf x == some .cell) then NameKind.cell else k) = .cell \/ (if (k == NameKind.free && X.env.scope.kind == .function && X.env.kindOf x == some .cell) then NameKind.cell else k) = .free) := by
    have hx : (compEnvC sc cl C X.env).kindOf x = some .cell \/ (compEnvC sc cl C X.env).kindOf x = some .free := hx
    rw [kOf] at hx
    cases e : sc.names.lookup x with
    | none => rw [e] at hx; rcases hx with hx | hx <;> cases hx
    | some k => rw [e] at hx; exact ⟨k, rfl, hx.imp (fun z => Option.some.inj z) fun z => Option.some.inj z⟩
   obtain ⟨k, e, hk'⟩ := hx'
   have hm := PySem.mem_of_lookup e
   by_cases kf : k = .free
   ·subst kf
    have q := hcl _ hm rfl
    obtain ⟨c, hc⟩ := I.ok.has x (B.free _ hm rfl)
    exact ⟨c, q.trans hc⟩
   ·have e2 : (k == NameKind.free) = false := by simpa using kf
    rw [e2] at hk'
    simp only [Bool.false_and, Bool.false_eq_true, if_false] at hk'
    rcases hk' with z | z
    ·obtain ⟨c, hc, _⟩ := hcl3 _ hm z
     exact ⟨c, hc⟩
    ·exact absurd z kf
  ·-- an own cell is new
   obtain ⟨c', hc', hlt⟩ := hcl3 _ (PySem.mem_of_lookup (eq_of_beq hf)) rfl
   have hc' : cl.lookup x = some c' := hc'
   have hl : cl.lookup x = some c := hl
   rw [hl] at hc'
   cases hc'
   rw [hC] at hlt
   exact Nat.le_of_lt hlt
  ·refine ⟨lt_ne (hex b hb).2 (Nat.le_of_eq hC.symm), fun x c e => ?_⟩
   rcases hcl2 x c e with e | ⟨e, _⟩
   ·exact (hex b hb).1.2.2.2.2.1 x c e
   ·exact Ne.symm (lt_ne (hex b hb).2 (by rw [<- hC]; exact Nat.le_of_lt e))
  ·obtain ⟨⟨_, _, _, f3, _, _⟩, _⟩ := hex b hb
   rcases f3 with f3 | f3
   ·exact I.ok.noex b o e f3
   ·exact absurd (Nat.lt_of_lt_of_le (Heap.lt_size e) (Nat.le_trans I.ok.bsz f3)) (Nat.lt_irrefl _)
  ·intro z
   obtain ⟨⟨_, f1, f2, _, _, _⟩, _⟩ := hex b hb
   rcases List.mem_cons.mp (I.stkSub b z) with z | z
   ·exact f1 z
   ·exact f2 z
 refine ⟨okX, ho, by rw [hg]; exact I.bare, Un.kept hk, ⟨m, hn, fun i x v h1 h2 h3 => ?_⟩, fun x c e => ?_, ?_, fun x c e => ?_, fun p hp => ?_, I.hok.kept hk, ?_⟩
 ·-- a name with a value is one from around
  have hi : ¬ i < ls.length := fun hi => by
   unfold bst at h2
   rw [List.getElem?_append_left (by simpa using hi), List.getElem?_replicate, if_pos hi] at h2
   cases h2
  have e1 : fs[i - ls.length]? = some x := by
   have h1 : (ls ++ fs)[i]? = some x := h1
   rw [List.getElem?_append_right (by omega)] at h1
   exact h1
  obtain ⟨j, ej, eN, hm, hlk⟩ := B.slot _ _ e1
  have e2 : (σ[j]?).join = some v := by
   unfold bst at h2
   rw [List.getElem?_append_right (by simpa using hi), List.getElem?_map, List.length_replicate, ej] at h2
   exact Option.some.inj h2
  have e3 : σ[j]? = some (some v) := by
   cases q : σ[j]? with
   | none => rw [q] at e2; cases e2
   | some o => rw [q] at e2; rw [show o = some v from e2]
  have hfr := B.free _ hm rfl
  have vis : Vis X.env.scope x := .inr hfr
  obtain ⟨mm, hnm, hl⟩ := I.loc
  obtain ⟨u, r, l⟩ := hl j x v eN e3 vis
  refine ⟨u, r, ?_⟩
  rcases l with ⟨k1, _⟩ | ⟨k1, c, ec, zc⟩
  ·have k1 : X.env.kindOf x = some .local := k1
   rcases hfr with z | z <;> rw [k1] at z <;> cases z
  ·refine .inr ⟨?_, c, (hcl _ hm rfl).trans ec, ?_⟩
   ·show (compEnvC sc cl C X.env).kindOf x = some .cell \/ (compEnvC sc cl C X.env).kindOf x = some .free
    rw [kOf, hlk]
    dsimp only [Option.map]
    split
    ·exact .inl rfl
    ·exact .inr rfl
   ·obtain ⟨oc, hoc, hd⟩ := zc
    exact ⟨oc, hk _ _ hoc, hd⟩
 ·rcases hcl2 x c e with e | ⟨_, e⟩
  ·obtain ⟨v, oc, hoc, hd⟩ := I.cell x c e
   exact ⟨v, oc, hk _ _ hoc, hd⟩
  ·exact ⟨none, e⟩
 ·show H C = none
  rw [hC]; exact I.hok.fresh (Nat.le_refl _)
 ·rcases hcl2 x c e with e | ⟨e, _⟩
  ·exact I.freeC x c e
  ·exact I.hok.fresh (by rw [<- hC]; exact Nat.le_of_lt e)
 ·have hp : p ∈ (X.pn ++ pins) ++ [] := hp
  rw [List.append_nil] at hp
  obtain ⟨e, n, ne, nf, d⟩ := I.pin p hp
  refine ⟨hk _ _ e, n, ltC e, fun z => ?_, d⟩
  rcases List.mem_cons.mp (I.stkSub _ z) with z | z
  ·exact ne z
  ·exact nf z
 ·show (bst ls.length fr σ).length = (ls ++ fs).length
  unfold bst
  rw [List.length_append, List.length_append, List.length_replicate, List.length_map, B.lenF]
theorem inv_back {ls fs : List Str} {sc : Scope} {cl : List (Str × Addr)} {C : Addr} {pins pins' : List (Addr × Obj)} {ex : List Addr} {σ σ' : L2.St} {H H' : Hp} {s s' : Shared} {h' : Heap} (I : Inv X pins σ H s)
  (J : Inv (blk X (ls ++ fs) sc cl C (X.pn ++ pins) ex s H) pins' σ' H' s') (hex : ∀ b ∈ ex, FpOk X pins H b) (hC : C = s.heap.objs.size) (hs : Heap.SameBut C s'.heap h') : Inv X pins σ H' { s' with heap := h' } := by
 have ltC : ∀ {b : Addr} {o : Obj}, s.heap.get? b = some o -> b ≠ C := fun e => ne_size e hC
 have fr : H' C = none := J.free
 have un : Un (frs X.stack) ex H H' s.heap s'.heap := J.base
 refine I.call' (s' := { s' with heap := h' }) (ch := ex) J.os ⟨fun b o e n hb hx => (hs.2 b (ltC e)).trans (un.keep b o e n hb hx), fun b o e n hb hx => ?_, un.free, fun b o e hx => ?_, un.tups, un.frzs, un.tbls⟩ ?_ J.bare fun b hb => ?_
 ·obtain ⟨sl, q⟩ := un.slot b o e n hb hx
  exact ⟨sl, (hs.2 b (ltC e)).trans q⟩
 ·obtain ⟨o', q⟩ := un.there b o e hx
  exact ⟨o', (hs.2 b (ltC e)).trans q⟩
 ·intro b ob e
  refine (J.hok b ob e).stay (fun c u hc q => (hs.2 c ?_).trans q) (fun _ q => q) fun _ _ q => q
  intro z
  rcases hc with hc | hc
  ·rw [z] at hc; rw [<- hc, fr] at e; cases e
  ·rw [z, fr] at hc; cases hc
 ·obtain ⟨_, f1, _, f3, f4, f5⟩ := hex b hb
  exact ⟨f3, f1, f4, f5⟩
abbrev ifsRun (ifs : List Expr) (env : Env) : Sem Bool := forIn ifs true fun c r => if r = true then (do let b <- isTrue c env (eval c env); pure (ForInStep.yield b)) else pure (ForInStep.yield r)
abbrev Calm (prog : Program) (w : World) (A : Around) {α : Type} (t : Sem α) (Q : α -> Shared -> Prop) (s : Shared) : Prop := wpAny (model prog w) A t Q (fun _ _ => False) s
theorem codeAny_compLoop_any {prog : Program} {w : World} {A : Around} {R : Result -> Shared -> Prop} {s : Shared} {el tg src : Expr} {ifs : List Expr} {bs : Scope} {at_ : Pos} {it acc : Value} {env : Env} (Iv : Nat -> Shared -> Prop)
  (turn : ∀ n s, Iv n s -> Calm prog w A (pyNext it) (fun got s1 => match got with
   | none => R (.ok .next) s1
   | some v => Calm prog w A (letOwnedTupleGo tg it v) (fun _ s2 => Calm prog w A (assign tg env v) (fun _ s3 => Calm prog w A (ifsRun ifs env) (fun ok s4 =>
     if ok = true then Calm prog w A (eval el env) (fun x s5 => Calm prog w A (call (.builtin "list.append") [acc, x]) (fun _ s6 => ∃ m, m < n /\ Iv m s6) s5) s4 else ∃ m, m < n /\ Iv m s4) s3) s2) s1) s)
  (n : Nat) (h : Iv n s) : codeAny (model prog w) A (.compLoop (.ListComp el [⟨tg, src, ifs, 0⟩] bs at_) 0 it acc env) R s := by
 have no : ∀ {α : Type} {E : Value -> Shared -> Prop} {t : Sem α} {Q Q' : α -> Shared -> Prop} {s : Shared}, Calm prog w A t Q s -> (∀ a s, Q a s -> Q' a s) -> wpAny (model prog w) A t Q' E s := fun h f => wpAny_mono h f fun _ _ z => z.elim
 refine codeAny_loop rfl Iv (fun n s hI => ?_) n h
 refine wpAny_noted (m := compTurn (.ListComp el [⟨tg, src, ifs, 0⟩] bs at_) 0 it acc env) ?_
 rw [compTurn_list]
 refine wpAny_bind (wpAny_standAt (wpAny_bind (no (turn n s hI) fun got s1 h1 => ?_)))
 match got, h1 with
 | none, h1 => exact wpAny_pure h1
 | some v, h1 =>
  refine wpAny_bind (no h1 fun _ _ h2 => wpAny_bind (no h2 fun _ _ h3 => wpAny_bind (no h3 fun ok s4 h4 => ?_)))
  match ok, h4 with
  | false, h4 => exact wpAny_pure (And.intro rfl h4)
  | true, h4 => exact wpAny_bind (wpAny_bind (no h4 fun _ _ h5 => wpAny_bind (no h5 fun _ _ h6 => wpAny_pure (wpAny_pure (And.intro rfl h6)))))
abbrev TFk := L2.St -> Hp -> (Bool -> Hp -> Prop) -> Prop
def PIf (X : Cx) (ifs : List Expr) (t : TFk) : Prop :=
 ∀ (pins : List (Addr × Obj)) (s : Shared) (σ : L2.St) (H : Hp) (Q : Bool -> Hp -> Prop), Inv X pins σ H s -> t σ H Q ->
  wpAny (model X.prog X.w) X.A (forIn ifs true fun c r => if r = true then do let ok <- isTrue c X.env (eval c X.env); pure (ForInStep.yield ok) else pure (ForInStep.yield r)) (TP X pins σ Q) X.xe s
theorem if_none : PIf X [] (fun _ H Q => Q true H) := fun pins s σ H Q I h => by
 rw [List.forIn_nil]
 exact wpAny_pure ⟨H, I, h⟩
theorem if_one {c : Expr} {t : TT} (h : PT X c t) : PIf X [c] t := fun pins s σ H Q I hw => by
 rw [List.forIn_cons]
 refine wpAny_bind ?_
 rw [if_pos rfl]
 refine wpAny_bind (thn (h pins s σ H Q I hw) fun b s1 q => wpAny_pure ?_)
 dsimp only
 rw [List.forIn_nil]
 exact wpAny_pure q
def tComp (nl : Nat) (fr : List Nat) (wi : TI) (g : TG) (tf : TFk) (te : TE) : TE := fun σ H Q => wi σ H fun J H1 => ∀ acc, H1 acc = none -> ∃ W : Nat -> Nat -> Hp -> List V -> Prop, (∃ m, W 0 m (upd H1 acc (.lst [])) []) /\
 ∀ i m H ys, W i m H ys -> H acc = some (.lst ys) /\ ((J.stop i H /\ Q (.ref acc) H) \/ (J.go i H /\ ∀ x H', J.yld i H x H' -> g x (bst nl fr σ) H' fun σ2 H2 => (σ2.drop nl = fr.map fun j => (σ[j]?).join) /\ tf σ2 H2 fun b H3 =>
  if b = true then te σ2 H3 fun y H4 => H4 acc = some (.lst ys) /\ ys.length < sizeLine /\ ∃ m', m' < m /\ W (i + 1) m' (upd H4 acc (.lst (ys ++ [y]))) (ys ++ [y]) else ∃ m', m' < m /\ W (i + 1) m' H3 ys))
theorem run_comp {ls fs : List Str} {fr : List Nat} {sc : Scope} {tg iter elt : Expr} {ifs : List Expr} {pos p2 : Pos} {wi : TI} {g : TG} {tf : TFk} {te : TE} {pins : List (Addr × Obj)} {σ : L2.St} {H : Hp} {s : Shared} {Qe : VK} {use : Option (Value -> Sem Unit)} {Qv : Value -> Shared -> Prop}
  (hc : X.calm = true) (B : BlkOk X ls fs fr sc) (hi : PI X tg iter wi) (hg : ∀ cl C pn ex s H, PG (blk X (ls ++ fs) sc cl C pn ex s H) tg g) (hf : ∀ cl C pn ex s H, PIf (blk X (ls ++ fs) sc cl C pn ex s H) ifs tf) (he : ∀ cl C pn ex s H, PE (blk X (ls ++ fs) sc cl C pn ex s H) elt te)
  (hs : ∀ x, foldedSetIterable iter X.env x = pure x) (I : Inv X pins σ H s) (h : tComp ls.length fr wi g tf te σ H Qe)
  (fin : ∀ acc C s' H', Inv X pins σ H' s' -> (∃ m, s'.heap.Ns C m) -> FpOk X pins H' C -> Qe (.ref acc) H' -> compPost (model X.prog X.w) X.A X.xe use Qv (.ref acc) C (.ok .next) s') :
  wpAny (model X.prog X.w) X.A (comprehension (.ListComp elt [⟨tg, iter, ifs, 0⟩] sc pos) sc X.env p2 (newList []) false (eval iter X.env) use) Qv X.xe s := by
 obtain ⟨cl, ecl, hcl, hcl2⟩ := closure_of (scope := sc) (env := X.env) fun x hx hf => I.ok.has x.1 (B.free x hx hf)
 refine wpAny_comprehension_free (g := ⟨tg, iter, ifs, 0⟩) (gs := []) rfl hs ecl B.kind (fun x hx e => (B.uniq x hx).trans (congrArg some e)) ?_
 refine thn (hi pins s σ H _ I h) fun v s1 h1 => thn h1 fun itv s2 h2 => ?_
 obtain ⟨it, fp, tn, J, H2, e, I2, T, st2, f2, h2⟩ := h2
 subst e
 refine wpAny_newObj_type ?_ (by show ([] : List Value).toArray.size <= sizeLine; simp)
 have hacc : H2 s2.heap.objs.size = none := I2.hok.fresh (Nat.le_refl _)
 have I3 : Inv X pins σ (upd H2 s2.heap.objs.size (.lst [])) { s2 with heap := s2.heap.push { cls := .type "list", data := .seq ([] : List Value).toArray } } :=
  I2.laid (t' := s2.toks) (fun b o e => Heap.get?_push_of_some _ e) (Nat.le_refl _) ⟨by simp, [], 0, .nil, Heap.get?_push_size _ rfl⟩
 have hfp : ∀ b ∈ fp, b < s2.heap.objs.size := fun b hb => by obtain ⟨o, e, _⟩ := T.obj _ _ st2 b hb; exact Heap.lt_size e
 obtain ⟨W, ⟨m0, w0⟩, turn⟩ := h2 _ hacc
 generalize hacc2 : s2.heap.objs.size = acc at hacc I3 w0 turn ⊢
 have fpne : ∀ b ∈ fp, b ≠ acc := fun b hb => lt_ne (hfp b hb) (Nat.le_of_eq hacc2)
 have f3 : ∀ b ∈ fp, FpOk X pins (upd H2 acc (.lst [])) b := fun b hb => ⟨by rw [upd_ne (fpne b hb)]; exact (f2 b hb).1, (f2 b hb).2⟩
 generalize hs3 : ({ s2 with heap := s2.heap.push { cls := .type "list", data := .seq ([] : List Value).toArray } } : Shared) = s3 at I3
 have hsz3 : s3.heap.objs.size = acc + 1 := by rw [<- hs3]; show (s2.heap.push _).objs.size = _; rw [Heap.size_push, hacc2]
 have st3 : tn 0 s3.heap := T.keep _ _ _ st2 fun b hb o e => by rw [<- hs3]; exact Heap.get?_push_of_some _ e
 refine new_block fun h4 hn4 hk4 co => ?_
 generalize hC : s3.heap.objs.size = C at hn4 co ⊢
 have eC : cellsFrom (C + 1) sc.names cl = cellsFrom (C + 1) sc.names [] ++ cl := cellsFrom_around sc.names (C + 1) [] cl
 generalize hcs : cellsFrom (C + 1) sc.names [] = cs at co eC
 have own : ∀ x c, cs.lookup x = some c -> (x, NameKind.cell) ∈ sc.names /\ C < c /\ h4.IsCell c none := fun x c e => by
  have m := PySem.mem_of_lookup e
  refine ⟨?_, (co.empty x c m).2, (co.empty x c m).1⟩
  rw [<- hcs] at m
  rcases cellsFrom_kind _ _ _ _ m with z | z
  ·cases z
  ·exact z
 generalize hdl : cellsFrom (C + 1) sc.names cl = dl at eC ⊢
 have two : ∀ x c, dl.lookup x = some c -> cs.lookup x = some c \/ (cs.lookup x = none /\ cl.lookup x = some c) := fun x c e => by
  rw [eC, List.lookup_append] at e
  cases q : cs.lookup x with
  | none => rw [q] at e; exact .inr ⟨rfl, e⟩
  | some d => rw [q] at e; exact .inl e
 have hdl1 : ∀ x ∈ sc.names, x.2 = .free -> dl.lookup x.1 = X.env.cells.lookup x.1 := fun x hx e => by
  rw [<- hcl x hx e, eC, List.lookup_append]
  cases q : cs.lookup x.1 with
  | none => rfl
  | some d =>
   have z := B.uniq _ (own _ _ q).1
   rw [B.uniq x hx, e] at z
   cases z
 have hdl2 : ∀ x c, dl.lookup x = some c -> X.env.cells.lookup x = some c \/ (C < c /\ h4.IsCell c none) := fun x c e => by
  rcases two x c e with e | ⟨_, e⟩
  ·exact .inr (own x c e).2
  ·exact .inl (hcl2 x c e)
 have hdl3 : ∀ x ∈ sc.names, x.2 = .cell -> ∃ c, dl.lookup x.1 = some c /\ C < c := fun x hx e => by
  obtain ⟨c, hc⟩ := cellsFrom_has sc.names (C + 1) [] x.1 (.inr (by rw [<- e]; exact hx))
  rw [hcs] at hc
  exact ⟨c, by rw [eC, List.lookup_append, hc]; rfl, (own _ _ hc).2.1⟩
 have low : ∀ x c, cl.lookup x = some c -> c < C := fun x c e => by
  obtain ⟨v, o, ho, _⟩ := I3.cell x c (hcl2 x c e)
  rw [<- hC]; exact Heap.lt_size ho
 have hdl4 : ∀ x y c, dl.lookup x = some c -> dl.lookup y = some c -> x = y := fun x y c e e' => by
  rcases two x c e with e | ⟨_, e⟩ <;> rcases two y c e' with e' | ⟨_, e'⟩
  ·exact name_of_addr co.apart (PySem.mem_of_lookup e) (PySem.mem_of_lookup e')
  ·exact absurd (own _ _ e).2.1 (Nat.lt_asymm (low _ _ e'))
  ·exact absurd (own _ _ e').2.1 (Nat.lt_asymm (low _ _ e))
  ·exact I3.ok.inj x y c (hcl2 x c e) (hcl2 y c e')
 have I4 : Inv (blk X (ls ++ fs) sc dl C (X.pn ++ pins) fp s3 (upd H2 acc (.lst []))) [] (bst ls.length fr σ) (upd H2 acc (.lst [])) { s3 with heap := h4 } :=
  inv_blk B I3 hdl1 hdl2 hdl3 hdl4 (fun b hb => ⟨f3 b hb, by rw [hsz3, <- hacc2]; exact Nat.lt_succ_of_lt (hfp b hb)⟩) hC.symm hn4 hk4 rfl rfl
 generalize hX : blk X (ls ++ fs) sc dl C (X.pn ++ pins) fp s3 (upd H2 acc (.lst [])) = Y at I4
 have pY : Y.prog = X.prog := by rw [<- hX]; rfl
 have wY : Y.w = X.w := by rw [<- hX]; rfl
 have kY : Y.K = X.K := by rw [<- hX]; rfl
 have AY : Y.A = X.A := by rw [<- hX]; rfl
 have cY : Y.calm = true := by rw [<- hX]; exact hc
 have eY : Y.env = compEnvC sc dl C X.env := by rw [<- hX]; rfl
 have xY : Y.xe = fun _ _ => False := by rw [<- hX]; rfl
 have statY : ∀ {H' : Hp}, (∀ b ∈ fp, H' b = none) -> ∀ b ∈ fp, FpOk Y [] H' b := fun hn b hb => by
  rw [<- hX]
  obtain ⟨_, f1, f2', _, f4, f5⟩ := f3 b hb
  refine ⟨hn b hb, fun z => ?_, fun z => ?_, .inl hb, fun x c e => ?_, fun p hp => f5 p ?_⟩
  ·exact absurd z (lt_ne (hfp b hb) (by rw [<- hC, hsz3, hacc2]; exact Nat.le_succ _))
  ·rcases List.mem_cons.mp (I3.stkSub b z) with z | z
   ·exact f1 z
   ·exact f2' z
  ·rcases hdl2 x c e with e | ⟨e, _⟩
   ·exact f4 x c e
   ·exact Ne.symm (lt_ne (hfp b hb) (by rw [hacc2]; exact Nat.le_of_lt (Nat.lt_trans (by rw [<- hC, hsz3]; exact Nat.lt_succ_self _) e)))
  ·have hp : p ∈ (X.pn ++ pins) ++ [] := hp
   rw [List.append_nil] at hp; exact hp
 have st4 : tn 0 h4 := T.keep _ _ _ st3 fun b hb o e => hk4 b o e
 have loop : ∀ s5 : Shared, (∃ i H', Inv Y [] (bst ls.length fr σ) H' s5 /\ tn i s5.heap /\ (∀ b ∈ fp, H' b = none) /\ ∃ m ys, W i m H' ys) -> codeAny (model X.prog X.w) X.A (.compLoop (.ListComp elt [⟨tg, iter, ifs, 0⟩] sc pos) 0 (.ref it) (.ref acc) (compEnvC sc dl C X.env)) (compPost (model X.prog X.w) X.A X.xe use Qv (.ref acc) C) s5 := by
  rintro s5 ⟨i, H', I5, st5, fr5, m, ys, w5⟩
  refine codeAny_compLoop_any (fun n s' => ∃ i H' ys, Inv Y [] (bst ls.length fr σ) H' s' /\ tn i s'.heap /\ (∀ b ∈ fp, H' b = none) /\ W i n H' ys) ?_ m ⟨i, H', ys, I5, st5, fr5, w5⟩
  rintro n s6 ⟨i, H6, ys, I6, st6, fr6, w6⟩
  obtain ⟨ha6, alt⟩ := turn i n H6 ys w6
  rcases alt with ⟨stop, qn⟩ | ⟨go, step⟩
  ·have q := T.done Y pY wY kY cY i [] s6 _ H6 (fun _ _ => False) I6 (statY fr6) st6 stop
   rw [AY] at q
   refine thn q fun r s7 hq38 => ?_
   obtain ⟨hr, I7⟩ := hq38
   subst hr
   have fr7 : H6 C = none := by
    have := I7.free
    rw [eY] at this
    exact this
   refine fin acc C s7 H6 ?_ ?_ (I3.fpOk (Nat.le_of_eq hC) fr7) qn
   ·rw [<- hX] at I7
    exact inv_back I3 I7 (fun b hb => f3 b hb) hC.symm (.refl ..)
   ·obtain ⟨m, hm, _⟩ := I7.loc
    rw [eY] at hm
    exact ⟨m, hm⟩
  ·have q := T.item Y pY wY kY cY i [] s6 _ H6 (fun _ _ => False) I6 (statY fr6) st6 go
   rw [AY] at q
   refine thn q fun r s7 hq39 => ?_
   obtain ⟨u, hr, h7⟩ := hq39
   subst hr
   refine thn h7 fun _ s8 hq40 => ?_
   obtain ⟨x, H8, I8, r8, y8, st8, fr8⟩ := hq40
   have I8' := I8.pinned (statY fr8) (T.obj _ _ st8)
   have hgY := hg dl C (X.pn ++ pins) fp s3 (upd H2 acc (.lst []))
   have hfY := hf dl C (X.pn ++ pins) fp s3 (upd H2 acc (.lst []))
   have heY := he dl C (X.pn ++ pins) fp s3 (upd H2 acc (.lst []))
   rw [hX] at hgY hfY heY
   have q8 := hgY _ s8 _ H8 x u _ I8' r8 (step x H8 y8)
   rw [pY, wY, AY, eY, xY] at q8
   refine thn q8 fun _ s9 hq41 => ?_
   obtain ⟨σ9, H9, I9, hσ9, q9⟩ := hq41
   have q10 := hfY _ s9 σ9 H9 _ I9 q9
   rw [pY, wY, AY, eY, xY] at q10
   refine thn q10 fun ok s10 hq42 => ?_
   obtain ⟨H10, I10, q10⟩ := hq42
   have bl : ∀ {H7 : Hp} {s7 : Shared}, Inv Y ([] ++ pinsAt fp s8.heap) σ9 H7 s7 -> (∃ m', m' < n /\ ∃ ys', W (i + 1) m' H7 ys') -> ∃ m, m < n /\ ∃ i H' ys, Inv Y [] (bst ls.length fr σ) H' s7 /\ tn i s7.heap /\ (∀ b ∈ fp, H' b = none) /\ W i m H' ys := fun {H7 s7} I7 ⟨m', hm, ys', w7⟩ => by
    refine ⟨m', hm, i + 1, H7, ys', ?_, T.keep _ _ _ st8 fun b hb o e => (I7.pin (b, o) (List.mem_append_right _ (List.mem_append_right _ (mem_pinsAt hb e)))).1, fun b hb => ?_, w7⟩
    ·refine I7.unpinned.weak ?_ fun k v e => ?_
     ·rw [I7.len, <- I6.len]
     ·by_cases hk : k < ls.length
      ·unfold bst at e
       rw [List.getElem?_append_left (by simpa using hk), List.getElem?_replicate, if_pos hk] at e
       cases e
      ·have e2 : (σ9.drop ls.length)[k - ls.length]? = some (some v) := by
        rw [hσ9]
        unfold bst at e
        rw [List.getElem?_append_right (by simpa using hk), List.length_replicate] at e
        exact e
       rw [List.getElem?_drop] at e2
       rw [show ls.length + (k - ls.length) = k by omega] at e2
       exact e2
    ·obtain ⟨o, e, d⟩ := T.obj _ _ st8 b hb
     exact (I7.pin (b, o) (List.mem_append_right _ (List.mem_append_right _ (mem_pinsAt hb e)))).2.1
   cases ok with
   | false =>
    rw [if_neg Bool.false_ne_true] at q10 ⊢
    obtain ⟨m', hm, w'⟩ := q10
    exact bl I10 ⟨m', hm, ys, w'⟩
   | true =>
    rw [if_pos rfl] at q10 ⊢
    have q11 := heY _ s10 σ9 H10 _ I10 q10
    rw [pY, wY, AY, eY, xY] at q11
    refine thn q11 fun yv s11 hq43 => ?_
    obtain ⟨y, H11, I11, r11, hacc11, hz11, m', hm, w'⟩ := hq43
    have q12 := (mt_append (X := Y)) _ s11 σ9 H11 (.ref acc) [y] (.ref acc) [yv] (fun _ H' => H' = upd H11 acc (.lst (ys ++ [y]))) I11 rfl (.cons r11 .nil) ⟨acc, ys, y, rfl, rfl, hacc11, hz11, rfl⟩
    rw [pY, wY, AY, xY] at q12
    refine thn q12 fun _ s12 hq44 => ?_
    obtain ⟨_, H12, I12, _, e12⟩ := hq44
    subst e12
    exact bl I12 ⟨m', hm, _, w'⟩
 have L0 := loop _ ⟨0, _, I4, st4, fun b hb => (f3 b hb).1, m0, [], w0⟩
 refine codeAny_compStart_list L0 (T.self _ 0 _ _ _ st4 L0)
theorem pe_comp {ls fs : List Str} {fr : List Nat} {sc : Scope} {tg iter elt : Expr} {ifs : List Expr} {pos : Pos} {wi : TI} {g : TG} {tf : TFk} {te : TE}
  (hc : X.calm = true) (B : BlkOk X ls fs fr sc) (hi : PI X tg iter wi) (hg : ∀ cl C pn ex s H, PG (blk X (ls ++ fs) sc cl C pn ex s H) tg g) (hf : ∀ cl C pn ex s H, PIf (blk X (ls ++ fs) sc cl C pn ex s H) ifs tf) (he : ∀ cl C pn ex s H, PE (blk X (ls ++ fs) sc cl C pn ex s H) elt te)
  (hs : ∀ x, foldedSetIterable iter X.env x = pure x := by intro _; rfl) : PE X (.ListComp elt [⟨tg, iter, ifs, 0⟩] sc pos) (tComp ls.length fr wi g tf te) := by
 intro pins s σ H Q I h
 rw [eval_ListComp]
 refine run_comp (use := none) hc B hi hg hf he hs I h fun acc C s' H' I' hm fp q => ?_
 obtain ⟨m, hm⟩ := hm
 obtain ⟨f0, f1, _, f3, f4, f5⟩ := fp
 exact ⟨m, hm, fun h' hsb => ⟨.ref acc, H', I'.turned (t' := s'.toks) (fun b o hb e => (hsb.2 b hb).trans e) f0 f1 f3 f4 f5, rfl, q⟩⟩
theorem ps_setComp {i : Nat} {x : Str} {ls fs : List Str} {fr : List Nat} {sc : Scope} {tg iter elt : Expr} {ifs : List Expr} {pos spos pos' : Pos} {wi : TI} {g : TG} {tf : TFk} {te : TE} (hN : X.N.Nodup) (hx0 : X.N[i]? = some x) (hx : X.env.scope.names.lookup x = some .local)
  (hc : X.calm = true) (B : BlkOk X ls fs fr sc) (hi : PI X tg iter wi) (hg : ∀ cl C pn ex s H, PG (blk X (ls ++ fs) sc cl C pn ex s H) tg g) (hf : ∀ cl C pn ex s H, PIf (blk X (ls ++ fs) sc cl C pn ex s H) ifs tf) (he : ∀ cl C pn ex s H, PE (blk X (ls ++ fs) sc cl C pn ex s H) elt te)
  (hsw : swapsWith (.ListComp elt [⟨tg, iter, ifs, 0⟩] sc pos) (some (.Name x pos')) spos.line X.env = pure true)
  (hs : ∀ x, foldedSetIterable iter X.env x = pure x := by intro _; rfl) : PS X (.Assign [.Name x pos'] (.ListComp elt [⟨tg, iter, ifs, 0⟩] sc pos) spos) (tAsg (tComp ls.length fr wi g tf te) (gName i)) := by
 intro pins s σ H D I h
 rw [exec_Assign_Name_used _ _ _ _ hsw]; refine wpAny_bind (wpAny_standAt (wpAny_bind ?_))
 show wpAny _ X.A (do let _ <- comprehension (.ListComp elt [⟨tg, iter, ifs, 0⟩] sc pos) sc X.env _ (newList []) false (eval iter X.env) (some (assign (.Name x pos') X.env))) _ _ s
 refine wpAny_bind (wpAny_mono (run_comp (use := some (assign (.Name x pos') X.env)) (Qv := fun _ s' => SP X pins D .next s') hc B hi hg hf he hs I h fun acc C s' H' I' hm fp q => ?_) (fun _ s' hq => wpAny_pure (wpAny_pure hq)) fun _ _ e => e)
 obtain ⟨m, hm⟩ := hm
 obtain ⟨f0, f1, _, f3, f4, f5⟩ := fp
 refine wpAny_assign_Name (store_ok2 I' hN hx0 (.inl hx) (v := .ref acc) rfl (fun s'' I'' hsb => ?_) (.inr hx))
 obtain ⟨a, hsb, ha⟩ := hsb
 have haC : a ≠ C := by
  rcases ha with rfl | ha
  ·exact Ne.symm f1
  ·exact f4 x a ha
 exact ⟨m, hm.sameBut hsb (Ne.symm haC), fun h' hs' => ⟨_, H', I''.turned (t' := s''.toks) (fun b o hb e => (hs'.2 b hb).trans e) f0 f1 f3 f4 f5, q⟩⟩
end
def chk (outer : List (Str × NameKind)) (sc : Scope) (N ls fs : List Str) (fr : List Nat) : Bool :=
 (sc.kind == .function) && decide (ls ++ fs).Nodup && sc.names.all (fun x => decide (sc.names.lookup x.1 = some x.2)) &&
 sc.names.all (fun x => decide (x.2 = .free -> (outer.lookup x.1 = some .cell \/ outer.lookup x.1 = some .free))) && decide (fr.length = fs.length) &&
 (fs.zip fr).all (fun x => decide (N[x.2]? = some x.1) && sc.names.contains (x.1, NameKind.free) && decide (sc.names.lookup x.1 = some .free))
theorem chk_ok {X : Cx} {ls fs : List Str} {fr : List Nat} {sc : Scope} (h : chk X.env.scope.names sc X.N ls fs fr = true) : BlkOk X ls fs fr sc := by
 unfold chk at h
 simp only [Bool.and_eq_true, List.all_eq_true, decide_eq_true_eq] at h
 obtain ⟨⟨⟨⟨⟨h1, h2⟩, h3⟩, h5⟩, h6⟩, h7⟩ := h
 refine ⟨eq_of_beq h1, h2, h3, h5, fun k x e => ?_, h6⟩
 have hk : k < fs.length := (List.getElem?_eq_some_iff.mp e).1
 have hm : (x, fr[k]'(by omega)) ∈ fs.zip fr := by
  have : (fs.zip fr)[k]? = some (x, fr[k]'(by omega)) := by
   rw [List.getElem?_zip_eq_some]
   exact ⟨e, by simp⟩
  exact List.mem_of_getElem? this
 obtain ⟨⟨a, b⟩, c⟩ := h7 _ hm
 exact ⟨fr[k]'(by omega), by simp, a, by simpa using b, c⟩
abbrev GE := D -> DEnv -> (DEnv -> Prop) -> Prop
def liftGE (K : PySem.W.Frag) (nl n : Nat) (g : GE) : TG := fun v σ H Q => ∃ (S : Addr -> Prop) (ρ : DEnv) (d : D) (Q3 : DEnv -> Prop), σ.length = n /\ (∀ a, H a = none -> S a) /\ Sl K S H ρ σ /\ Dn K S H d v /\ g d ρ Q3 /\
 ∀ σ' ρ', Sl K S H ρ' σ' -> σ'.drop nl = σ.drop nl -> Q3 ρ' -> Q σ' H
def PG4 (X : Cx) (nl : Nat) (tg : Expr) (g : GE) : Prop := PG X tg (liftGE X.K nl X.N.length g)
theorem Sl.set {K : PySem.W.Frag} {S : Addr -> Prop} {H : Hp} {ρ : DEnv} {σ : L2.St} {i : Nat} {d : D} {v : V} (h : Sl K S H ρ σ) (hi : i < σ.length) (q : Dn K S H d v) : Sl K S H (ρ.set i (some d)) (σ.set i (some v)) := fun j e he => by
 rcases get_set he with ⟨hj, z, _⟩ | ⟨hj, z⟩
 ·cases z
  subst hj
  exact ⟨v, List.getElem?_set_self hi, q⟩
 ·obtain ⟨u, a, b⟩ := h j e z
  exact ⟨u, by rw [List.getElem?_set_ne (Ne.symm hj)]; exact a, b⟩
def hN (i : Nat) : GE := fun d ρ Q => Q (ρ.set i (some d))
def h2 (i j : Nat) : GE := fun d ρ Q => match d with
 | .tup [d1, d2] => Q ((ρ.set i (some d1)).set j (some d2))
 | _ => False
theorem drop_set {α : Type} {l : List α} {i n : Nat} {x : α} (h : i < n) : (l.set i x).drop n = l.drop n := by
 rw [List.drop_set, if_pos h]
section
variable {X : Cx}
theorem bname {nl i : Nat} {x : Str} {pos : Pos} (nd : X.N.Nodup) (hil : i < nl) (hi : X.N[i]? = some x := by rfl) (hx : Loc X.env.scope x := by first | exact .inl rfl | exact .inr rfl) (hfx : X.fn x = true \/ X.env.scope.names.lookup x = some .local := by first | exact .inr rfl | exact .inl rfl) : PG4 X nl (.Name x pos) (hN i) :=
 impG (pg_name nd hi hx hfx) fun v σ H Q hq45 => by obtain ⟨S, ρ, d, Q3, hl, fc, sl, dn, hg, k⟩ := hq45; exact k _ _ (sl.set (by rw [hl]; exact ix_lt hi) dn) (drop_set hil) hg
def PIf3 (X : Cx) (ifs : List Expr) (t : WT) : Prop := PIf X ifs (liftT X.K t)
def wTrue : WT := fun _ Q => Q true
theorem noif : PIf3 X [] wTrue := fun pins s σ H Q I hq46 => by obtain ⟨S, ρ, Q3, fc, sl, ht, k⟩ := hq46; exact if_none pins s σ H Q I (k true H (Same.refl H) ht)
theorem oneif {c : Expr} {t : WT} (h : PT3 X c t) : PIf3 X [c] t := if_one h
def compW (g : GE) (tf : WT) (te : WE) (ρ : DEnv) : List D -> List D -> (D -> Prop) -> Prop
 | [], acc, Q => Q (.lst acc)
 | d :: r, acc, Q => g d ρ fun ρ2 => tf ρ2 fun b => if b = true then te ρ2 fun y => acc.length < sizeLine /\ compW g tf te ρ r (acc ++ [y]) Q else compW g tf te ρ r acc Q
def benv (nl : Nat) (fr : List Nat) (ρ : DEnv) : DEnv := List.replicate nl none ++ fr.map fun j => (ρ[j]?).join
def wComp (nl : Nat) (fr : List Nat) (ti : WI) (g : GE) (tf : WT) (te : WE) : WE := fun ρ Q => ti ρ fun ds => compW g tf te (benv nl fr ρ) ds [] Q
theorem sl_benv {K : PySem.W.Frag} {S : Addr -> Prop} {H : Hp} {ρ : DEnv} {σ : L2.St} {nl : Nat} {fr : List Nat} (h : Sl K S H ρ σ) : Sl K S H (benv nl fr ρ) (bst nl fr σ) := fun i d e => by
 unfold benv at e
 unfold bst
 by_cases hi : i < nl
 ·rw [List.getElem?_append_left (by simpa using hi), List.getElem?_replicate, if_pos hi] at e
  cases e
 ·rw [List.getElem?_append_right (by simpa using hi), List.getElem?_map, List.length_replicate] at e ⊢
  cases q : fr[i - nl]? with
  | none => rw [q] at e; cases e
  | some j =>
   rw [q] at e
   have e1 : (ρ[j]?).join = some d := Option.some.inj e
   have e2 : ρ[j]? = some (some d) := by
    cases z : ρ[j]? with
    | none => rw [z] at e1; cases e1
    | some o => rw [z] at e1; rw [show o = some d from e1]
   obtain ⟨v, ev, dv⟩ := h j d e2
   exact ⟨v, by show some ((σ[j]?).join) = _; rw [ev]; rfl, dv⟩
theorem lift_comp {K : PySem.W.Frag} {nl n : Nat} {fr : List Nat} {ti : WI} {g : GE} {tf : WT} {te : WE} {σ : L2.St} {H : Hp} {Q : VK} (hn : nl + fr.length = n) (h : liftF K (wComp nl fr ti g tf te) σ H Q) : tComp nl fr (liftI K ti) (liftGE K nl n g) (liftT K tf) (lift K te) σ H Q := by
 obtain ⟨S, ρ, Q3, fc, sl, ht, k⟩ := h
 refine ⟨S, ρ, _, fc, sl, ht, fun J H1 ds G s1 hG wk q1 => ?_⟩
 intro acc hacc
 have h0 : H acc = none := s1.free hacc
 have fc1 := fc_same fc s1
 have ok : ∀ {H2 : Hp}, Same H1 H2 -> (∃ ys, H2 acc = some (.lst ys)) -> (∀ a, H2 a = none -> S a /\ a ≠ acc) /\ Sl K (fun a => S a /\ a ≠ acc) H2 (benv nl fr ρ) (bst nl fr σ) /\ ∀ g ∈ G, Dn K (fun a => S a /\ a ≠ acc) H2 g.1 g.2 := fun {H2} s2 hy => by
  refine ⟨fun a e => ⟨fc_same fc1 s2 a e, fun z => ?_⟩, ?_, fun g hg => Dn.fits ((Fits.fresh hacc).trans (.same s2)) _ _ (hG g hg)⟩
  ·subst z
   obtain ⟨ys, hy⟩ := hy
   rw [e] at hy; cases hy
  ·exact sl_benv (Sl.fits ((Fits.fresh h0).trans (.same (s1.trans s2))) sl)
 refine ⟨fun i m H2 ys => m = ds.length - i /\ i <= ds.length /\ Same H1 H2 /\ H2 acc = some (.lst ys) /\ ∃ aD, Dns K (fun a => S a /\ a ≠ acc) H2 aD ys /\ compW g tf te (benv nl fr ρ) (ds.drop i) aD Q3,
  ⟨_, rfl, Nat.zero_le _, same_upd hacc, upd_same, [], Dns.nil, q1⟩, ?_⟩
 rintro i m H2 ys ⟨rfl, hi, s2, hy, aD, dn, cw⟩
 obtain ⟨fc2, sl2, gh2⟩ := ok s2 ⟨ys, hy⟩
 refine ⟨hy, ?_⟩
 by_cases hlt : i < ds.length
 ·refine .inr ?_
  obtain ⟨g1, g2⟩ := wk.go _ H2 fc2 gh2 i ds[i] (by simp [hlt])
  refine ⟨g1, fun x H' y => ?_⟩
  obtain ⟨s3, dx⟩ := g2 x H' y
  rw [List.drop_eq_getElem_cons hlt, compW] at cw
  refine ⟨fun a => S a /\ a ≠ acc, benv nl fr ρ, ds[i], _, ?_, fc_same fc2 s3, Sl.fits (.same s3) sl2, dx, cw, fun σ' ρ' sl' hd q' => ?_⟩
  ·unfold bst; rw [List.length_append, List.length_replicate, List.length_map]; exact hn
  ·refine ⟨by rw [hd]; unfold bst; rw [List.drop_append_of_le_length (by simp), List.drop_replicate]; simp, fun a => S a /\ a ≠ acc, ρ', _, fc_same fc2 s3, sl', q', fun b H3 s4 q4 => ?_⟩
   cases b with
   | false =>
    rw [if_neg Bool.false_ne_true] at q4 ⊢
    exact ⟨_, by omega, rfl, hlt, (s2.trans s3).trans s4, (s3.trans s4) _ _ hy, aD, Dns.fits (.same (s3.trans s4)) _ _ dn, q4⟩
   | true =>
    rw [if_pos rfl] at q4 ⊢
    refine ⟨fun a => S a /\ a ≠ acc, ρ', _, fc_same fc2 (s3.trans s4), Sl.fits (.same s4) sl', q4, fun v H4 d s5 d5 q5 => ?_⟩
    have hy4 : H4 acc = some (.lst ys) := ((s3.trans s4).trans s5) _ _ hy
    have F : Fits K (fun a => S a /\ a ≠ acc) (fun a => S a /\ a ≠ acc) H4 (upd H4 acc (.lst (ys ++ [v]))) := .upd (.inl ⟨_, hy4⟩) fun z => z.2 rfl
    refine ⟨hy4, by rw [<- dn.len]; exact q5.1, _, by omega, rfl, hlt, fun b u hb => ?_, upd_same, aD ++ [d], Dns.fits F _ _ ((Dns.fits (.same ((s3.trans s4).trans s5)) _ _ dn).append (Dns.one d5)), q5.2⟩
    rw [upd_ne (ne_of_none hb hacc)]
    exact (((s2.trans s3).trans s4).trans s5) _ _ hb
 ·have e : i = ds.length := by omega
  subst e
  rw [List.drop_length, compW] at cw
  exact .inl ⟨wk.stop _ H2 gh2 _ rfl, k acc ys H2 aD h0 hy (s1.trans s2) dn cw⟩
theorem comp3 {ls fs : List Str} {fr : List Nat} {sc : Scope} {tg iter elt : Expr} {ifs : List Expr} {pos : Pos} {ti : WI} {g : GE} {tf : WT} {te : WE} (hc : X.calm = true) (hi : PI3 X tg iter ti)
  (hg : ∀ cl C pn ex s H, (blk X (ls ++ fs) sc cl C pn ex s H).N.Nodup -> PG4 (blk X (ls ++ fs) sc cl C pn ex s H) ls.length tg g) (hf : ∀ cl C pn ex s H, PIf3 (blk X (ls ++ fs) sc cl C pn ex s H) ifs tf) (he : ∀ cl C pn ex s H, PE3 (blk X (ls ++ fs) sc cl C pn ex s H) elt te)
  (B : chk X.env.scope.names sc X.N ls fs fr = true := by rfl) (hs : ∀ x, foldedSetIterable iter X.env x = pure x := by intro _; rfl) : PF3 X (.ListComp elt [⟨tg, iter, ifs, 0⟩] sc pos) (wComp ls.length fr ti g tf te) :=
 imp (pe_comp (g := liftGE X.K ls.length (ls ++ fs).length g) (tf := liftT X.K tf) (te := lift X.K te) hc (chk_ok B) hi (fun cl C pn ex s H => hg cl C pn ex s H (chk_ok B).nd) hf he hs) fun σ H Q h => lift_comp (n := (ls ++ fs).length) (by rw [List.length_append, (chk_ok B).lenF]) h
theorem setComp3 {i : Nat} {x : Str} {ls fs : List Str} {fr : List Nat} {sc : Scope} {tg iter elt : Expr} {ifs : List Expr} {pos spos pos' : Pos} {ti : WI} {g : GE} {tf : WT} {te : WE} (nd : X.N.Nodup) (hc : X.calm = true) (hi : PI3 X tg iter ti)
  (hg : ∀ cl C pn ex s H, (blk X (ls ++ fs) sc cl C pn ex s H).N.Nodup -> PG4 (blk X (ls ++ fs) sc cl C pn ex s H) ls.length tg g) (hf : ∀ cl C pn ex s H, PIf3 (blk X (ls ++ fs) sc cl C pn ex s H) ifs tf) (he : ∀ cl C pn ex s H, PE3 (blk X (ls ++ fs) sc cl C pn ex s H) elt te)
  (hx0 : X.N[i]? = some x := by rfl) (hx : X.env.scope.names.lookup x = some .local := by rfl) (hsw : swapsWith (.ListComp elt [⟨tg, iter, ifs, 0⟩] sc pos) (some (.Name x pos')) spos.line X.env = pure true := by rfl)
  (B : chk X.env.scope.names sc X.N ls fs fr = true := by rfl) (hs : ∀ x, foldedSetIterable iter X.env x = pure x := by intro _; rfl) : PS3 X (.Assign [.Name x pos'] (.ListComp elt [⟨tg, iter, ifs, 0⟩] sc pos) spos) (wOwn i (wComp ls.length fr ti g tf te)) :=
 impS (ps_setComp (g := liftGE X.K ls.length (ls ++ fs).length g) (tf := liftT X.K tf) (te := lift X.K te) nd hx0 hx hc (chk_ok B) hi (fun cl C pn ex s H => hg cl C pn ex s H (chk_ok B).nd) hf he hsw hs) fun Bd σ H hq47 => by
 obtain ⟨H₀, S, w, ρ, G, E, hl, st, ht, ok⟩ := hq47
 exact lift_comp (n := (ls ++ fs).length) (by rw [List.length_append, (chk_ok B).lenF]) ⟨_, vRd ρ, _, st.fcO, st.rd, ht, fun p xs H' ds hp hp' s' d' q' => ok.nx _ _ H' _ (by rw [List.length_set]; exact hl) (st.set_ow (d := .lst ds) (by rw [hl]; exact ix_lt hx0) s' hp ⟨xs, hp', d'⟩) q'⟩
end
section
variable {X : Cx}
def tyD : D -> String
 | .non => "NoneType"
 | .bl _ => "bool"
 | .int _ => "int"
 | .str _ => "str"
 | .tup _ => "tuple"
 | .lst _ => "list"
 | .scr _ => "list"
 | .dic _ _ => "dict"
 | .dicT _ _ => "dict"
 | .exc _ _ => "NoneType"
inductive Ty4 : String -> Prop
 | t : Ty4 "tuple"
 | b : Ty4 "bool"
 | i : Ty4 "int"
 | s : Ty4 "str"
def isT (T : String) (d : D) : Bool := tyD d == T || (T == "int" && tyD d == "bool")
def rIsi (K : PySem.W.Frag) (T : String) : List V -> Hp -> VK -> Prop := fun xs H Q => ∃ x t b, xs = [x, .ty T] /\ (TyOf K H x t \/ (t = .type "tuple" /\ ∃ a ys, x = .ref a /\ SqT K H a ys) \/ (t = .type "list" /\ ∃ a ys, x = .ref a /\ SqL K H a ys)) /\ PySem.W.kitOne K t (.type T) = some b /\ Q (.bl b) H
theorem call_isi {T : String} : CallR X (.builtin "isinstance") (rIsi X.K T) := by
 intro pins s σ H xs us Q I r h
 obtain ⟨x, t, b, rfl, ty, e, q⟩ := h
 obtain ⟨u, w', rfl, r1, r2⟩ := vals2 r
 obtain rfl : w' = Value.type T := r2
 rcases ty with ty | ⟨rfl, a, ys, rfl, hq⟩ | ⟨rfl, a, ys, rfl, hq⟩
 ·exact isinst_ok I r1 ty e fun tk => ⟨.bl b, H, I.tok tk, rfl, q⟩
 ·cases r1
  obtain ⟨its, _, p, _⟩ := I.tuple hq
  obtain ⟨o, h1, h2, _⟩ := p
  exact PySem.W.kia_one PySem.W.kitx_tuple I.kIn ⟨o, h1, h2⟩ e (fun z => nomatch z) fun tk => ⟨.bl b, H, I.tok tk, rfl, q⟩
 ·cases r1
  obtain ⟨its, _, p, _⟩ := I.list hq
  obtain ⟨o, n, h1, h2, _⟩ := p
  exact PySem.W.kia_one PySem.W.kitx_list I.kIn ⟨o, h1, h2⟩ e (fun z => nomatch z) fun tk => ⟨.bl b, H, I.tok tk, rfl, q⟩
def notEx : D -> Prop
 | .exc _ _ => False
 | _ => True
def wIsi (T : String) (t : WE) : WE := fun ρ Q => t ρ fun d => notEx d /\ Q (.bl (isT T d))
theorem kit4 {K : PySem.W.Frag} {T : String} (h : Ty4 T) (d : D) : PySem.W.kitOne K (.type (tyD d)) (.type T) = some (isT T d) := by
 cases h <;> cases d <;> with_unfolding_all rfl
theorem ty_of {K : PySem.W.Frag} {S : Addr -> Prop} {H : Hp} {d : D} {v : V} (hne : notEx d) (h : Dn K S H d v) : ∃ t, t = Value.type (tyD d) /\ (TyOf K H v t \/ (t = .type "tuple" /\ ∃ a ys, v = .ref a /\ SqT K H a ys) \/ (t = .type "list" /\ ∃ a ys, v = .ref a /\ SqL K H a ys)) := by
 refine ⟨_, rfl, ?_⟩
 cases d <;> simp only [Dn] at h
 ·subst h; exact .inl .non
 ·subst h; exact .inl (.bl _)
 ·subst h; exact .inl (.int _)
 ·subst h; exact .inl (.str _)
 ·obtain ⟨a, xs, rfl, hq, _⟩ := h; exact .inr (.inl ⟨rfl, a, xs, rfl, hq⟩)
 ·obtain ⟨a, xs, rfl, hq, _⟩ := h; exact .inl (.lst hq)
 ·obtain ⟨a, rfl, hq⟩ := h; exact .inr (.inr ⟨rfl, a, _, rfl, hq.sq⟩)
 ·obtain ⟨a, xs, rfl, hq, _⟩ := h; exact .inl (.dK hq)
 ·obtain ⟨a, xs, rfl, hq, _⟩ := h; exact .inl (.dT hq)
 ·exact hne.elim
theorem isi3 {T : String} {x : Str} {e : Expr} {t : WE} {p p2 pos : Pos} (hT : Ty4 T) (hm : X.mg "isinstance" = none) (hmT : X.mg x = none) (hv : bootBuiltins x = some (.type T)) (he : PE3 X e t) (hg : Gl X "isinstance" := by rfl) (hgT : Gl X x := by rfl) (hn : x ≠ "__name__" := by decide) (hdb : (x == ("__debug__" : Str)) = false := by decide)
  (hs : starEach [e, .Name x p2] X.env = (false, eval e X.env) :: starEach [.Name x p2] X.env := by rfl) (hs2 : starEach [.Name x p2] X.env = (false, eval (.Name x p2) X.env) :: starEach [] X.env := by rfl) (hpl : (backTo pos (starEach [.Name x p2] X.env)).any (·.1) = false := by rfl) :
  PE3 X (.Call (.Name "isinstance" p) [e, .Name x p2] [] pos) (wIsi T t) :=
 imp (pe_callB (call_isi (T := T)) hg hm PyProof.Rows.boot_isinstance (pa_cons he (pa_cons (pe_bltn (v := .ty T) hgT hmT hv rfl hn hdb) pa_nil hs2) hs) (by decide) (by decide) hs hpl) fun σ H Q hq48 => by
  obtain ⟨S, ρ, Q3, fc, sl, ht, k⟩ := hq48
  refine ⟨S, ρ, _, fc, sl, ht, fun v H1 d s1 d1 q1 => ?_⟩
  obtain ⟨tt, e1, e2⟩ := ty_of q1.1 d1
  refine ⟨v, tt, isT T d, rfl, e2, ?_, k _ H1 (.bl _) s1 (by simp only [Dn]) q1.2⟩
  rw [e1]; exact kit4 hT d
def blsOf : List D -> Option (List Bool)
 | [] => some []
 | .bl b :: r => (blsOf r).map (b :: ·)
 | _ :: _ => none
theorem range_all (bs : List Bool) : (List.range bs.length).all (fun i => bs.getD i true) = bs.all id := by
 induction bs with
 | nil => rfl
 | cons b bs ih => rw [List.length_cons, List.range_succ_eq_map, List.all_cons, List.all_map, List.all_cons, <- ih]; rfl
def blF (f : List Bool -> Bool) : F1
 | [.lst ds], Q => (match blsOf ds with | some bs => Q (.bl (f bs)) | none => False)
 | _, _ => False
def rSort : List V -> Hp -> VK -> Prop := fun xs H Q => ∃ a ns, xs = [.ref a] /\ H a = some (.lst (ns.map V.int)) /\ ns.length < 64 /\ ∀ ns' : List Int, ns'.Perm ns -> ns'.Pairwise (· <= ·) -> ∀ p, H p = none -> Q (.ref p) (upd H p (.lst (ns'.map V.int)))
theorem call_sorted3 : CallR X (.builtin "sorted") rSort := by
 intro pins s σ H xs us Q I r h
 obtain ⟨a, ns, rfl, ha, h64, q⟩ := h
 obtain ⟨u, rfl, ru⟩ := vals1 r
 cases ru
 obtain ⟨its, rv, p, hz⟩ := I.list (SqL.of ha)
 have hi := intsAre_of rv
 have hlen : its.length = ns.length := by have := rv.length; rw [List.length_map] at this; exact this.symm
 refine sorted_ints p.isList hi (by omega) fun out ns' a1 a2 a3 => ?_
 have hfr : H (s.heap.objs.size + 1) = none := I.hok.fresh (Nat.le_succ _)
 obtain ⟨e1, hat⟩ := sortedAll_at s.heap its out
 have hz2 : ns'.length <= sizeLine := by rw [a2.length_eq, sizeLine_eq]; omega
 have I1 : Inv X pins σ (upd H (s.heap.objs.size + 1) (.lst (ns'.map V.int))) { s with heap := sortedAll s.heap its out } :=
  I.laid (t' := s.toks) (fun b o e => sortedAll_old e) (Nat.le_succ _) ⟨by rw [List.length_map]; exact hz2, out.toList, e1, vals_ints a1, by simpa [seqObj] using hat⟩
 exact ⟨.ref _, _, I1, rfl, q ns' a2 a3 _ hfr⟩
def intsOf : List D -> Option (List Int)
 | [] => some []
 | .int b :: r => (intsOf r).map (b :: ·)
 | _ :: _ => none
theorem intsOf_map : ∀ bs : List Int, intsOf (bs.map D.int) = some bs
 | [] => rfl
 | b :: bs => by rw [List.map_cons, intsOf, intsOf_map bs]; rfl
theorem intsOf_of : ∀ {ds : List D} {bs : List Int}, intsOf ds = some bs -> ds = bs.map D.int
 | [], bs, h => by cases h; rfl
 | .int b :: r, bs, h => by
  rw [intsOf] at h
  cases q : intsOf r with
  | none => rw [q] at h; cases h
  | some cs => rw [q] at h; cases h; rw [List.map_cons, intsOf_of q]
 | .non :: r, bs, h => by cases h
 | .bl _ :: r, bs, h => by cases h
 | .str _ :: r, bs, h => by cases h
 | .tup _ :: r, bs, h => by cases h
 | .lst _ :: r, bs, h => by cases h
 | .scr _ :: r, bs, h => by cases h
 | .dic _ _ :: r, bs, h => by cases h
 | .dicT _ _ :: r, bs, h => by cases h
def sortF : F1
 | [.lst ds], Q => (match intsOf ds with | some ns => ns.length < 64 /\ ∀ ns' : List Int, ns'.Perm ns -> ns'.Pairwise (· <= ·) -> Q (.lst (ns'.map D.int)) | none => False)
 | _, _ => False
theorem c3_sort {K : PySem.W.Frag} : C3F K rSort sortF := by
 intro S H xs ds Q3 Q fc hd hf k
 match ds, hf with
 | [.lst es], hf =>
  obtain ⟨v, r, rfl, h1, h2⟩ := hd.uncons
  simp only [Dns] at h2
  subst h2
  simp only [Dn] at h1
  obtain ⟨a, ys, rfl, ha, sa, da⟩ := h1
  have hf2 : (match intsOf es with | some ns => ns.length < 64 /\ ∀ ns' : List Int, ns'.Perm ns -> ns'.Pairwise (· <= ·) -> Q3 (.lst (ns'.map D.int)) | none => False) := hf
  clear hf
  cases q : intsOf es with
  | none => rw [q] at hf2; exact hf2.elim
  | some ns =>
   rw [q] at hf2
   have e := intsOf_of q
   subst e
   have e2 := Dns.ints.mp da
   subst e2
   exact ⟨a, ns, rfl, ha, hf2.1, fun ns' h1 h2 p hp => k p _ _ _ hp upd_same (same_upd hp) (Dns.ints.mpr rfl) (hf2.2 ns' h1 h2)⟩
theorem sorted3 {p pos : Pos} {e : Expr} {t : WA} (hm : X.mg "sorted" = none) (ha : PA3 X [e] t) (hg : Gl X "sorted" := by rfl)
  (he : starEach [e] X.env = (false, eval e X.env) :: starEach [] X.env := by rfl) : PF3 X (.Call (.Name "sorted" p) [e] [] pos) (wCB sortF t) := callBF3 call_sorted3 c3_sort PyProof.Rows.boot_sorted hg hm ha (by decide) (by decide) he (by rfl)
end
section
variable {i j : Int} {a b : List D} {Q : D -> Prop}
end
section
variable {X : Cx}
theorem pe_range1 {a : Expr} {ta : TA} {p pos : Pos} (hg : Gl X "range") (hm : X.mg "range" = none) (ha : PA X [a] ta) (hs : starEach [a] X.env = [(false, eval a X.env)] := by rfl) :
  PE X (.Call (.Name "range" p) [a] [] pos) (fun σ H Q => ta σ H fun vs H1 => ∃ j : Int, vs = [.int j] /\ ∀ p, H1 p = none -> Q (.ref p) (upd H1 p (.rng 0 j))) := by
 intro pins s σ H Q I h
 refine Call_ (ld_blt I hg hm PyProof.Rows.boot_range (PyProof.Rows.callWith_type1 (thn (ha pos pins s σ H _ I h) fun us s1 ⟨vs, H1, I1, r1, q1⟩ => ?_) hs rfl))
 obtain ⟨j, e, q⟩ := q1
 subst e
 obtain ⟨u, rfl, ru⟩ := vals1 r1
 obtain ⟨t, rfl⟩ := ru
 refine call_range_1 ?_
 exact ⟨.ref s1.heap.objs.size, _, I1.laid (o := .rng 0 j) (fun b o e => Heap.get?_push_of_some _ e) (Nat.le_refl _) ⟨_, _, _, Heap.get?_push_size _ rfl⟩, rfl, q _ (I1.hok.fresh (Nat.le_refl _))⟩
theorem vals_rng {lo : Int} {n : Nat} {acc : Array Value} (h : ItemsOf (fun i v => ∃ t, v = .int (lo + (i : Nat) * 1) t) acc n) : Vals ((rngI lo n).map V.int) acc.toList := by
 obtain ⟨hz, hv⟩ := h
 have key : ∀ (l : List Value) (k : Nat) (m : Nat), l.length = m -> (∀ (j : Nat) (v : Value), l[j]? = some v -> ∃ t, v = Value.int (lo + ((k + j : Nat) : Int)) t) -> Vals (((List.range' k m).map fun i : Nat => lo + (i : Int)).map V.int) l := by
  intro l
  induction l with
  | nil => intro k m hm _; subst hm; exact .nil
  | cons v l ih =>
   intro k m hm hh
   subst hm
   rw [List.length_cons, List.range'_succ, List.map_cons, List.map_cons]
   refine .cons ?_ (ih (k + 1) l.length rfl fun j w e => ?_)
   ·obtain ⟨t, e⟩ := hh 0 v (by simp)
    exact ⟨t, by simpa using e⟩
   ·obtain ⟨t, e2⟩ := hh (j + 1) w (by simpa using e)
    exact ⟨t, by rw [e2]; congr 1; congr 1; congr 1; omega⟩
 have := key acc.toList 0 n (by simpa using hz) fun j v e => by
  obtain ⟨t, e2⟩ := hv j v (by simpa using e)
  exact ⟨t, by rw [e2]; simp⟩
 unfold rngI
 rw [List.range_eq_range']
 exact this
theorem call_list_rng (hc : X.calm = true) : CallR X (.type "list") (fun xs H Q => ∃ p j, xs = [.ref p] /\ H p = some (.rng 0 j) /\ -(2 ^ 62) <= j /\ j <= 16777216 /\ ∀ l, H l = none -> Q (.ref l) (upd H l (.lst ((rngI 0 j.toNat).map V.int)))) := by
 intro pins s σ H xs us Q I r h
 obtain ⟨p, j, rfl, hp, h0, h1, q⟩ := h
 obtain ⟨u, rfl, ru⟩ := vals1 r
 cases ru
 obtain ⟨t, u, v, e⟩ := I.hok p _ hp
 have hsz : Builtin.Range.rangeSize 0 j 1 = (j.toNat : Int) := by rw [rangeSize_one]; split <;> omega
 refine call_list_range (a := 0) (b := j) (c := 1) (n := j.toNat) (I.ok.hd hc) e (small_one (by omega) (by omega) (by omega) (by omega)) hsz (by omega) fun h' tk acc' c' kp hn hit => ?_
 have hfr : H s.heap.objs.size = none := I.hok.fresh (Nat.le_refl _)
 have hv : Vals ((rngI 0 j.toNat).map V.int) acc'.toList := vals_rng hit
 refine ⟨.ref s.heap.objs.size, _, I.laid (o := .lst ((rngI 0 j.toNat).map V.int)) kp (Nat.le_refl _) ⟨?_, acc'.toList, c', hv, by simpa using hn⟩, rfl, q _ hfr⟩
 rw [List.length_map, rngI_length, sizeLine_eq]
 omega
def wListR (t : WA) : WE := fun ρ Q => t ρ fun ds => match ds with
 | [.int j] => (-(2 ^ 62) <= j /\ j <= 16777216) /\ Q (.lst ((rngI 0 j.toNat).map D.int))
 | _ => False
theorem listRange3 {a : Expr} {t : WA} {p pos p2 pos2 : Pos} (hc : X.calm = true) (hm : X.mg "list" = none) (hmr : X.mg "range" = none) (ha : PA3 X [a] t) (hg : Gl X "list" := by rfl) (hgr : Gl X "range" := by rfl) (hs : starEach [a] X.env = [(false, eval a X.env)] := by rfl)
  (he : starEach [.Call (.Name "range" p2) [a] [] pos2] X.env = (false, eval (.Call (.Name "range" p2) [a] [] pos2) X.env) :: starEach [] X.env := by rfl) :
  PF3 X (.Call (.Name "list" p) [.Call (.Name "range" p2) [a] [] pos2] [] pos) (wListR t) :=
 imp (pe_callTy (call_list_rng hc) hg hm PyProof.Rows.boot_list (pa_cons (pe_range1 hgr hmr ha hs) pa_nil he) (by decide) (by decide) he (by rfl)) fun σ H Q hq49 => by
  obtain ⟨S, ρ, Q3, fc, sl, ht, k⟩ := hq49
  refine ⟨S, ρ, _, fc, sl, ht, fun vs H1 ds s1 d1 q1 => ?_⟩
  split at q1
  ·rename_i j
   obtain ⟨v, r, rfl, h1, h2⟩ := d1.uncons
   simp only [Dns] at h2
   subst h2
   simp only [Dn] at h1
   subst h1
   refine ⟨j, rfl, fun p hp => ⟨p, j, rfl, upd_same, q1.1.1, q1.1.2, fun l hl => ?_⟩⟩
   have hl1 : H1 l = none := (same_upd hp).free hl
   exact k l _ _ _ (s1.free hl1) upd_same ((s1.trans (same_upd hp)).trans (same_upd hl)) (Dns.ints.mpr rfl) q1.2
  ·exact q1.elim
def lookD (ks : List Key) (ds : List D) (k : Key) : Option D := ((ks.zip ds).find? fun kv => decide (kv.1 = k)).map (·.2)
theorem look_rel {K : PySem.W.Frag} {S : Addr -> Prop} {H : Hp} {k : Key} : ∀ {ks : List Key} {ds : List D} {xs : List V}, ks.length = xs.length -> Dns K S H ds xs ->
  (∀ d, lookD ks ds k = some d -> ∃ v, valV (ks.zip xs) k = some v /\ Dn K S H d v) /\ (lookD ks ds k = none -> valV (ks.zip xs) k = none)
 | [], ds, xs, _, _ => by
  refine ⟨fun d e => ?_, fun _ => ?_⟩
  ·simp [lookD] at e
  ·simp [valV]
 | q :: ks, ds, xs, hl, dn => by
  cases ds with
  | nil => simp only [Dns] at dn; subst dn; simp at hl
  | cons d0 ds =>
   obtain ⟨v, r, rfl, h1, h2⟩ := dn.uncons
   have ih := look_rel (k := k) (ks := ks) (ds := ds) (xs := r) (by simpa using hl) h2
   by_cases e : q = k
   ·refine ⟨fun d ed => ?_, fun ed => ?_⟩
    ·simp only [lookD, List.zip_cons_cons, List.find?_cons, e, decide_true, Option.map_some] at ed
     cases ed
     exact ⟨v, by simp [valV, e], h1⟩
    ·simp [lookD, e] at ed
   ·refine ⟨fun d ed => ?_, fun ed => ?_⟩
    ·have ed' : lookD ks ds k = some d := by simpa [lookD, e] using ed
     obtain ⟨u, eu, du⟩ := ih.1 d ed'
     exact ⟨u, by simpa [valV, e] using eu, du⟩
    ·have ed' : lookD ks ds k = none := by simpa [lookD, e] using ed
     simpa [valV, e] using ih.2 ed'
theorem ownDict3 {i : Nat} {x : Str} {pos pos' p : Pos} (hN : X.N.Nodup) (hi : X.N[i]? = some x := by rfl) (hx : Loc X.env.scope x := by first | exact .inl rfl | exact .inr rfl) (hs : swapsWith (.Dict [] [] p) (some (.Name x pos')) pos.line X.env = pure false := by rfl) (hf : X.fn x = true \/ X.env.scope.names.lookup x = some .local := by first | exact .inl rfl | exact .inr rfl) :
  PS3 X (.Assign [.Name x pos'] (.Dict [] [] p) pos) (fun E ρ => E.nx (ρ.set i (.ow (.dic [] [])))) := impS (ps_set hN hi hx pe_dnewK hs hf) fun B σ H ⟨H₀, S, w, ρ, G, E, hl, st, ht, ok⟩ => fun p hp =>
 ok.nx _ _ _ _ (by rw [List.length_set]; exact hl) (st.set_ow (d := .dic [] []) (by rw [hl]; exact ix_lt hi) (same_upd hp) hp ⟨[], upd_same, rfl, Dns.nil⟩) ht
def keyD : D -> Option Key
 | .int i => some (.inl i)
 | .str x => some (.inr x)
 | _ => none
theorem key_dn {K : PySem.W.Frag} {S : Addr -> Prop} {H : Hp} {d : D} {v : V} {k : Key} (h : Dn K S H d v) (e : keyD d = some k) : v = kV k := by
 cases d <;> simp only [keyD] at e <;> cases e <;> simp only [Dn] at h <;> exact h
def ixDF : F2 := fun x y Q => match x, keyD y with
 | .dic ks ds, some k => (match lookD ks ds k with | some d => Q d | none => False)
 | _, _ => False
theorem ixD3 {o i : Expr} {pos : Pos} {to ti : WE} (hu : X.A.units + 1 < cLine) (ho : PE3 X o to) (hi : PE3 X i ti) (hs : NoSl i := by intro _ _; rfl) : PE3 X (.Subscript o i pos) (wBin ixDF to ti) := imp (pe_dget hu ho hi hs) fun σ H Q hq50 => by
 obtain ⟨S, ρ, Q3, fc, sl, ht, k⟩ := hq50
 refine ⟨S, ρ, _, fc, sl, ht, fun v H1 d s1 d1 q1 => ?_⟩
 refine ⟨S, ρ, _, fc_same fc s1, Sl.fits (.same s1) sl, q1, fun u H2 d2 s2 dn2 q2 => ?_⟩
 unfold ixDF at q2
 split at q2
 ·rename_i ks ds kk ek
  have d1' := Dn.fits (.same s2) _ _ d1
  simp only [Dn] at d1'
  obtain ⟨a, xs, rfl, ha, sa, hl, da⟩ := d1'
  split at q2
  ·rename_i d3 e3
   obtain ⟨v3, ev, dv⟩ := (look_rel hl da).1 d3 e3
   have eu := key_dn dn2 ek
   subst eu
   refine ⟨a, v3, rfl, ?_, k v3 H2 d3 (s1.trans s2) dv q2⟩
   have g := DGet.k (k := kk) ha
   rw [ev] at g
   exact g
  ·exact q2.elim
 ·exact q2.elim
def wPutN (i : Nat) (t : WX) (tk : WE) : WS := fun E ρ => t ρ fun ρ' d => (match ρ'[i]? with | some (.ow (.dic _ _)) => True | _ => False) /\ tk (vAll ρ') fun kd => match ρ'[i]?, keyD kd with
 | some (.ow (.dic ks ds)), some k => (lookD ks ds k = none /\ ds.length < sizeLine) /\ E.nx (ρ'.set i (.ow (.dic (ks ++ [k]) (ds ++ [d]))))
 | _, _ => False
theorem putN3 {i : Nat} {x : Str} {e k : Expr} {t : WX} {tk : WE} {pos pos' p : Pos} (hu : X.A.units + 1 < cLine) (he : PX3 X e t) (hk : PE3 X k tk)
  (hN : X.N[i]? = some x := by rfl) (hv : Vis X.env.scope x := by first | exact Or.inl rfl | exact Or.inr (Or.inl rfl) | exact Or.inr (Or.inr rfl)) (hd : (x == ("__debug__" : Str)) = false := by decide) (hcd : (x == ("__classdict__" : Str)) = false := by decide)
  (hs : swapsWith e (some (.Subscript (.Name x p) k pos')) pos.line X.env = pure false := by rfl) :
  PS3 X (.Assign [.Subscript (.Name x p) k pos'] e pos) (wPutN i t tk) := impS (ps_dput hu (pe_var hN hv hd hcd) hk he hs) fun B σ H hq51 => by
 obtain ⟨H₀, S, w, ρ, G, E, hl, st, ht, ok⟩ := hq51
 refine ⟨H₀, S, w, ρ, G, _, hl, st, ht, fun w' v H' ρ' d st' d' q' => ?_⟩
 obtain ⟨q0, q'⟩ := q'
 split at q0
 ·rename_i ks0 ds0 e0
  obtain ⟨a0, _, _⟩ := st'.own i _ e0
  refine ⟨_, a0, S, vAll ρ', _, st'.fcH, st'.all, q', fun kv H2 dk s2 dk2 q2 => ?_⟩
  split at q2
  ·rename_i ks ds kk e1 ek
   have st2 := st'.same s2
   obtain ⟨a, b, c⟩ := st2.own i _ e1
   obtain ⟨xs, hp, hlen, dn⟩ := c
   have eu := key_dn dk2 ek
   subst eu
   have hno := (look_rel (k := kk) hlen dn).2 q2.1.1
   have nS : ¬ SO S w' ρ' (w' i) := fun ⟨_, z⟩ => z i _ e1 rfl
   have hz : (ks.zip xs).length < sizeLine := by
    rw [List.length_zip, hlen, Nat.min_self, <- dn.len]; exact q2.1.2
   have eput : putK (ks.zip xs) kk v = (ks ++ [kk]).zip (xs ++ [v]) := by
    rw [putK_new v hno, List.zip_append hlen]; rfl
   have F : Fits X.K (SO S w' ρ') (SO S w' ρ') H2 (upd H2 (w' i) (.dK (putK (ks.zip xs) kk v))) := .upd (.inr (.inl ⟨_, hp⟩)) nS
   refine ⟨w' i, _, rfl, DPut.k hp hz, ok.nx w' σ _ _ hl (st2.write (d' := .dic (ks ++ [kk]) (ds ++ [d])) e1 ⟨xs ++ [v], ?_, by simp [hlen], Dns.fits F _ _ (dn.append (Dns.one (Dn.fits (.same s2) _ _ d')))⟩) q2.2⟩
   rw [upd_same, eput]
  ·exact q2.elim
 ·exact q0.elim
def wSetF (i : Nat) (t : WE) : WS := fun E ρ => t (vAll ρ) fun d => (match d with | .lst ds => imms ds = true | _ => False) /\ E.nx (ρ.set i (.ro d))
theorem setF3 {i : Nat} {x : Str} {e : Expr} {t : WE} {pos pos' : Pos} (hN : X.N.Nodup) (he : PF3 X e t) (hi : X.N[i]? = some x := by rfl) (hx : Loc X.env.scope x := by first | exact .inl rfl | exact .inr rfl) (hs : swapsWith e (some (.Name x pos')) pos.line X.env = pure false := by rfl) (hf : X.fn x = true \/ X.env.scope.names.lookup x = some .local := by first | exact .inl rfl | exact .inr rfl) :
  PS3 X (.Assign [.Name x pos'] e pos) (wSetF i t) := impS (ps_set hN hi hx he hs hf) fun B σ H hq52 => by
 obtain ⟨H₀, S, w, ρ, G, E, hl, st, ht, ok⟩ := hq52
 exact ⟨_, vAll ρ, _, st.fcH, st.all, ht, fun p xs H' ds hp hp' s' d' q' => ok.nx w _ H' _ (by rw [List.length_set]; exact hl) ((st.same s').set_ro (d := .lst ds) (by rw [hl]; exact ix_lt hi) (by simp only [Dn]; exact ⟨p, xs, rfl, hp', st.fcO p hp, Dns.imm q'.1 d'⟩)) q'.2⟩
def wWhile (c : WT) (tb : WS) : WS := fun E ρ => ∃ (Inv : SEnv -> Prop) (μ : SEnv -> Nat), Inv ρ /\ ∀ ρ', Inv ρ' -> c (vAll ρ') fun b => if b = true then tb { E with nx := fun ρ2 => Inv ρ2 /\ μ ρ2 < μ ρ', ct := fun ρ2 => Inv ρ2 /\ μ ρ2 < μ ρ', bk := E.nx } ρ' else E.nx ρ'
theorem while3 {c : Expr} {body : List Stmt} {tc : WT} {tb : WS} {pos : Pos} (hp : PassesOwn (model X.prog X.w) X.A X.env X.xe) (hc : PT3 X c tc) (hb : PSs3 X body tb) : PS3 X (.While c body [] pos) (wWhile tc tb) := impS (ps_while hp hc hb) fun B σ H hq53 => by
 obtain ⟨H₀, S, w, ρ, G, E, hl, st, ⟨Iv, μ, h0, turn⟩, ok⟩ := hq53
 refine ⟨fun m σ H => ∃ w ρ, σ.length = X.N.length /\ ST X.K H₀ S w σ H ρ G /\ Iv ρ /\ m = μ ρ, ⟨_, w, ρ, hl, st, h0, rfl⟩, ?_⟩
 rintro m σ2 H2 ⟨w2, ρ2, hl2, st2, iv, rfl⟩
 refine ⟨S, vAll ρ2, _, st2.fcH, st2.all, turn ρ2 iv, fun b H3 s3 q3 => ?_⟩
 cases b with
 | false => rw [if_neg Bool.false_ne_true] at q3 ⊢; exact ok.nx w2 σ2 H3 ρ2 hl2 (st2.same s3) q3
 | true =>
  rw [if_pos rfl] at q3 ⊢
  refine ⟨fun σ' H' => ∃ w ρ, σ'.length = X.N.length /\ ST X.K H₀ S w σ' H' ρ G /\ Iv ρ /\ μ ρ < μ ρ2, fun σ' H' ⟨w', ρ', hl', st', iv', hm⟩ => ⟨_, hm, w', ρ', hl', st', iv', rfl⟩, ?_⟩
  exact ⟨H₀, S, w2, ρ2, G, _, hl2, st2.same s3, q3, ⟨fun w' σ' H' ρ' hl' st' q => ⟨w', ρ', hl', st', q.1, q.2⟩, fun v H' d s' d' q => ok.rt v H' d s' d' q, fun w' σ' H' ρ' hl' st' q => ok.nx w' σ' H' ρ' hl' st' q, fun w' σ' H' ρ' hl' st' q => ⟨w', ρ', hl', st', q.1, q.2⟩, ok.ex⟩⟩
section
variable {i : Nat} {x : Str} {e : Expr} {p apos cpos : Pos} {t : WX}
def wPop0 (i : Nat) : WX := fun ρ Q => match ρ[i]? with
 | some (.ow (.lst ds)) => (match ds[ds.length - 1]? with | some d => Q (ρ.set i (.ow (.lst ds.dropLast))) d | none => False)
 | _ => False
theorem Dns.dropLast {K : PySem.W.Frag} {S : Addr -> Prop} {H : Hp} {ds : List D} {xs : List V} (h : Dns K S H ds xs) : Dns K S H ds.dropLast xs.dropLast := by
 rw [<- erase_last, <- erase_last, <- h.len]
 exact h.erase _
theorem pop03 (hN : X.N[i]? = some x := by rfl) (hv : Vis X.env.scope x := by first | exact Or.inl rfl | exact Or.inr (Or.inl rfl) | exact Or.inr (Or.inr rfl)) (hd : (x == ("__debug__" : Str)) = false := by decide) (hcd : (x == ("__classdict__" : Str)) = false := by decide)
  (hbase : attributeBase (.Name x p) "pop" X.env (eval (.Name x p) X.env) = eval (.Name x p) X.env := by rfl) (hline : (apos.endLine == cpos.line) = true := by rfl) :
  PX3 X (.Call (.Attribute (.Name x p) "pop" apos) [] [] cpos) (wPop0 i) :=
 imp (pe_bm0 PySem.F.plainAttrs_list PySem.F.slot_list_pop PySem.F.type_list_pop mt_pop (pe_var hN hv hd hcd) hbase hline) fun σ H Q hq54 => by
  obtain ⟨H₀, S, w, ρ, G, Q3, hl, st, ht, k⟩ := hq54
  unfold wPop0 at ht
  split at ht
  ·rename_i ds e
   split at ht
   ·rename_i d ed
    obtain ⟨a, b, c⟩ := st.own i _ e
    obtain ⟨xs, hp, dn⟩ := c
    obtain ⟨v, ev, dv⟩ := dn.get ed
    have nS : ¬ SO S w ρ (w i) := fun ⟨_, z⟩ => z i _ e rfl
    have F : Fits X.K (SO S w ρ) (SO S w ρ) H (upd H (w i) (.lst xs.dropLast)) := .upd (.inl ⟨_, hp⟩) nS
    have so : ∀ a, SO S w ρ a -> SO S w (ρ.set i (.ow (.lst ds.dropLast))) a := SO.mono fun j f hf => by
     rcases get_set hf with ⟨hj, _, _⟩ | ⟨_, z⟩
     ·subst hj; exact ⟨_, e⟩
     ·exact ⟨_, z⟩
    refine ⟨_, a, .inl ⟨rfl, xs, SqL.of hp⟩, w i, xs, v, rfl, rfl, hp, by rw [<- dn.len]; exact ev, ?_⟩
    exact k w v _ _ d (st.write (d' := .lst ds.dropLast) e ⟨_, upd_same, Dns.fits F _ _ dn.dropLast⟩) (Dn.fits (F.trans (.mono so)) _ _ dv) ht
   ·exact ht.elim
  ·exact ht.elim
end
end
section
variable {X : Cx} {pins : List (Addr × Obj)} {σ : L2.St} {H : Hp} {s : Shared} {h' : Heap}
theorem turnT {t' : Nat} {ch : List Addr} {T : Addr} {xs : List V} {its : List Value} (I : Inv X pins σ H s) (k : ∀ b o, b ∉ ch -> s.heap.get? b = some o -> h'.get? b = some o) (hf : ∀ b ∈ ch, FpOk X pins H b)
  (hT : s.heap.objs.size <= T) (hv : Vals xs its) (hz : xs.length <= sizeLine) (ht : IsTup h' T its.toArray) : Inv X pins σ (upd H T (.tup xs)) { s with heap := h', toks := t' } := by
 have fr : H T = none := I.hok.fresh hT
 have nT : ∀ {b : Addr} {o : Obj}, s.heap.get? b = some o -> b ≠ T := fun {b} {o} e z => Nat.lt_irrefl _ (Nat.lt_of_lt_of_le (Heap.lt_size e) (z ▸ hT))
 have live : ∀ {b : Addr} {u : HO}, H b = some u -> b ∉ ch := fun {b} {u} e z => by rw [(hf _ z).1] at e; cases e
 refine I.call' (s' := { s with heap := h', toks := t' }) (ch := ch) rfl ⟨fun b o e _ _ hx => k b o hx e, fun b o e _ _ hx => ⟨o.slots, k b o hx e⟩, fun b o e n _ => by rw [upd_ne (nT e)]; exact n, fun b o e hx => ⟨o, k b o hx e⟩,
  fun b ys e => by rw [upd_ne (ne_of_none e fr)]; exact e, fun b o u e => by rw [upd_ne (ne_of_none e fr)]; exact e, fun b ps e => ⟨#[], by rw [upd_ne (ne_of_none e fr), e]; simp⟩⟩ ?_ I.bare fun b hb => ?_
 ·intro b u e
  by_cases hb : b = T
  ·subst hb; rw [upd_same] at e; cases e; exact ⟨hz, its, hv, ht⟩
  ·rw [upd_ne hb] at e
   refine (I.hok b u e).stay (fun c v hc q => k c v ?_ q) (fun c q => by rw [upd_ne (ne_of_none q fr)]; exact q) fun c ys q => by rw [upd_ne (ne_of_none q fr)]; exact q
   rcases hc with rfl | hc
   ·exact live e
   ·exact live hc
 ·obtain ⟨_, f1, _, f3, f4, f5⟩ := hf b hb
  exact ⟨f3, f1, f4, f5⟩
theorem turnM {t' : Nat} {ch : List Addr} (I : Inv X pins σ H s) (k : ∀ b o, b ∉ ch -> s.heap.get? b = some o -> h'.get? b = some o) (hf : ∀ b ∈ ch, FpOk X pins H b) : Inv X pins σ H { s with heap := h', toks := t' } := by
 have live : ∀ {b : Addr} {u : HO}, H b = some u -> b ∉ ch := fun {b} {u} e z => by rw [(hf _ z).1] at e; cases e
 refine I.call' (s' := { s with heap := h', toks := t' }) (ch := ch) rfl ⟨fun b o e _ _ hx => k b o hx e, fun b o e _ _ hx => ⟨o.slots, k b o hx e⟩, fun b o e n _ => n, fun b o e hx => ⟨o, k b o hx e⟩,
  fun b ys e => e, fun b o u e => e, fun b ps e => ⟨#[], by rw [e]; simp⟩⟩ ?_ I.bare fun b hb => ?_
 ·intro b u e
  refine (I.hok b u e).stay (fun c v hc q => k c v ?_ q) (fun c q => q) fun c ys q => q
  rcases hc with rfl | hc
  ·exact live e
  ·exact live hc
 ·obtain ⟨_, f1, _, f3, f4, f5⟩ := hf b hb
  exact ⟨f3, f1, f4, f5⟩
end
def Itp (go : Nat -> Hp -> Prop) (Y : Nat -> Hp -> List V -> Prop) (stop : Nat -> Hp -> Prop) : It := ⟨go, fun i H x H' => ∃ T vs, x = .ref T /\ H T = none /\ H' = upd H T (.tup vs) /\ Y i H vs, stop⟩
theorem turn_pairs {P : Program} {w : World} {K : PySem.W.Frag} {es : List Expr} {kk : Nat} {tp : Pos} {go : Nat -> Hp -> Prop} {Y : Nat -> Hp -> List V -> Prop} {stop : Nat -> Hp -> Prop} {fp : List Addr} {it : Addr} {tn : Nat -> Heap -> Prop} (mem : it ∈ fp)
  (obj : ∀ i h, tn i h -> ∀ b ∈ fp, ∃ o, h.get? b = some o /\ ∀ v, o.data ≠ .cell v) (keep : ∀ i h h', tn i h -> (∀ b ∈ fp, ∀ o, h.get? b = some o -> h'.get? b = some o) -> tn i h')
  (wk : ∀ (X : Cx), X.prog = P -> X.w = w -> X.K = K -> X.calm = true -> ∀ (i : Nat) (pins : List (Addr × Obj)) (s : Shared) (σ : L2.St) (H : Hp), Inv X pins σ H s -> tn i s.heap -> go i H \/ stop i H ->
   ∃ fp2 wr n Pt St Mid, WalksT P w X.A it fp2 wr n Pt St Mid /\ St i s.heap /\ (∀ b ∈ wr, b ∈ fp) /\ (∀ h, St (i + 1) h -> tn (i + 1) h) /\
    (go i H -> i < n /\ ∀ vals, Pt i vals -> ∃ vs, vs.length <= sizeLine /\ Vals vs vals.toList /\ Y i H vs) /\ (stop i H -> i = n))
  (self : ∀ (A : Around) (i : Nat) (s : Shared) (Q : Value -> Shared -> Prop) (E : Value -> Shared -> Prop), tn i s.heap -> Q (.ref it) s -> wpAny (model P w) A (pyIter (.ref it)) Q E s) :
  Turn P w K (.Tuple es kk tp) (Itp go Y stop) fp it tn where
 mem := mem
 obj := obj
 keep := keep
 self := self
 item := by
  intro X hP hw hK hc i pins s σ H E I hf st hg
  obtain ⟨fp2, wr, n, Pt, St, Mid, W, hs, sub, nx, ok, _⟩ := wk X hP hw hK hc i pins s σ H I st (.inl hg)
  obtain ⟨hi, ok⟩ := ok hg
  refine W.item i s _ _ hi hs fun T vals h1 tk hp hT ht hm k1 => ⟨.ref T, rfl, W.go es kk tp i T _ _ _ hm fun h2 s2 k2 => ?_⟩
  obtain ⟨vs, hz, hv, hy⟩ := ok vals hp
  obtain ⟨o, eo, c, d⟩ := ht
  have ht2 : IsTup h2 T vals.toList.toArray := ⟨o, k2 T o (W.apart i T _ hm) eo, c, by simpa using d⟩
  have I2 : Inv X pins σ (upd H T (.tup vs)) { s with heap := h2, toks := tk } := turnT (t' := tk) (ch := wr) I (fun b o hb e => k2 b o hb (k1 b o hb e)) (fun b hb => hf b (sub b hb)) hT hv hz ht2
  refine ⟨.ref T, upd H T (.tup vs), I2, rfl, ⟨T, vs, rfl, I.hok.fresh hT, rfl, hy⟩, nx h2 s2, fun b hb => ?_⟩
  obtain ⟨ob, eb, _⟩ := obj _ _ st b hb
  have nb : b ≠ T := fun z => Nat.lt_irrefl _ (Nat.lt_of_lt_of_le (Heap.lt_size eb) (z ▸ hT))
  rw [upd_ne nb]
  exact (hf b hb).1
 done := by
  intro X hP hw hK hc i pins s σ H E I hf st hg
  obtain ⟨fp2, wr, n, Pt, St, Mid, W, hs, sub, nx, _, ok⟩ := wk X hP hw hK hc i pins s σ H I st (.inr hg)
  obtain rfl := ok hg
  exact W.done s _ _ hs fun h2 tk k2 => ⟨rfl, turnM (t' := tk) (ch := wr) I k2 fun b hb => hf b (sub b hb)⟩
def Iel (K : PySem.W.Frag) (l : Addr) : It := Itp (fun i H => ∃ xs v, SqL K H l xs /\ xs[i]? = some v) (fun i H vs => ∃ v, vs = [.int i, v] /\ ∀ xs, SqL K H l xs -> xs[i]? = some v) (fun i H => ∃ xs, SqL K H l xs /\ xs.length = i)
def Iet (K : PySem.W.Frag) (l : Addr) : It := Itp (fun i H => ∃ xs v, SqT K H l xs /\ xs[i]? = some v) (fun i H vs => ∃ v, vs = [.int i, v] /\ ∀ xs, SqT K H l xs -> xs[i]? = some v) (fun i H => ∃ xs, SqT K H l xs /\ xs.length = i)
theorem two_line : [V.int 0, V.int 0].length <= sizeLine := by rw [sizeLine_eq]; decide
theorem turn_enumL {P : Program} {w : World} {K : PySem.W.Frag} {es : List Expr} {kk : Nat} {tp : Pos} {e it l : Addr} (hei : e ≠ it) (hle : l ≠ e) (hli : l ≠ it) :
  Turn P w K (.Tuple es kk tp) (Iel K l) [e, it] e (fun i h => (∃ old, IsEnum h e it i old) /\ h.IsListIter it l i) := by
 refine turn_pairs (by simp) (fun i h st b hb => ?_) (fun i h h2 st k => ?_) (fun X hP hw hK hc i pins s σ H I st hg => ?_) (fun A i s Q E st q => ?_)
 ·obtain ⟨⟨old, a⟩, o, c, d1, d2⟩ := st
  rcases List.mem_cons.mp hb with rfl | hq
  ·exact ⟨_, a, fun v z => by cases z⟩
  ·rw [List.mem_singleton.mp hq]; exact ⟨o, c, fun v z => by rw [d2] at z; cases z⟩
 ·obtain ⟨⟨old, a⟩, b⟩ := st
  exact ⟨⟨old, k e (by simp) _ a⟩, b.at fun o q => k it (by simp) o q⟩
 ·subst hP hw hK
  have hq : ∃ xs, SqL X.K H l xs := by rcases hg with ⟨xs, _, a, _⟩ | ⟨xs, a, _⟩ <;> exact ⟨xs, a⟩
  obtain ⟨xs, hq⟩ := hq
  obtain ⟨its, rv, p, hz⟩ := I.list hq
  have hl := rv.length
  refine ⟨_, _, _, _, _, _, WalksT.enumerate (I.ok.hd hc) e it l hei hle hli its.toArray, ⟨st.1, st.2, p.isList⟩, fun b hb => hb, fun h q => ⟨q.1, q.2.1⟩, fun g => ?_, fun g => ?_⟩
  ·obtain ⟨ys, v, hy, hv⟩ := g
   obtain rfl := I.list_inj hy hq
   obtain ⟨u, hu, ru⟩ := rv.get hv
   have hlt : i < ys.length := (List.getElem?_eq_some_iff.mp hv).1
   refine ⟨by rw [List.size_toArray, <- hl]; exact hlt, fun vals q => ?_⟩
   obtain ⟨t, x, hx, rfl⟩ := q
   have ex : x = u := by
    have : its[i]? = some x := by simpa using hx
    rw [hu] at this; exact (Option.some.inj this).symm
   subst ex
   exact ⟨[.int i, v], two_line, .cons ⟨t, rfl⟩ (.cons ru .nil), v, rfl, fun zs hzs => by rw [I.list_inj hzs hq]; exact hv⟩
  ·obtain ⟨ys, hy, e2⟩ := g
   obtain rfl := I.list_inj hy hq
   rw [List.size_toArray, <- hl, e2]
 ·obtain ⟨⟨old, a⟩, b⟩ := st
  exact wpAny_pyIter_enum a q
section
variable {prog : Program} {w : World} {A : Around} {E : Value -> Shared -> Prop} {s : Shared}
theorem draw_tup {it t : Addr} {i : Nat} {items : Array Value} {x : Value} {Q : Value -> Shared -> Prop} (hit : s.heap.IsTupleIter it t i) (ht : s.heap.IsTuple t items) (hx : items[i]? = some x)
  (hQ : ∀ h', h'.IsTupleIter it t (i + 1) -> Heap.SameBut it s.heap h' -> Q x { s with heap := h' }) : wpAny (model prog w) A (Builtin.SmallTypes.nextOf (.ref it)) Q E s := by
 obtain ⟨⟨ol, hol, _, nl, hdl⟩, o, ho, hc, hd⟩ := And.intro ht hit
 refine wpAny_bind (m := callSpecial? _ _) (wpAny_callSpecial?_slot hit.typeIs F.slot_tuple_iterator_next (wpAny_call_entry F.slot_tuple_iterator_next hit.typeIs F.entry_tuple_iterator_next ?_ (F.args_tuple_iterator_next_1 _)))
 refine wpAny_bind (m := field _ 0) (wpAny_field ho hd (x := .ref t) rfl ?_)
 show wpAny _ _ (if false = true then _ else _) _ _ s
 rw [if_neg Bool.false_ne_true]
 refine wpAny_bind (m := field _ 1) (wpAny_field ho hd (x := .int i 0) rfl (wpAny_bind (m := seqItems? _) (wpAny_seqItems hol hdl ?_)))
 simp only [hx, Int.toNat_natCast]
 refine wpAny_bind (wpAny_setField ho hd (by simp) (wpAny_pure ⟨x, rfl, wpAny_pure (hQ _ ⟨_, Heap.get?_update_self _ ho (Obj.isFreed_of_fields (Obj.data_mapFields hd _)), (Obj.cls_mapFields ..).trans hc, ?_⟩ (Heap.SameBut.update ..))⟩))
 rw [Obj.data_mapFields hd]
 simp [rawInt]
theorem draw_tupE {it t : Addr} {i : Nat} {items : Array Value} {Q : Value -> Shared -> Prop} (hh : A.handled = none) (hit : s.heap.IsTupleIter it t i) (ht : s.heap.IsTuple t items) (hx : items[i]? = none)
  (hE : ∀ h' e, Heap.ExtBut it s.heap h' -> (∃ o, h'.get? e = some o /\ o.cls = .type "StopIteration") -> E (.ref e) { s with heap := h' }) : wpAny (model prog w) A (Builtin.SmallTypes.nextOf (.ref it)) Q E s := by
 obtain ⟨⟨ol, hol, _, nl, hdl⟩, o, ho, hc, hd⟩ := And.intro ht hit
 refine wpAny_bind (m := callSpecial? _ _) (wpAny_callSpecial?_slot hit.typeIs F.slot_tuple_iterator_next (wpAny_call_entry F.slot_tuple_iterator_next hit.typeIs F.entry_tuple_iterator_next ?_ (F.args_tuple_iterator_next_1 _)))
 refine wpAny_bind (m := field _ 0) (wpAny_field ho hd (x := .ref t) rfl ?_)
 show wpAny _ _ (if false = true then _ else _) _ _ s
 rw [if_neg Bool.false_ne_true]
 refine wpAny_bind (m := field _ 1) (wpAny_field ho hd (x := .int i 0) rfl (wpAny_bind (m := seqItems? _) (wpAny_seqItems hol hdl ?_)))
 simp only [hx, Int.toNat_natCast]
 refine wpAny_bind (wpAny_rule (wpAny_bind (m := setField _ _ _) (wpAny_setField ho hd (by simp) ?_)))
 have hh2 : A.in1.handled = none := hh
 wp_walk
 unfold raiseNew
 apply wpAny_bind
 apply wpAny_handled
 rw [hh2]
 exact wpAny_bind (wpAny_pure (wpAny_throw (hE _ _ (((Heap.SameBut.update ..).extBut.push _).push _) ⟨_, Heap.get?_push_size _ rfl, rfl⟩)))
theorem drawsT (hh : A.handled = none) (it t : Addr) (hne : t ≠ it) (items : Array Value) : Draws prog w A it [it, t] items.size (fun i v => items[i]? = some v) (fun i h => h.IsTupleIter it t i /\ h.IsTuple t items) where
 live := fun i h st => by obtain ⟨⟨o, ho, _⟩, _⟩ := st; exact ⟨o, ho⟩
 frame := fun i h h' st k => by
  obtain ⟨⟨o, ho, r⟩, o2, ho2, r2⟩ := st
  exact ⟨⟨o, k it (by simp) o ho, r⟩, o2, k t (by simp) o2 ho2, r2⟩
 item := fun i s Q E hi st q => draw_tup st.1 st.2 (x := items[i]) (Array.getElem?_eq_getElem hi) fun h' a b => q _ h' s.toks (Array.getElem?_eq_getElem hi) ⟨a, st.2.extBut b.extBut hne⟩ b
 done := fun s Q E st q => draw_tupE hh st.1 st.2 (Array.getElem?_eq_none (Nat.le_refl _)) q
theorem made_enum (l : Addr) (items : Array Value) : Meets (Builtin.«enumerate.__new__» ⟨[.type "enumerate", .ref l], []⟩) (fun _ R s => s.heap.IsTuple l items /\
  R (.ok (.ret (.ref (s.heap.push { cls := .type "tuple_iterator", data := .fields #[.ref l, .int 0 0] }).objs.size))) { s with heap := (s.heap.push { cls := .type "tuple_iterator", data := .fields #[.ref l, .int 0 0] }).push { cls := .type "enumerate", data := .fields #[.none, .bool false, .ref s.heap.objs.size, rawInt 0, .none, .none] } }) := by
 refine .of_wp fun p0 w0 A0 R0 s h => ?_
 obtain ⟨hl, h⟩ := h
 obtain ⟨hp0, g0, d, tk, os⟩ := s
 have hsub := sub_enumerate
 wp_walk using wpAny_pyIter_tuple hl
 refine wpAny_stack_any fun _ => wpAny_pure ?_
 split <;> first
  | (rename_i c _ _ _ _ _; cases (c == Value.type "enumerate") <;> (wp_walk using wpAny_pyIter_tuple hl; exact ⟨_, rfl, h⟩))
  | (wp_walk using wpAny_pyIter_tuple hl; exact ⟨_, rfl, h⟩)
theorem call_enumT {l : Addr} {items : Array Value} {Q : Value -> Shared -> Prop} (hT : s.heap.IsTuple l items)
  (h : ∀ h', IsEnum h' (s.heap.objs.size + 1) s.heap.objs.size 0 .none -> h'.IsTupleIter s.heap.objs.size l 0 -> (∀ b o, s.heap.get? b = some o -> h'.get? b = some o) -> Q (.ref (s.heap.objs.size + 1)) { s with heap := h' }) : wpAny (model prog w) A (call (.type "enumerate") [.ref l]) Q E s := by
 refine callType_new F.called_enumerate (by decide) (F.typeCall_enumerate_1 _) (F.newCall_enumerate_1 _) (fun obj => F.args_object_init_2 obj _) F.entry_enumerate_new (made_enum l items) ⟨hT, ?_⟩
 generalize hh1 : s.heap.push { cls := .type "tuple_iterator", data := .fields #[.ref l, .int 0 0] } = h1
 have e1 : h1.objs.size = s.heap.objs.size + 1 := by rw [<- hh1, Heap.size_push]
 have g1 : h1.get? s.heap.objs.size = some { cls := .type "tuple_iterator", data := .fields #[.ref l, .int 0 0] } := by rw [<- hh1]; exact Heap.get?_push_size _ rfl
 have k1 : ∀ b o, s.heap.get? b = some o -> h1.get? b = some o := fun b o e => by rw [<- hh1]; exact Heap.get?_push_of_some _ e
 generalize hh2 : h1.push { cls := .type "enumerate", data := .fields #[.none, .bool false, .ref s.heap.objs.size, rawInt 0, .none, .none] } = h2
 have g2 : h2.get? h1.objs.size = some { cls := .type "enumerate", data := .fields #[.none, .bool false, .ref s.heap.objs.size, rawInt 0, .none, .none] } := by rw [<- hh2]; exact Heap.get?_push_size _ rfl
 have k2 : ∀ b o, h1.get? b = some o -> h2.get? b = some o := fun b o e => by rw [<- hh2]; exact Heap.get?_push_of_some _ e
 refine ⟨⟨_, g2, rfl⟩, ?_⟩
 rw [e1] at g2 ⊢
 exact h h2 g2 ⟨_, k2 _ _ g1, rfl, rfl⟩ fun b o e => k2 b o (k1 b o e)
end
theorem turn_enumT {P : Program} {w : World} {K : PySem.W.Frag} {es : List Expr} {kk : Nat} {tp : Pos} {e it l : Addr} (hei : e ≠ it) (hle : l ≠ e) (hli : l ≠ it) :
  Turn P w K (.Tuple es kk tp) (Iet K l) [e, it] e (fun i h => (∃ old, IsEnum h e it i old) /\ h.IsTupleIter it l i) := by
 refine turn_pairs (by simp) (fun i h st b hb => ?_) (fun i h h2 st k => ?_) (fun X hP hw hK hc i pins s σ H I st hg => ?_) (fun A i s Q E st q => ?_)
 ·obtain ⟨⟨old, a⟩, o, c, d1, d2⟩ := st
  rcases List.mem_cons.mp hb with rfl | hq
  ·exact ⟨_, a, fun v z => by cases z⟩
  ·rw [List.mem_singleton.mp hq]; exact ⟨o, c, fun v z => by rw [d2] at z; cases z⟩
 ·obtain ⟨⟨old, a⟩, o, b, r⟩ := st
  exact ⟨⟨old, k e (by simp) _ a⟩, o, k it (by simp) o b, r⟩
 ·subst hP hw hK
  have hq : ∃ xs, SqT X.K H l xs := by rcases hg with ⟨xs, _, a, _⟩ | ⟨xs, a, _⟩ <;> exact ⟨xs, a⟩
  obtain ⟨xs, hq⟩ := hq
  obtain ⟨its, rv, p, hz⟩ := I.tuple hq
  have hl := rv.length
  have D : Draws X.prog X.w X.A.in1 it [it, l] its.toArray.size (fun i v => its.toArray[i]? = some v) (fun i h => h.IsTupleIter it l i /\ h.IsTuple l its.toArray) := drawsT (show X.A.in1.handled = none from I.ok.hd hc) it l hli its.toArray
  have hef : e ∉ [it, l] := fun z => by
   rcases List.mem_cons.mp z with z1 | z1
   ·exact hei z1
   ·exact hle (List.mem_singleton.mp z1).symm
  refine ⟨_, _, _, _, _, _, WalksT.enumerateD D e hei hef (by simp), ⟨st.1, st.2, p⟩, fun b hb => hb, fun h q => ⟨q.1, q.2.1⟩, fun g => ?_, fun g => ?_⟩
  ·obtain ⟨ys, v, hy, hv⟩ := g
   obtain rfl := I.tuple_inj hy hq
   obtain ⟨u, hu, ru⟩ := rv.get hv
   have hlt : i < ys.length := (List.getElem?_eq_some_iff.mp hv).1
   refine ⟨by rw [List.size_toArray, <- hl]; exact hlt, fun vals q => ?_⟩
   obtain ⟨t, x, hx, rfl⟩ := q
   have ex : x = u := by
    have : its[i]? = some x := by simpa using hx
    rw [hu] at this; exact (Option.some.inj this).symm
   subst ex
   exact ⟨[.int i, v], two_line, .cons ⟨t, rfl⟩ (.cons ru .nil), v, rfl, fun zs hzs => by rw [I.tuple_inj hzs hq]; exact hv⟩
  ·obtain ⟨ys, hy, e2⟩ := g
   obtain rfl := I.tuple_inj hy hq
   rw [List.size_toArray, <- hl, e2]
 ·obtain ⟨⟨old, a⟩, b⟩ := st
  exact wpAny_pyIter_enum a q
section
variable {X : Cx} {es : List Expr} {kk : Nat} {tp : Pos}
theorem pi_enum {a : Expr} {ta : TA} {p pos : Pos} (hg : Gl X "enumerate") (hm : X.mg "enumerate" = none) (ha : PA X [a] ta) (hs : starEach [a] X.env = [(false, eval a X.env)] := by rfl) :
  PI X (.Tuple es kk tp) (.Call (.Name "enumerate" p) [a] [] pos) (fun σ H R => ta σ H fun vs H1 => ∃ l, vs = [.ref l] /\ (((∃ xs, SqL X.K H1 l xs) /\ R (Iel X.K l) H1) \/ ((∃ xs, SqT X.K H1 l xs) /\ R (Iet X.K l) H1))) := by
 intro pins s σ H R I h
 refine Call_ (ld_blt I hg hm boot_enumerate (PyProof.Rows.callWith_type1 (thn (ha pos pins s σ H _ I h) fun us s1 ⟨vs, H1, I1, r1, q1⟩ => ?_) hs rfl))
 obtain ⟨l, e, q⟩ := q1
 subst e
 obtain ⟨u, rfl, ru⟩ := vals1 r1
 cases ru
 have fo : ∀ b ∈ [s1.heap.objs.size + 1, s1.heap.objs.size], FpOk X pins H1 b := fun b hb => by
  have hle : s1.heap.objs.size <= b := by
   simp only [List.mem_cons, or_false, List.not_mem_nil] at hb
   rcases hb with rfl | rfl
   ·exact Nat.le_succ _
   ·exact Nat.le_refl _
  exact I1.fpOk hle (I1.hok.fresh hle)
 rcases q with ⟨⟨xs, hq⟩, q⟩ | ⟨⟨xs, hq⟩, q⟩
 ·obtain ⟨its, rv, pl, hz⟩ := I1.list hq
  have hlt : l < s1.heap.objs.size := by obtain ⟨o, n, e, _⟩ := pl; exact Heap.lt_size e
  refine call_enumerate_list pl.isList fun h' he hi hsz hk => wpAny_pyIter_enum he ?_
  exact ⟨s1.heap.objs.size + 1, _, _, _, H1, rfl, I1.kept (t' := s1.toks) hk, turn_enumL (Nat.succ_ne_self _) (Nat.ne_of_lt (Nat.lt_succ_of_lt hlt)) (Nat.ne_of_lt hlt), ⟨⟨_, he⟩, hi⟩, fo, q⟩
 ·obtain ⟨its, rv, pl, hz⟩ := I1.tuple hq
  have hlt : l < s1.heap.objs.size := pl.lt
  refine call_enumT (items := its.toArray) pl fun h' he hi hk => wpAny_pyIter_enum he ?_
  exact ⟨s1.heap.objs.size + 1, _, _, _, H1, rfl, I1.kept (t' := s1.toks) hk, turn_enumT (Nat.succ_ne_self _) (Nat.ne_of_lt (Nat.lt_succ_of_lt hlt)) (Nat.ne_of_lt hlt), ⟨⟨_, he⟩, hi⟩, fo, q⟩
def enumD (ds : List D) : List D := ds.zipIdx.map fun p => .tup [.int (p.2 : Int), p.1]
theorem enumD_get {ds : List D} {i : Nat} {d : D} (h : (enumD ds)[i]? = some d) : ∃ d0, ds[i]? = some d0 /\ d = .tup [.int (i : Int), d0] := by
 unfold enumD at h
 rw [List.getElem?_map, List.getElem?_zipIdx] at h
 cases q : ds[i]? with
 | none => rw [q] at h; cases h
 | some d0 =>
  rw [q] at h
  simp at h
  exact ⟨d0, rfl, h.symm⟩
theorem pair_dn {K : PySem.W.Frag} {S : Addr -> Prop} {H : Hp} {T : Addr} {x y : V} {dx dy : D} (fr : H T = none) (hx : Dn K S H dx x) (hy : Dn K S H dy y) : Dn K S (upd H T (.tup [x, y])) (.tup [dx, dy]) (.ref T) := by
 simp only [Dn]
 exact ⟨T, [x, y], rfl, .inl (.inl upd_same), Dns.fits (.same (same_upd fr)) _ _ (Dns.cons hx (Dns.one hy))⟩
theorem wlk_enumL {K : PySem.W.Frag} {a : Addr} {ds : List D} : Wlk K (Iel K a) (enumD ds) [(.lst ds, .ref a)] where
 go := fun S H fc hg i d e => by
  have h := hg _ (List.mem_singleton.mpr rfl)
  simp only [Dn] at h
  obtain ⟨b, xs, eb, hb, sb, dn⟩ := h
  injection eb with eb
  subst eb
  obtain ⟨d0, e0, rfl⟩ := enumD_get e
  obtain ⟨v, ev, dv⟩ := dn.get e0
  refine ⟨⟨xs, v, SqL.of hb, ev⟩, fun x H' y => ?_⟩
  obtain ⟨T, vs, rfl, fr, rfl, v', rfl, hy⟩ := y
  have ex := hy xs (SqL.of hb)
  rw [ev] at ex
  cases ex
  exact ⟨same_upd fr, pair_dn fr (by simp only [Dn]) dv⟩
 stop := fun S H hg i hi => by
  have h := hg _ (List.mem_singleton.mpr rfl)
  simp only [Dn] at h
  obtain ⟨b, xs, eb, hb, sb, dn⟩ := h
  injection eb with eb
  subst eb
  exact ⟨xs, SqL.of hb, by rw [<- dn.len, <- hi]; simp [enumD]⟩
theorem wlk_enumT {K : PySem.W.Frag} {a : Addr} {ds : List D} : Wlk K (Iet K a) (enumD ds) [(.tup ds, .ref a)] where
 go := fun S H fc hg i d e => by
  have h := hg _ (List.mem_singleton.mpr rfl)
  simp only [Dn] at h
  obtain ⟨b, xs, eb, hb, dn⟩ := h
  injection eb with eb
  subst eb
  obtain ⟨d0, e0, rfl⟩ := enumD_get e
  obtain ⟨v, ev, dv⟩ := dn.get e0
  refine ⟨⟨xs, v, hb, ev⟩, fun x H' y => ?_⟩
  obtain ⟨T, vs, rfl, fr, rfl, v', rfl, hy⟩ := y
  have ex := hy xs hb
  rw [ev] at ex
  cases ex
  exact ⟨same_upd fr, pair_dn fr (by simp only [Dn]) dv⟩
 stop := fun S H hg i hi => by
  have h := hg _ (List.mem_singleton.mpr rfl)
  simp only [Dn] at h
  obtain ⟨b, xs, eb, hb, dn⟩ := h
  injection eb with eb
  subst eb
  exact ⟨xs, hb, by rw [<- dn.len, <- hi]; simp [enumD]⟩
def wEnum (t : WA) : WI := fun ρ Q => t ρ fun ds => match ds with
 | [.lst es] => Q (enumD es)
 | [.tup es] => Q (enumD es)
 | _ => False
theorem enumerate3 {a : Expr} {t : WA} {p pos : Pos} (hm : X.mg "enumerate" = none) (ha : PA3 X [a] t) (hg : Gl X "enumerate" := by rfl) (hs : starEach [a] X.env = [(false, eval a X.env)] := by rfl) : PI3 X (.Tuple es kk tp) (.Call (.Name "enumerate" p) [a] [] pos) (wEnum t) :=
 impI (pi_enum hg hm ha hs) fun σ H R hq55 => by
  obtain ⟨S, ρ, Q3, fc, sl, ht, k⟩ := hq55
  refine ⟨S, ρ, _, fc, sl, ht, fun vs H1 ds s1 d1 q1 => ?_⟩
  split at q1
  ·obtain ⟨v, r, rfl, h1, h2⟩ := d1.uncons
   simp only [Dns] at h2
   subst h2
   have h1' := h1
   simp only [Dn] at h1
   obtain ⟨l, xs, rfl, hl, sl', da⟩ := h1
   exact ⟨l, rfl, .inl ⟨⟨xs, SqL.of hl⟩, k _ H1 _ [(_, .ref l)] s1 (fun g hg => by cases List.mem_singleton.mp hg; exact h1') wlk_enumL q1⟩⟩
  ·obtain ⟨v, r, rfl, h1, h2⟩ := d1.uncons
   simp only [Dns] at h2
   subst h2
   have h1' := h1
   simp only [Dn] at h1
   obtain ⟨l, xs, rfl, hl, da⟩ := h1
   exact ⟨l, rfl, .inr ⟨⟨xs, hl⟩, k _ H1 _ [(_, .ref l)] s1 (fun g hg => by cases List.mem_singleton.mp hg; exact h1') wlk_enumT q1⟩⟩
  ·exact q1.elim
end
section
variable {X : Cx} {a b : Expr} {pos : Pos} {ta tb : WE}
theorem op_mulB : OpR X (binaryOp .Mult) (rI IntMulOk fun i j => .int (i * j)) := opI fun _ _ _ _ _ _ _ hc q => mul_int q hc
def mulBF : F2 := intF IntMulOk fun i j => .int (i * j)
theorem mulB3 (ha : PE3 X a ta) (hb : PE3 X b tb) : PE3 X (.BinOp a .Mult b pos) (wBin mulBF ta tb) := op3 op_mulB o3_int ha hb
end
theorem mulB_ok {i j : Int} {m n : Nat} (hi : i.natAbs < 2 ^ m) (hj : j.natAbs < 2 ^ n) (h : m + n <= 134217728) : IntMulOk i j := by
 exact mulOk_of_bits (intBits_le hi) (intBits_le hj) h
section
variable {X : Cx}
def wFull (t : WE) : WT := fun ρ Q => t ρ fun d => match d with
 | .lst ds => Q (!ds.isEmpty)
 | .tup ds => Q (!ds.isEmpty)
 | _ => False
theorem Dns.empty {K : PySem.W.Frag} {S : Addr -> Prop} {H : Hp} {ds : List D} {xs : List V} (h : Dns K S H ds xs) : ds.isEmpty = xs.isEmpty := by
 have := h.len
 cases ds <;> cases xs <;> simp at this ⊢
abbrev WO := DEnv -> (Option Int -> Prop) -> Prop
def liftO (K : PySem.W.Frag) (t : WO) : TO := fun σ H Q => ∃ (S : Addr -> Prop) (ρ : DEnv) (Q3 : Option Int -> Prop), (∀ a, H a = none -> S a) /\ Sl K S H ρ σ /\ t ρ Q3 /\ ∀ o H', Same H H' -> Q3 o -> Q o H'
def PO3 (X : Cx) (e : Option Expr) (t : WO) : Prop := PO X e (liftO X.K t)
def wNoPart : WO := fun _ Q => Q none
def wPart (t : WE) : WO := fun ρ Q => t ρ fun d => match d with
 | .int i => Q (some i)
 | _ => False
theorem po3n : PO3 X none wNoPart := fun pins s σ H Q I hq56 => by obtain ⟨S, ρ, Q3, fc, sl, ht, k⟩ := hq56; exact po_none pins s σ H Q I (k none H (Same.refl H) ht)
theorem po3 {e : Expr} {t : WE} (h : PE3 X e t) : PO3 X (some e) (wPart t) := fun pins s σ H Q I hq57 => by
 obtain ⟨S, ρ, Q3, fc, sl, ht, k⟩ := hq57
 refine po_some h pins s σ H Q I ⟨S, ρ, _, fc, sl, ht, fun v H1 d s1 d1 q1 => ?_⟩
 cases d with
 | int i => simp only [Dn] at d1; exact ⟨i, d1, k _ H1 s1 q1⟩
 | _ => exact q1.elim
def cutD (xs : List D) (lo hi : Option Int) : List D := (xs.drop (HT.sIx xs.length 0 lo)).take (HT.sIx xs.length xs.length hi - HT.sIx xs.length 0 lo)
theorem Dns.cut {K : PySem.W.Frag} {S : Addr -> Prop} {H : Hp} {ds : List D} {xs : List V} {lo hi : Option Int} (h : Dns K S H ds xs) : Dns K S H (cutD ds lo hi) (cutV xs lo hi) := by
 unfold cutD cutV
 rw [h.len]
 exact (h.drop _).take _
theorem item_all {prog : Program} {w : World} {A : Around} {E : Value -> Shared -> Prop} {s : Shared} {t sl : Addr} {items : Array Value} {vl vu : Value} {lo hi : Option Int} {Q : Value -> Shared -> Prop} (ht : IsTup s.heap t items) (hs : s.heap.IsSliceOf sl vl vu .none) (pl : IsPart vl lo) (pu : IsPart vu hi)
  (h0 : HT.sIx items.size 0 lo = 0) (h1 : HT.sIx items.size items.size hi = items.size) (h : Q (.ref t) s) : wpAny (model prog w) A (getItem (.ref t) (.ref sl)) Q E s := by
 have hT : s.TypeIs (.ref sl) "slice" := by obtain ⟨o, a, b, _⟩ := hs; exact ⟨o, a, b⟩
 unfold getItem
 try with_reducible refine wpAny_holding ?_
 first | refine wpAny_bind (wpAny_pure ?_) | skip
 apply wpAny_bind
 refine wpAny_sequenceKey ht.typeIs (by decide) (wpAny_bind (wpAny_callSpecial?_slot ht.typeIs PyProof.Rows.slot_tuple_getitem (wpAny_call_entry PyProof.Rows.slot_tuple_getitem ht.typeIs entry_tuple_getitem ?_ (args_tuple_getitem _ _))))
 refine wpAny_bind (m := Builtin.Tuple.tupleItemsOf _) (tupleItemsOf_ ht (wpAny_bind (wpAny_typeOf hT ?_)))
 rw [if_pos (by decide)]
 refine wpAny_bind (HT.sliceApplied_gen (n := items.size) hs pl pu ?_)
 rw [h0, h1]
 show wpAny _ _ (if ((((0 : Nat) : Int) == 0) && ((1 : Int) == 1) && ((items.size - 0) == items.size)) = true then _ else _) _ _ s
 rw [if_pos (by simp)]
 refine wpAny_bind (m := Builtin.Tuple.tupleIsExact _) (wpAny_bind (wpAny_typeOf ht.typeIs (wpAny_pure ?_)))
 show wpAny _ _ (if true = true then _ else _) _ _ s
 rw [if_pos rfl]
 exact wpAny_bind (wpAny_rule (wpAny_pure ⟨_, rfl, wpAny_pure h⟩))
def rSlW (K : PySem.W.Frag) : V -> Option Int -> Option Int -> Hp -> VK -> Prop := fun x lo hi H Q => ∃ a xs, x = .ref a /\ SqT K H a xs /\ (HT.sIx xs.length 0 lo = 0 /\ HT.sIx xs.length xs.length hi = xs.length) /\ Q (.ref a) H
theorem sl_tupW : SlR X (rSlW X.K) := by
 intro pins s σ H x v vl vu lo hi sl Q I rx hs pl pu h
 obtain ⟨a, xs, rfl, hx, hw, q⟩ := h
 cases rx
 obtain ⟨its, r, ht, hz⟩ := I.tuple hx
 have hlen : its.toArray.size = xs.length := by rw [List.size_toArray]; exact r.length.symm
 exact ⟨"tuple", _, PyProof.Rows.slot_tuple_getitem.lookup, ht.typeIs, item_all ht hs pl pu (by rw [hlen]; exact hw.1) (by rw [hlen]; exact hw.2) ⟨.ref a, H, I, rfl, q⟩⟩
def wSl (te : WE) (tl th : WO) : WE := fun ρ Q => te ρ fun d => tl ρ fun lo => th ρ fun hi => match d with
 | .lst ds => Q (.lst (cutD ds lo hi))
 | .tup ds => Q (.tup (cutD ds lo hi))
 | _ => False
theorem sl3 {e : Expr} {lo hi : Option Expr} {p2 pos : Pos} {te : WE} {tl th : WO} (he : PE3 X e te) (hl : PO3 X lo tl) (hh : PO3 X hi th) : PE3 X (.Subscript e (.Slice lo hi none p2) pos) (wSl te tl th) :=
 imp (pe_slice (sl_list.or (sl_tup.or sl_tupW)) he hl hh) fun σ H Q hq58 => by
  obtain ⟨S, ρ, Q3, fc, sl, ht, k⟩ := hq58
  refine ⟨S, ρ, _, fc, sl, ht, fun v H1 d s1 d1 q1 => ?_⟩
  refine ⟨S, ρ, _, fc_same fc s1, Sl.fits (.same s1) sl, q1, fun o H2 s2 q2 => ?_⟩
  refine ⟨S, ρ, _, fc_same fc (s1.trans s2), Sl.fits (.same (s1.trans s2)) sl, q2, fun o2 H3 s3 q3 => ?_⟩
  have d3 := Dn.fits (.same (s2.trans s3)) _ _ d1
  have sa := (s1.trans s2).trans s3
  cases d with
  | lst ds =>
   simp only [Dn] at d3
   obtain ⟨a, xs, rfl, ha, sa', da⟩ := d3
   refine .inl ⟨a, xs, rfl, SqL.of ha, fun p hp => k _ _ _ (sa.trans (same_upd hp)) ?_ q3⟩
   simp only [Dn]
   exact ⟨p, _, rfl, upd_same, fc_same fc sa p hp, Dns.fits (.same (same_upd hp)) _ _ da.cut⟩
  | tup ds =>
   simp only [Dn] at d3
   obtain ⟨a, xs, rfl, ha, da⟩ := d3
   have hl := da.len
   by_cases hw : HT.sIx xs.length 0 o = 0 /\ HT.sIx xs.length xs.length o2 = xs.length
   ·refine .inr (.inr ⟨a, xs, rfl, ha, hw, k _ _ _ sa ?_ q3⟩)
    have e : cutD ds o o2 = ds := by
     unfold cutD
     rw [hl, hw.1, hw.2, List.drop_zero, Nat.sub_zero, List.take_of_length_le (Nat.le_of_eq hl)]
    rw [e]
    simp only [Dn]
    exact ⟨a, xs, rfl, ha, da⟩
   ·refine .inr (.inl ⟨a, xs, rfl, ha, hw, fun p hp => k _ _ _ (sa.trans (same_upd hp)) ?_ q3⟩)
    simp only [Dn]
    exact ⟨p, _, rfl, .inl (.inl upd_same), Dns.fits (.same (same_upd hp)) _ _ da.cut⟩
  | _ => exact q3.elim
end
section
variable {X : Cx} {tg : Expr}
end
end L3
end
section
namespace L4
open PySem PySem.Spec PyProof.Rows L2 L3
def wE (f : EF) : WE := fun ρ Q => ∃ d, f ρ = some d /\ Q d
def wT (f : TF) : WT := fun ρ Q => ∃ d, f ρ = some d /\ Q d
def wA (f : AF) : WA := fun ρ Q => ∃ d, f ρ = some d /\ Q d
def wI (f : AF) : WI := fun ρ Q => ∃ d, f ρ = some d /\ Q d
def wO (f : OF) : WO := fun ρ Q => ∃ d, f ρ = some d /\ Q d
def wX (f : XF) : WX := fun ρ Q => ∃ p, f ρ = some p /\ Q p.1 p.2
def wS (f : SF) : WS := fun E ρ => match f ρ with
 | .nx ρ' => E.nx ρ'
 | .rt d => E.rt d
 | .ex c => E.ex c
 | .no => False
def wG (g : GSF) : WG := fun d ρ Q => ∃ ρ', g d ρ = some ρ' /\ Q ρ'
def wGE (g : GEF) : GE := fun d ρ Q => ∃ ρ', g d ρ = some ρ' /\ Q ρ'
abbrev PE4 (X : Cx) (e : Expr) (f : EF) : Prop := PE3 X e (wE f)
abbrev PF4 (X : Cx) (e : Expr) (f : EF) : Prop := PF3 X e (wE f)
abbrev PT4 (X : Cx) (e : Expr) (f : TF) : Prop := PT3 X e (wT f)
abbrev PW4 (X : Cx) (e : Expr) (f : TF) : Prop := PW3 X e (wT f)
abbrev PA4 (X : Cx) (es : List Expr) (f : AF) : Prop := PA3 X es (wA f)
abbrev PI4 (X : Cx) (tg e : Expr) (f : AF) : Prop := PI3 X tg e (wI f)
abbrev PO4 (X : Cx) (e : Option Expr) (f : OF) : Prop := PO3 X e (wO f)
abbrev PX4 (X : Cx) (e : Expr) (f : XF) : Prop := PX3 X e (wX f)
abbrev PS4 (X : Cx) (st : Stmt) (f : SF) : Prop := PS3 X st (wS f)
abbrev PSs4 (X : Cx) (st : List Stmt) (f : SF) : Prop := PSs3 X st (wS f)
section
variable {X : Cx}
theorem cE {e : Expr} {t t' : WE} (h : PE3 X e t) (c : ∀ ρ Q, t' ρ Q -> t ρ Q) : PE3 X e t' := imp h fun _ _ _ hq59 => by obtain ⟨S, ρ, Q3, fc, sl, ht, k⟩ := hq59; exact ⟨S, ρ, Q3, fc, sl, c ρ Q3 ht, k⟩
theorem cF {e : Expr} {t t' : WE} (h : PF3 X e t) (c : ∀ ρ Q, t' ρ Q -> t ρ Q) : PF3 X e t' := imp h fun _ _ _ hq60 => by obtain ⟨S, ρ, Q3, fc, sl, ht, k⟩ := hq60; exact ⟨S, ρ, Q3, fc, sl, c ρ Q3 ht, k⟩
theorem cT {e : Expr} {t t' : WT} (h : PT3 X e t) (c : ∀ ρ Q, t' ρ Q -> t ρ Q) : PT3 X e t' := impT h fun _ _ _ hq61 => by obtain ⟨S, ρ, Q3, fc, sl, ht, k⟩ := hq61; exact ⟨S, ρ, Q3, fc, sl, c ρ Q3 ht, k⟩
theorem cW {e : Expr} {t t' : WT} (h : PW3 X e t) (c : ∀ ρ Q, t' ρ Q -> t ρ Q) : PW3 X e t' := impW h fun _ _ _ hq62 => by obtain ⟨S, ρ, Q3, fc, sl, ht, k⟩ := hq62; exact ⟨S, ρ, Q3, fc, sl, c ρ Q3 ht, k⟩
theorem cA {e : List Expr} {t t' : WA} (h : PA3 X e t) (c : ∀ ρ Q, t' ρ Q -> t ρ Q) : PA3 X e t' := impA h fun _ _ _ hq63 => by obtain ⟨S, ρ, Q3, fc, sl, ht, k⟩ := hq63; exact ⟨S, ρ, Q3, fc, sl, c ρ Q3 ht, k⟩
theorem cI {tg e : Expr} {t t' : WI} (h : PI3 X tg e t) (c : ∀ ρ Q, t' ρ Q -> t ρ Q) : PI3 X tg e t' := impI h fun _ _ _ hq64 => by obtain ⟨S, ρ, Q3, fc, sl, ht, k⟩ := hq64; exact ⟨S, ρ, Q3, fc, sl, c ρ Q3 ht, k⟩
theorem cX {e : Expr} {t t' : WX} (h : PX3 X e t) (c : ∀ ρ Q, t' ρ Q -> t ρ Q) : PX3 X e t' := imp h fun _ _ _ hq65 => by obtain ⟨H₀, S, w, ρ, G, Q3, hl, st, ht, k⟩ := hq65; exact ⟨H₀, S, w, ρ, G, Q3, hl, st, c ρ Q3 ht, k⟩
theorem cS {e : Stmt} {t t' : WS} (h : PS3 X e t) (c : ∀ E ρ, t' E ρ -> t E ρ) : PS3 X e t' := impS h fun _ _ _ hq66 => by obtain ⟨H₀, S, w, ρ, G, E, hl, st, ht, ok⟩ := hq66; exact ⟨H₀, S, w, ρ, G, E, hl, st, c E ρ ht, ok⟩
theorem cSs {e : List Stmt} {t t' : WS} (h : PSs3 X e t) (c : ∀ E ρ, t' E ρ -> t E ρ) : PSs3 X e t' := impSs h fun _ _ _ hq67 => by obtain ⟨H₀, S, w, ρ, G, E, hl, st, ht, ok⟩ := hq67; exact ⟨H₀, S, w, ρ, G, E, hl, st, c E ρ ht, ok⟩
theorem PW4.pt {e : Expr} {f : TF} (h : PW4 X e f) : PT4 X e f := PW3.pt h
theorem PF4.pe {e : Expr} {f : EF} (h : PF4 X e f) : PE4 X e f := PF3.pe h
theorem bnd {α β : Type} {o : Option α} {f : α -> Option β} {b : β} (h : o.bind f = some b) : ∃ a, o = some a /\ f a = some b := by
 cases o with
 | none => cases h
 | some a => exact ⟨a, rfl, h⟩
theorem mpd {α β : Type} {o : Option α} {f : α -> β} {b : β} (h : o.map f = some b) : ∃ a, o = some a /\ f a = b := by
 cases o with
 | none => cases h
 | some a => exact ⟨a, rfl, Option.some.inj h⟩
theorem x4 (i : Nat) {x : Str} {pos : Pos} (hN : X.N[i]? = some x := by rfl) (hv : Vis X.env.scope x := by first | exact Or.inl rfl | exact Or.inr (Or.inl rfl) | exact Or.inr (Or.inr rfl)) (hd : (x == ("__debug__" : Str)) = false := by decide)
  (hcd : (x == ("__classdict__" : Str)) = false := by decide) : PE4 X (.Name x pos) (eVar i) := cE (x3 i hN hv hd hcd) fun ρ Q hq68 => by
 obtain ⟨d, e, q⟩ := hq68
 unfold eVar at e
 unfold wVar
 cases h : ρ[i]? with
 | none => rw [h] at e; cases e
 | some o =>
  rw [h] at e
  cases o with
  | none => cases e
  | some d' => cases e; exact q
theorem i4 {i : Int} {j pos} : PE4 X (.Constant (.int i) j pos) (eC (.int i)) := cE i3 fun _ _ hq69 => by obtain ⟨_, e, q⟩ := hq69; cases e; exact q
theorem b4 {b : Bool} {j pos} : PE4 X (.Constant (.bool b) j pos) (eC (.bl b)) := cE b3 fun _ _ hq70 => by obtain ⟨_, e, q⟩ := hq70; cases e; exact q
theorem n4 {j pos} : PE4 X (.Constant .none j pos) (eC .non) := cE n3 fun _ _ hq71 => by obtain ⟨_, e, q⟩ := hq71; cases e; exact q
theorem s4 {x : Str} {j pos} : PE4 X (.Constant (.str x) j pos) (eC (.str x)) := cE s3 fun _ _ hq72 => by obtain ⟨_, e, q⟩ := hq72; cases e; exact q
def Tells (f : F2) (g : D -> D -> Option D) : Prop := ∀ (x y d : D) (Q : D -> Prop), g x y = some d -> Q d -> f x y Q
theorem bin_w {f : F2} {g : D -> D -> Option D} (h : Tells f g) {fa fb : EF} (ρ : DEnv) (Q : D -> Prop) (w : wE (eBin g fa fb) ρ Q) : wBin f (wE fa) (wE fb) ρ Q := by
 obtain ⟨d, e, q⟩ := w
 obtain ⟨x, ex, e⟩ := bnd e
 obtain ⟨y, ey, e⟩ := bnd e
 exact ⟨x, ex, y, ey, h x y d Q e q⟩
theorem tells_int {g : Int -> Int -> D} : Tells (intF0 g) (intM g) := fun x y d Q e q => by
 cases x <;> first | (cases e; done) | skip
 all_goals (cases y <;> first | (cases e; done) | skip)
 cases e; exact q
theorem tells_intC {C : Int -> Int -> Prop} {c : Int -> Int -> Bool} {g : Int -> Int -> D} (h : ∀ i j, c i j = true -> C i j) : Tells (intF C g) (intMC c g) := fun x y d Q e q => by
 cases x <;> first | (cases e; done) | skip
 all_goals (cases y <;> first | (cases e; done) | skip)
 rename_i i j
 have e : (if c i j = true then some (g i j) else none) = some d := e
 by_cases hc : c i j = true
 ·rw [if_pos hc] at e; cases e; exact ⟨h i j hc, q⟩
 ·rw [if_neg hc] at e; cases e
theorem szl {n : Nat} {α : Type} {x d : α} {Q : α -> Prop} (e : (if n <= szL then some x else none) = some d) (q : Q d) : n <= sizeLine /\ Q x := by
 by_cases h : n <= szL
 ·rw [if_pos h] at e; cases e; exact ⟨by rw [sizeLine_eq]; exact h, q⟩
 ·rw [if_neg h] at e; cases e
theorem tells_add : Tells addF addM := fun x y d Q e q => by
 cases x <;> first | (cases e; done) | skip
 all_goals (cases y <;> first | (cases e; done) | skip)
 ·cases e; exact q
 ·exact szl (x := D.str _) e q
 ·exact szl (x := D.tup _) e q
 ·exact szl (x := D.lst _) e q
theorem tells_cat : Tells catF catM := fun x y d Q e q => by
 cases x <;> first | (cases e; done) | skip
 all_goals (cases y <;> first | (cases e; done) | skip)
 exact szl (x := D.lst _) e q
theorem mul_ok {i j : Int} (h : mulOk i j = true) : IntMulOk i j := by
 unfold mulOk at h
 simp only [Bool.or_eq_true, decide_eq_true_eq] at h
 rcases h with (h | h) | h
 ·exact CMul.ok (.inl ⟨by omega, by omega⟩)
 ·exact CMul.ok (.inr ⟨by omega, by omega⟩)
 ·refine mulB_ok (m := i.natAbs.log2 + 1) (n := j.natAbs.log2 + 1) ?_ ?_ (by omega)
  ·exact Nat.lt_log2_self
  ·exact Nat.lt_log2_self
section
variable {a b : Expr} {pos : Pos} {fa fb : EF}
theorem add4 (ha : PE4 X a fa) (hb : PE4 X b fb) : PE4 X (.BinOp a .Add b pos) (eBin addM fa fb) := cE (add3 ha hb) (bin_w tells_add)
theorem sub4 (ha : PE4 X a fa) (hb : PE4 X b fb) : PE4 X (.BinOp a .Sub b pos) (eBin subM fa fb) := cE (sub3 ha hb) (bin_w tells_int)
theorem mul4 (ha : PE4 X a fa) (hb : PE4 X b fb) : PE4 X (.BinOp a .Mult b pos) (eBin mulM fa fb) := cE (mulB3 ha hb) (bin_w (tells_intC fun _ _ h => mul_ok h))
theorem mod4 (ha : PE4 X a fa) (hb : PE4 X b fb) : PE4 X (.BinOp a .Mod b pos) (eBin modM fa fb) := cE (mod3 ha hb) (bin_w (tells_intC fun _ _ h => by simpa using h))
theorem div4 (ha : PE4 X a fa) (hb : PE4 X b fb) : PE4 X (.BinOp a .FloorDiv b pos) (eBin divM fa fb) := cE (div3 ha hb) (bin_w (tells_intC fun i j h => by
 simp only [Bool.and_eq_true, decide_eq_true_eq] at h
 exact ⟨h.1, by omega⟩))
theorem pow4 (ha : PE4 X a fa) (hb : PE4 X b fb) : PE4 X (.BinOp a .Pow b pos) (eBin powM fa fb) := cE (pow3 ha hb) (bin_w (tells_intC fun i j h => by
 simp only [Bool.and_eq_true, decide_eq_true_eq] at h
 exact ⟨h.1.1, by omega, h.2⟩))
theorem catN4 (ha : PE4 X a fa) (hb : PE4 X b fb) : PF4 X (.BinOp a .Add b pos) (eBin catM fa fb) := cF (catN3 ha hb) (bin_w tells_cat)
theorem tells_eq : Tells eqSF eqM := fun x y d Q e q => by
 cases x <;> first | (cases e; done) | skip
 all_goals (cases y <;> first | (cases e; done) | skip)
 all_goals (cases e; exact ⟨rfl, q⟩)
theorem tells_ne : Tells neSF neM := fun x y d Q e q => by
 cases x <;> first | (cases e; done) | skip
 all_goals (cases y <;> first | (cases e; done) | skip)
 all_goals (cases e; exact ⟨rfl, q⟩)
theorem ints_of : ∀ {ds : List D} {ns : List Int}, intsOf ds = some ns -> ds = ns.map D.int
 | [], ns, h => by cases h; rfl
 | d :: ds, ns, h => by
  cases d <;> first | cases h; done | skip
  obtain ⟨m, e, rfl⟩ := mpd h
  rw [ints_of e]; rfl
theorem tells_in {neg : Bool} : Tells (inF neg) (inM neg) := fun x y d Q e q => by
 cases x <;> first | (cases e; done) | skip
 all_goals (cases y <;> first | (cases e; done) | skip)
 all_goals
  obtain ⟨ns, e1, rfl⟩ := mpd e
  have := ints_of e1
  subst this
  exact ⟨allI_ints ns, by rw [memI_ints]; exact q⟩
theorem tells_is : Tells isNF isM := fun x y d Q e q => by
 unfold isM at e
 split at e
 ·rename_i h
  cases e
  refine ⟨(by cases y <;> first | rfl | cases h), ?_⟩
  have : isD x = isNon x := by cases x <;> rfl
  rw [this]; exact q
 ·cases e
theorem eq4 (ha : PE4 X a fa) (hb : PE4 X b fb) : PE4 X (.Compare a [.Eq] [b] pos) (eBin eqM fa fb) := cE (eqS3 ha hb) (bin_w tells_eq)
theorem in4 (ha : PE4 X a fa) (hb : PE4 X b fb) (hm : behindInMarks .In b = false := by with_unfolding_all rfl) : PE4 X (.Compare a [.In] [b] pos) (eBin (inM false) fa fb) := cE (in3 ha hb hm) (bin_w tells_in)
theorem is4 (ha : PE4 X a fa) (hb : PE4 X b fb) : PE4 X (.Compare a [.Is] [b] pos) (eBin isM fa fb) := cE (isN3 ha hb) (bin_w tells_is)
theorem bin_t {f : F2} {g : D -> D -> Option D} (h : Tells f g) (hb : ∀ x y d, g x y = some d -> ∃ b, d = .bl b) {fa fb : EF} (ρ : DEnv) (Q : Bool -> Prop) (w : wT (tV (eBin g fa fb)) ρ Q) : wTest (wBin f (wE fa) (wE fb)) ρ Q := by
 obtain ⟨b, e, q⟩ := w
 obtain ⟨d, e1, e2⟩ := bnd e
 obtain ⟨x, ex, e1⟩ := bnd e1
 obtain ⟨y, ey, e1⟩ := bnd e1
 obtain ⟨c, rfl⟩ := hb x y d e1
 cases e2
 exact ⟨x, ex, y, ey, h x y _ _ e1 q⟩
theorem bl_int {g : Int -> Int -> Bool} (x y d : D) (e : intM (fun i j => .bl (g i j)) x y = some d) : ∃ b, d = .bl b := by
 cases x <;> first | (cases e; done) | skip
 all_goals (cases y <;> first | (cases e; done) | skip)
 cases e; exact ⟨_, rfl⟩
theorem bl_eq (x y d : D) (e : eqM x y = some d) : ∃ b, d = .bl b := by obtain ⟨b, _, rfl⟩ := mpd e; exact ⟨_, rfl⟩
theorem bl_ne (x y d : D) (e : neM x y = some d) : ∃ b, d = .bl b := by obtain ⟨b, _, rfl⟩ := mpd e; exact ⟨_, rfl⟩
theorem bl_in {neg : Bool} (x y d : D) (e : inM neg x y = some d) : ∃ b, d = .bl b := by
 cases x <;> first | (cases e; done) | skip
 all_goals (cases y <;> first | (cases e; done) | skip)
 all_goals (obtain ⟨b, _, rfl⟩ := mpd e; exact ⟨_, rfl⟩)
theorem bl_is (x y d : D) (e : isM x y = some d) : ∃ b, d = .bl b := by
 unfold isM at e
 split at e
 ·cases e; exact ⟨_, rfl⟩
 ·cases e
theorem ltT4 (ha : PE4 X a fa) (hb : PE4 X b fb) : PT4 X (.Compare a [.Lt] [b] pos) (tV (eBin ltM fa fb)) := cT (ltT3 ha hb) (bin_t tells_int bl_int)
theorem gtT4 (ha : PE4 X a fa) (hb : PE4 X b fb) : PT4 X (.Compare a [.Gt] [b] pos) (tV (eBin gtM fa fb)) := cT (gtT3 ha hb) (bin_t tells_int bl_int)
theorem geT4 (ha : PE4 X a fa) (hb : PE4 X b fb) : PT4 X (.Compare a [.GtE] [b] pos) (tV (eBin geM fa fb)) := cT (geT3 ha hb) (bin_t tells_int bl_int)
theorem eqT4 (ha : PE4 X a fa) (hb : PE4 X b fb) : PT4 X (.Compare a [.Eq] [b] pos) (tV (eBin eqM fa fb)) := cT (eqST3 ha hb) (bin_t tells_eq bl_eq)
theorem neT4 (ha : PE4 X a fa) (hb : PE4 X b fb) : PT4 X (.Compare a [.NotEq] [b] pos) (tV (eBin neM fa fb)) := cT (neST3 ha hb) (bin_t tells_ne bl_ne)
theorem inT4 (ha : PE4 X a fa) (hb : PE4 X b fb) (hm : behindInMarks .In b = false := by with_unfolding_all rfl) : PT4 X (.Compare a [.In] [b] pos) (tV (eBin (inM false) fa fb)) := cT (inT3 ha hb hm) (bin_t tells_in bl_in)
theorem ninT4 (ha : PE4 X a fa) (hb : PE4 X b fb) (hm : behindInMarks .NotIn b = false := by with_unfolding_all rfl) : PT4 X (.Compare a [.NotIn] [b] pos) (tV (eBin (inM true) fa fb)) := cT (ninT3 ha hb hm) (bin_t tells_in bl_in)
theorem isT4 (ha : PE4 X a fa) (hb : PE4 X b fb) : PT4 X (.Compare a [.Is] [b] pos) (tV (eBin isM fa fb)) := cT (isNT3 ha hb) (bin_t tells_is bl_is)
end
def O4 (K : PySem.W.Frag) (r : R2) (g : D -> D -> Option D) : Prop := ∃ f, O3 K r f /\ Tells f g /\ ∀ x y d, g x y = some d -> ∃ b, d = .bl b
theorem o4_lt {K : PySem.W.Frag} : O4 K (rI0 fun i j => .bl (decide (i < j))) ltM := ⟨_, o3_cmp, tells_int, bl_int⟩
theorem o4_le {K : PySem.W.Frag} : O4 K (rI0 fun i j => .bl (decide (i <= j))) leM := ⟨_, o3_cmp, tells_int, bl_int⟩
theorem chain_w {f g : F2} {p q : D -> D -> Option D} (hf : Tells f p) (hg : Tells g q) {fa fb fc : EF} (ρ : DEnv) (Q : D -> Prop) (w : wE (eChain p q fa fb fc) ρ Q) : wChain f g (wE fa) (wE fb) (wE fc) ρ Q := by
 obtain ⟨d, e, k⟩ := w
 obtain ⟨x, ex, e⟩ := bnd e
 obtain ⟨y, ey, e⟩ := bnd e
 obtain ⟨z, ez, e⟩ := bnd e
 obtain ⟨b, eb, e5⟩ := bnd e
 refine ⟨x, ex, y, ey, hf x y z _ ez ?_⟩
 clear e
 cases z <;> first | cases eb; done | skip
 cases eb
 cases b with
 | true =>
  rw [if_pos rfl] at e5
  obtain ⟨u, eu, e⟩ := bnd e5
  exact ⟨u, eu, hg y u d Q e k⟩
 | false =>
  rw [if_neg Bool.false_ne_true] at e5
  cases e5
  exact k
theorem chain4 {a b c : Expr} {op op' : CmpOp} {pos : Pos} {r r' : R2} {p q : D -> D -> Option D} {fa fb fc : EF} (ho : OpR X (compareOp op) r) (ho' : OpR X (compareOp op') r') (h1 : O4 X.K r p) (h2 : O4 X.K r' q) (ha : PE4 X a fa) (hb : PE4 X b fb) (hc : PE4 X c fc)
  (hm : lastMarks [op, op'] [b, c] = false := by with_unfolding_all rfl) : PE4 X (.Compare a [op, op'] [b, c] pos) (eChain p q fa fb fc) := by
 obtain ⟨f, o1, t1, _⟩ := h1
 obtain ⟨g, o2, t2, _⟩ := h2
 exact cE (chain3 ho ho' o1 o2 ha hb hc hm) (chain_w t1 t2)
section
variable {a b c : Expr} {rest : List Expr} {pos : Pos} {fa fb : EF} {ta tb tc : TF}
theorem notT4 (ha : PT4 X a ta) : PT4 X (.UnaryOp .Not a pos) (tNot ta) := cT (notT3 ha) fun ρ Q hq73 => by
 obtain ⟨b, e, q⟩ := hq73
 obtain ⟨c, ec, rfl⟩ := mpd e
 exact ⟨c, ec, q⟩
theorem and14 (ha : PT4 X a ta) : PW4 X (.BoolOp .And [a] pos) ta := and1 ha
theorem or14 (ha : PT4 X a ta) : PW4 X (.BoolOp .Or [a] pos) ta := or1 ha
theorem andT4 (ha : PT4 X a ta) (hb : PW4 X (.BoolOp .And (b :: rest) pos) tb) : PW4 X (.BoolOp .And (a :: b :: rest) pos) (tAnd ta tb) := cW (andT3 ha hb) fun ρ Q hq74 => by
 obtain ⟨d, e, q⟩ := hq74
 obtain ⟨c, ec, e⟩ := bnd e
 refine ⟨c, ec, ?_⟩
 cases c with
 | true => rw [if_pos rfl] at e ⊢; exact ⟨d, e, q⟩
 | false => rw [if_neg Bool.false_ne_true] at e ⊢; cases e; exact q
theorem orT4 (ha : PT4 X a ta) (hb : PW4 X (.BoolOp .Or (b :: rest) pos) tb) : PW4 X (.BoolOp .Or (a :: b :: rest) pos) (tOr ta tb) := cW (orT3 ha hb) fun ρ Q hq75 => by
 obtain ⟨d, e, q⟩ := hq75
 obtain ⟨c, ec, e⟩ := bnd e
 refine ⟨c, ec, ?_⟩
 cases c with
 | true => rw [if_pos rfl] at e ⊢; cases e; exact q
 | false => rw [if_neg Bool.false_ne_true] at e ⊢; exact ⟨d, e, q⟩
theorem one4 {op} (ha : PE4 X a fa) : PE4 X (.BoolOp op [a] pos) fa := one3 ha
theorem and4 (ha : PE4 X a fa) (hb : PE4 X (.BoolOp .And (b :: rest) pos) fb) : PE4 X (.BoolOp .And (a :: b :: rest) pos) (eAnd fa fb) := cE (and3 ha hb) fun ρ Q hq76 => by
 obtain ⟨d, e, q⟩ := hq76
 obtain ⟨x, ex, e1⟩ := bnd e
 obtain ⟨c, ec, e⟩ := bnd e1
 clear e1
 refine ⟨x, ex, ?_⟩
 cases x <;> first | cases ec; done | skip
 cases ec
 cases c with
 | true => rw [if_pos rfl] at e; exact ⟨d, e, q⟩
 | false => rw [if_neg Bool.false_ne_true] at e; cases e; exact q
theorem or4 (ha : PE4 X a fa) (hb : PE4 X (.BoolOp .Or (b :: rest) pos) fb) : PE4 X (.BoolOp .Or (a :: b :: rest) pos) (eOr fa fb) := cE (or3 ha hb) fun ρ Q hq77 => by
 obtain ⟨d, e, q⟩ := hq77
 obtain ⟨x, ex, e1⟩ := bnd e
 obtain ⟨c, ec, e⟩ := bnd e1
 clear e1
 refine ⟨x, ex, ?_⟩
 cases x <;> first | cases ec; done | skip
 cases ec
 cases c with
 | true => rw [if_pos rfl] at e; cases e; exact q
 | false => rw [if_neg Bool.false_ne_true] at e; exact ⟨d, e, q⟩
theorem not4 (ha : PE4 X a fa) : PE4 X (.UnaryOp .Not a pos) (eNot fa) := cE (not3 ha) fun ρ Q hq78 => by
 obtain ⟨d, e, q⟩ := hq78
 obtain ⟨x, ex, e⟩ := bnd e
 obtain ⟨c, ec, rfl⟩ := mpd e
 refine ⟨x, ex, ?_⟩
 cases x <;> first | cases ec; done | skip
 cases ec
 exact q
theorem if4 (hc : PT4 X c tc) (ha : PE4 X a fa) (hb : PE4 X b fb) : PE4 X (.IfExp c a b pos) (eIf tc fa fb) := cE (if3 hc ha hb) fun ρ Q hq79 => by
 obtain ⟨d, e, q⟩ := hq79
 obtain ⟨c, ec, e⟩ := bnd e
 refine ⟨c, ec, ?_⟩
 cases c with
 | true => rw [if_pos rfl] at e ⊢; exact ⟨d, e, q⟩
 | false => rw [if_neg Bool.false_ne_true] at e ⊢; exact ⟨d, e, q⟩
theorem neg4 (ha : PE4 X a fa) : PE4 X (.UnaryOp .USub a pos) (eNeg fa) := cE (neg3 ha) fun ρ Q hq80 => by
 obtain ⟨d, e, q⟩ := hq80
 obtain ⟨x, ex, e⟩ := bnd e
 refine ⟨x, ex, ?_⟩
 cases x <;> first | cases e; done | skip
 cases e
 exact q
theorem val4 {e : Expr} {f : EF} (h : PE4 X e f) (he : ∀ whole, isTrue e X.env whole = (do let v <- whole; standAt e.pos; holding [v] (truthy v)) := by intro _; rfl) : PT4 X e (tV f) :=
 impT (pt_truth h he) fun σ H Q hq81 => by
  obtain ⟨S, ρ, Q3, fc, sl, ⟨b, hb, q3⟩, k⟩ := hq81
  obtain ⟨d0, ed, et⟩ := bnd hb
  refine ⟨S, ρ, fun d => d = d0, fc, sl, ⟨d0, ed, rfl⟩, fun v H1 d s1 d1 q1 => ?_⟩
  subst q1
  cases d with
  | bl c => cases et; simp only [Dn] at d1; subst d1; exact ⟨_, rfl, k _ H1 s1 q3⟩
  | lst ds =>
   cases et
   simp only [Dn] at d1
   obtain ⟨a, xs, rfl, ha, sa, da⟩ := d1
   exact ⟨_, .inl ⟨xs, SqL.of ha, by rw [<- da.empty]⟩, k _ H1 s1 q3⟩
  | tup ds =>
   cases et
   simp only [Dn] at d1
   obtain ⟨a, xs, rfl, ha, da⟩ := d1
   exact ⟨_, .inr (.inl ⟨xs, ha, by rw [<- da.empty]⟩), k _ H1 s1 q3⟩
  | _ => cases et
end
end
section
variable {X : Cx}
theorem nil4 : PA4 X [] aNil := cA nil3 fun _ _ hq82 => by obtain ⟨_, e, q⟩ := hq82; cases e; exact q
theorem cons4 {e : Expr} {es : List Expr} {fe : EF} {t : AF} (ha : PE4 X e fe) (hr : PA4 X es t) (hs : starEach (e :: es) X.env = (false, eval e X.env) :: starEach es X.env := by rfl) : PA4 X (e :: es) (aCons fe t) := cA (cons3 ha hr hs) fun ρ Q hq83 => by
 obtain ⟨ds, e, q⟩ := hq83
 obtain ⟨d, ed, e⟩ := bnd e
 obtain ⟨r, er, e⟩ := bnd e
 cases e
 exact ⟨d, ed, r, er, q⟩
theorem tup4 {es : List Expr} {t : AF} {x1} {pos : Pos} (h : PA4 X es t) : PE4 X (.Tuple es x1 pos) (eTup t) := cE (tup3 h) fun ρ Q hq84 => by
 obtain ⟨d, e, q⟩ := hq84
 obtain ⟨ds, ed, e⟩ := bnd e
 exact ⟨ds, ed, szl (x := D.tup ds) e q⟩
theorem lst4 {es : List Expr} {t : AF} {pos : Pos} (h : PA4 X es t) : PF4 X (.List es pos) (eLst t) := cF (lst3 h) fun ρ Q hq85 => by
 obtain ⟨d, e, q⟩ := hq85
 obtain ⟨ds, ed, e⟩ := bnd e
 exact ⟨ds, ed, szl (x := D.lst ds) e q⟩
theorem tells_ix : Tells ixF ixM := fun x y d Q e q => by
 cases x <;> first | (cases e; done) | skip
 all_goals (cases y <;> first | (cases e; done) | skip)
 ·have e : atI _ _ = some d := e
  show (match atI _ _ with | some d => Q d | none => False)
  rw [e]; exact q
 ·have e : atI _ _ = some d := e
  show (match atI _ _ with | some d => Q d | none => False)
  rw [e]; exact q
 ·obtain ⟨n, e1, rfl⟩ := mpd e
  have e1 : atI _ _ = some n := e1
  show (match atI _ _ with | some n => Q (.int n) | none => False)
  rw [e1]; exact q
theorem ix4 {a b : Expr} {pos : Pos} {fa fb : EF} (ha : PE4 X a fa) (hb : PE4 X b fb) (hs : PlainIx b := by intro _ _; rfl) : PE4 X (.Subscript a b pos) (eBin ixM fa fb) := cE (ix3 ha hb hs) (bin_w tells_ix)
theorem tells_ixD : Tells ixDF ixDM := fun x y d Q e q => by
 cases x <;> first | cases e; done | skip
 rename_i ks ds
 obtain ⟨k, ek, e⟩ := bnd e
 have ek : keyD y = some k := by cases y <;> first | exact ek | cases ek
 have e : lookD ks ds k = some d := e
 show (match D.dic ks ds, keyD y with
  | .dic ks ds, some k => (match lookD ks ds k with | some d => Q d | none => False)
  | _, _ => False)
 rw [ek]
 dsimp only
 rw [e]; exact q
theorem ixD4 {o i : Expr} {pos : Pos} {fo fi : EF} (hu : X.A.units + 1 < cLine) (ho : PE4 X o fo) (hi : PE4 X i fi) (hs : NoSl i := by intro _ _; rfl) : PE4 X (.Subscript o i pos) (eBin ixDM fo fi) := cE (ixD3 hu ho hi hs) (bin_w tells_ixD)
def Tells1 (f : F1) (g : List D -> Option D) : Prop := ∀ (ds : List D) (d : D) (Q : D -> Prop), g ds = some d -> Q d -> f ds Q
theorem cb_w {f : F1} {g : List D -> Option D} (h : Tells1 f g) {t : AF} (ρ : DEnv) (Q : D -> Prop) (w : wE (eCB g t) ρ Q) : wCB f (wA t) ρ Q := by
 obtain ⟨d, e, q⟩ := w
 obtain ⟨ds, ed, e⟩ := bnd e
 exact ⟨ds, ed, h ds d Q e q⟩
theorem tells_len : Tells1 lenF lenM := fun ds d Q e q => by
 cases ds with
 | nil => cases e
 | cons a ds =>
  cases a <;> first | (cases e; done) | skip
  all_goals (cases ds <;> first | (cases e; exact q) | (cases e; done))
theorem tells_tuple : Tells1 tupleF tupleM := fun ds d Q e q => by
 cases ds with
 | nil => cases e
 | cons a ds =>
  cases a <;> first | (cases e; done) | skip
  all_goals (cases ds <;> first | (cases e; exact q) | (cases e; done))
theorem len4 {p pos : Pos} {e : Expr} {t : AF} (hm : X.mg "len" = none) (ha : PA4 X [e] t) (hg : Gl X "len" := by rfl) (he : starEach [e] X.env = (false, eval e X.env) :: starEach [] X.env := by rfl) : PE4 X (.Call (.Name "len" p) [e] [] pos) (eCB lenM t) := cE (len3 hm ha hg he) (cb_w tells_len)
theorem tuple4 {p pos : Pos} {e : Expr} {t : AF} (hm : X.mg "tuple" = none) (ha : PA4 X [e] t) (hg : Gl X "tuple" := by rfl) (he : starEach [e] X.env = (false, eval e X.env) :: starEach [] X.env := by rfl) : PE4 X (.Call (.Name "tuple" p) [e] [] pos) (eCB tupleM t) := cE (tuple3 hm PyProof.Rows.boot_tuple ha hg he) (cb_w tells_tuple)
theorem intsOf_eq : ∀ ds : List D, L3.intsOf ds = L4.intsOf ds
 | [] => rfl
 | d :: ds => by
  cases d <;> first | rfl | skip
  show (L3.intsOf ds).map _ = (L4.intsOf ds).map _
  rw [intsOf_eq ds]
theorem insI_perm3 (a : Int) : ∀ l : List Int, (insI a l).Perm (a :: l)
 | [] => .refl _
 | b :: l => by
  unfold insI
  split
  ·exact .refl _
  ·exact ((insI_perm3 a l).cons b).trans (.swap a b l)
theorem sortI_perm3 : ∀ l : List Int, (sortI l).Perm l
 | [] => .refl _
 | a :: l => (insI_perm3 a (sortI l)).trans ((sortI_perm3 l).cons a)
theorem insI_sorted3 (a : Int) : ∀ l : List Int, l.Pairwise (· <= ·) -> (insI a l).Pairwise (· <= ·)
 | [], _ => by simp [insI]
 | b :: l, h => by
  unfold insI
  split
  ·rename_i hab
   refine List.pairwise_cons.mpr ⟨fun c hc => ?_, h⟩
   rcases List.mem_cons.mp hc with e | e
   ·subst e; exact hab
   ·exact Int.le_trans hab ((List.pairwise_cons.mp h).1 c e)
  ·rename_i hab
   refine List.pairwise_cons.mpr ⟨fun c hc => ?_, insI_sorted3 a l (List.pairwise_cons.mp h).2⟩
   rcases List.mem_cons.mp ((insI_perm3 a l).mem_iff.mp hc) with e | e
   ·subst e; omega
   ·exact (List.pairwise_cons.mp h).1 c e
theorem sortI_sorted3 : ∀ l : List Int, (sortI l).Pairwise (· <= ·)
 | [] => List.Pairwise.nil
 | a :: l => insI_sorted3 a _ (sortI_sorted3 l)
theorem sorted_one : ∀ {l m : List Int}, l.Perm m -> l.Pairwise (· <= ·) -> m.Pairwise (· <= ·) -> l = m
 | [], m, p, _, _ => by rw [p.nil_eq]
 | a :: l, [], p, _, _ => by have := p.length_eq; simp at this
 | a :: l, b :: m, p, h1, h2 => by
  have e : a = b := by
   have m1 := p.mem_iff.mp (List.mem_cons_self (a := a) (l := l))
   have m2 := p.mem_iff.mpr (List.mem_cons_self (a := b) (l := m))
   rcases List.mem_cons.mp m1 with e | e
   ·exact e
   ·rcases List.mem_cons.mp m2 with e2 | e2
    ·exact e2.symm
    ·have := (List.pairwise_cons.mp h2).1 a e
     have := (List.pairwise_cons.mp h1).1 b e2
     omega
  subst e
  rw [sorted_one p.cons_inv (List.pairwise_cons.mp h1).2 (List.pairwise_cons.mp h2).2]
theorem tells_sorted : Tells1 sortF sortedM := fun ds d Q e q => by
 unfold sortedM at e
 split at e
 ·rename_i a
  obtain ⟨ns, e1, e⟩ := bnd e
  by_cases hl : ns.length < 64
  ·rw [if_pos hl] at e
   cases e
   show (match L3.intsOf a with | some ns => ns.length < 64 /\ ∀ ns' : List Int, ns'.Perm ns -> ns'.Pairwise (· <= ·) -> Q (.lst (ns'.map D.int)) | none => False)
   rw [intsOf_eq, e1]
   refine ⟨hl, fun ns' p s => ?_⟩
   rw [sorted_one (p.trans (sortI_perm3 ns).symm) s (sortI_sorted3 ns)]
   exact q
  ·rw [if_neg hl] at e; cases e
 ·cases e
theorem sorted4 {p pos : Pos} {e : Expr} {t : AF} (hm : X.mg "sorted" = none) (ha : PA4 X [e] t) (hg : Gl X "sorted" := by rfl) (he : starEach [e] X.env = (false, eval e X.env) :: starEach [] X.env := by rfl) : PF4 X (.Call (.Name "sorted" p) [e] [] pos) (eCB sortedM t) := cF (sorted3 hm ha hg he) (cb_w tells_sorted)
theorem isT_eq (T : String) (d : D) : isTM T d = isT T d := by cases d <;> rfl
theorem isi4 {T : String} {x : Str} {e : Expr} {f : EF} {p p2 pos : Pos} (hT : Ty4 T) (hm : X.mg "isinstance" = none) (hmT : X.mg x = none) (hv : bootBuiltins x = some (.type T)) (he : PE4 X e f) (hg : Gl X "isinstance" := by rfl) (hgT : Gl X x := by rfl) (hn : x ≠ "__name__" := by decide) (hdb : (x == ("__debug__" : Str)) = false := by decide)
  (hs : starEach [e, .Name x p2] X.env = (false, eval e X.env) :: starEach [.Name x p2] X.env := by rfl) (hs2 : starEach [.Name x p2] X.env = (false, eval (.Name x p2) X.env) :: starEach [] X.env := by rfl) (hpl : (backTo pos (starEach [.Name x p2] X.env)).any (·.1) = false := by rfl) :
  PE4 X (.Call (.Name "isinstance" p) [e, .Name x p2] [] pos) (eIsi T f) := cE (isi3 hT hm hmT hv he hg hgT hn hdb hs hs2 hpl) fun ρ Q hq86 => by
 obtain ⟨d, e, q⟩ := hq86
 obtain ⟨x, ex, e⟩ := bnd e
 by_cases hx : notE x = true
 ·rw [if_pos hx] at e
  cases e
  exact ⟨x, ex, (by cases x <;> first | trivial | cases hx), by show Q (.bl (isT T x)); rw [<- isT_eq]; exact q⟩
 ·rw [if_neg hx] at e; cases e
def sp4 (K : PySem.W.Frag) (R : FnF) : Sp := sp3 K fun ds Q => ∃ d, R ds = .ok d /\ Q d
theorem call4 {k : Nat} {f : Addr} {fd : FuncData} {ps : List Str} {R : FnF} {x : Str} {p pos : Pos} {e : Expr} {es : List Expr} {t : AF} (F : FnOk X.prog X.w X.K X.mg X.base CX0 k f fd ps (sp4 X.K R)) (hr : Room k X.A) (hm : X.mg x = some (.ref f)) (hk : PySem.W.keepIn X.K (.ref f) = true) (hb : Binds X.K fd ps [])
  (ha : PA4 X (e :: es) t) (hg : Gl X x := by rfl) (hdb : (x == ("__debug__" : Str)) = false := by decide) (he : starEach (e :: es) X.env = (false, eval e X.env) :: starEach es X.env := by rfl) (hpl : (backTo pos (starEach es X.env)).any (·.1) = false := by rfl) :
  PE4 X (.Call (.Name x p) (e :: es) [] pos) (eCall R t) := cE (call3 F hr hm hk hb ha hg hdb he hpl) fun ρ Q hq87 => by
 obtain ⟨d, e, q⟩ := hq87
 obtain ⟨ds, ed, e⟩ := bnd e
 refine ⟨ds, ed, d, ?_, q⟩
 cases h : R ds with
 | ok d' => rw [h] at e; cases e; rfl
 | no => rw [h] at e; cases e
 | ex c => rw [h] at e; cases e
theorem listRange4 {a : Expr} {t : AF} {p pos p2 pos2 : Pos} (hc : X.calm = true) (hm : X.mg "list" = none) (hmr : X.mg "range" = none) (ha : PA4 X [a] t) (hg : Gl X "list" := by rfl) (hgr : Gl X "range" := by rfl) (hs : starEach [a] X.env = [(false, eval a X.env)] := by rfl)
  (he : starEach [.Call (.Name "range" p2) [a] [] pos2] X.env = (false, eval (.Call (.Name "range" p2) [a] [] pos2) X.env) :: starEach [] X.env := by rfl) :
  PF4 X (.Call (.Name "list" p) [.Call (.Name "range" p2) [a] [] pos2] [] pos) (eListR t) := cF (listRange3 hc hm hmr ha hg hgr hs he) fun ρ Q hq88 => by
 obtain ⟨d, e, q⟩ := hq88
 obtain ⟨ds, ed, e⟩ := bnd e
 refine ⟨ds, ed, ?_⟩
 split at e
 ·rename_i j
  by_cases h : j.natAbs <= 16777216
  ·rw [if_pos h] at e; cases e; exact ⟨⟨by omega, by omega⟩, q⟩
  ·rw [if_neg h] at e; cases e
 ·cases e
section
variable {tg : Expr}
theorem walk4 {l : Expr} {f : EF} (h : PE4 X l f) : PI4 X tg l (iWalk f) := cI (walk3 h) fun ρ Q hq89 => by
 obtain ⟨ds, e, q⟩ := hq89
 obtain ⟨d, ed, e⟩ := bnd e
 refine ⟨d, ed, ?_⟩
 cases d <;> first | cases e; done | skip
 all_goals (cases e; exact q)
theorem one_of {fa : EF} {ρ : DEnv} {as : List D} (h : aCons fa aNil ρ = some as) : ∃ a, fa ρ = some a /\ as = [a] := by
 obtain ⟨a, ea, e⟩ := bnd h
 cases e
 exact ⟨a, ea, rfl⟩
theorem range14 {a : Expr} {fa : EF} {p pos : Pos} (hm : X.mg "range" = none) (ha : PE4 X a fa) (hg : Gl X "range" := by rfl) (hs : starEach [a] X.env = [(false, eval a X.env)] := by rfl) : PI4 X tg (.Call (.Name "range" p) [a] [] pos) (iRange (aCons fa aNil)) := cI (range3 hm (cons4 ha nil4 hs) hg hs) fun ρ Q hq90 => by
 obtain ⟨ds, e, q⟩ := hq90
 obtain ⟨as, ea, e⟩ := bnd e
 refine ⟨as, ea, ?_⟩
 obtain ⟨a, ha', rfl⟩ := one_of ea
 clear ea ha'
 cases a <;> first | cases e; done | skip
 rename_i j
 by_cases h : j.natAbs < 4611686018427387904
 ·have e : (if j.natAbs < 4611686018427387904 then some ((rngP 0 j.toNat).map D.int) else none) = some ds := e
  rw [if_pos h] at e; cases e; exact ⟨⟨by omega, by omega⟩, q⟩
 ·have e : (if j.natAbs < 4611686018427387904 then some ((rngP 0 j.toNat).map D.int) else none) = some ds := e
  rw [if_neg h] at e; cases e
end
theorem enumerate4 {a : Expr} {t : AF} {es : List Expr} {kk : Nat} {tp p pos : Pos} (hm : X.mg "enumerate" = none) (ha : PA4 X [a] t) (hg : Gl X "enumerate" := by rfl) (hs : starEach [a] X.env = [(false, eval a X.env)] := by rfl) : PI4 X (.Tuple es kk tp) (.Call (.Name "enumerate" p) [a] [] pos) (iEnum t) := cI (enumerate3 hm ha hg hs) fun ρ Q hq91 => by
 obtain ⟨ds, e, q⟩ := hq91
 obtain ⟨as, ea, e⟩ := bnd e
 refine ⟨as, ea, ?_⟩
 unfold enumM at e
 split at e <;> first | (cases e; exact q) | cases e
theorem compW_of {g : GEF} {t : TF} {e : EF} {ρ : DEnv} : ∀ (ds acc ys : List D) (Q : D -> Prop), compF g t e ρ ds = some ys -> acc.length + ds.length <= sizeLine -> Q (.lst (acc ++ ys)) -> compW (wGE g) (wT t) (wE e) ρ ds acc Q
 | [], acc, ys, Q, h, _, q => by
  cases h
  rw [compW]
  simpa using q
 | d :: ds, acc, ys, Q, h, hl, q => by
  rw [compW]
  obtain ⟨ρ1, e1, h⟩ := bnd h
  obtain ⟨b, e2, h⟩ := bnd h
  simp only [List.length_cons] at hl
  refine ⟨ρ1, e1, b, e2, ?_⟩
  cases b with
  | true =>
   rw [if_pos rfl] at h ⊢
   obtain ⟨y, e3, h⟩ := bnd h
   obtain ⟨zs, e4, rfl⟩ := mpd h
   exact ⟨y, e3, by omega, compW_of ds (acc ++ [y]) zs Q e4 (by simp; omega) (by simpa using q)⟩
  | false =>
   rw [if_neg Bool.false_ne_true] at h ⊢
   exact compW_of ds acc ys Q h (by omega) q
theorem comp_w {nl : Nat} {fr : List Nat} {it : AF} {g : GEF} {t : TF} {e : EF} (ρ : DEnv) (Q : D -> Prop) (w : wE (eComp nl fr it g t e) ρ Q) : wComp nl fr (wI it) (wGE g) (wT t) (wE e) ρ Q := by
 obtain ⟨d, h, q⟩ := w
 obtain ⟨ds, e1, h⟩ := bnd h
 refine ⟨ds, e1, ?_⟩
 by_cases hl : ds.length <= szL
 ·rw [if_pos hl] at h
  obtain ⟨ys, e2, rfl⟩ := mpd h
  exact compW_of ds [] ys Q e2 (by rw [sizeLine_eq, List.length_nil, Nat.zero_add]; exact hl) (by simpa using q)
 ·rw [if_neg hl] at h; cases h
abbrev PG44 (X : Cx) (nl : Nat) (tg : Expr) (g : GEF) : Prop := PG4 X nl tg (wGE g)
abbrev PIf4 (X : Cx) (ifs : List Expr) (t : TF) : Prop := PIf3 X ifs (wT t)
theorem cG {nl : Nat} {tg : Expr} {g g' : GE} (h : PG4 X nl tg g) (c : ∀ d ρ Q, g' d ρ Q -> g d ρ Q) : PG4 X nl tg g' := impG h fun _ _ _ _ hq92 => by obtain ⟨S, ρ, d, Q3, hl, fc, sl, dn, hg, k⟩ := hq92; exact ⟨S, ρ, d, Q3, hl, fc, sl, dn, c d ρ Q3 hg, k⟩
theorem bname4 {nl i : Nat} {x : Str} {pos : Pos} (nd : X.N.Nodup) (hil : i < nl) (hi : X.N[i]? = some x := by rfl) (hx : Loc X.env.scope x := by first | exact .inl rfl | exact .inr rfl) (hfx : X.fn x = true \/ X.env.scope.names.lookup x = some .local := by first | exact .inr rfl | exact .inl rfl) : PG44 X nl (.Name x pos) (g1 i) := cG (bname nd hil hi hx hfx) fun d ρ Q hq93 => by obtain ⟨ρ', e, q⟩ := hq93; cases e; exact q
theorem pair_of {d : D} {p : D × D} (h : pairM d = some p) : d = .tup [p.1, p.2] := by
 cases d <;> first | (cases h; done) | skip
 rename_i l
 cases l with
 | nil => cases h
 | cons a l =>
  cases l with
  | nil => cases h
  | cons b l =>
   cases l with
   | nil => cases h; rfl
   | cons c l => cases h
theorem noif4 : PIf4 X [] tTrue := fun pins s σ H Q I hq94 => by obtain ⟨S, ρ, Q3, fc, sl, ⟨_, e, q⟩, k⟩ := hq94; cases e; exact noif pins s σ H Q I ⟨S, ρ, Q3, fc, sl, q, k⟩
theorem oneif4 {c : Expr} {t : TF} (h : PT4 X c t) : PIf4 X [c] t := oneif h
section
variable {ls fs : List Str} {fr : List Nat} {sc : Scope} {tg iter elt : Expr} {ifs : List Expr} {pos : Pos} {it : AF} {g : GEF} {t : TF} {e : EF}
theorem comp4 (hc : X.calm = true) (hi : PI4 X tg iter it)
  (hg : ∀ cl C pn ex s H, (blk X (ls ++ fs) sc cl C pn ex s H).N.Nodup -> PG44 (blk X (ls ++ fs) sc cl C pn ex s H) ls.length tg g) (hf : ∀ cl C pn ex s H, PIf4 (blk X (ls ++ fs) sc cl C pn ex s H) ifs t) (he : ∀ cl C pn ex s H, PE4 (blk X (ls ++ fs) sc cl C pn ex s H) elt e)
  (B : chk X.env.scope.names sc X.N ls fs fr = true := by rfl) (hs : ∀ x, foldedSetIterable iter X.env x = pure x := by intro _; rfl) : PF4 X (.ListComp elt [⟨tg, iter, ifs, 0⟩] sc pos) (eComp ls.length fr it g t e) := cF (comp3 hc hi hg hf he B hs) comp_w
variable {i : Nat} {x : Str} {spos pos' : Pos}
theorem setComp4 (nd : X.N.Nodup) (hc : X.calm = true) (hi : PI4 X tg iter it)
  (hg : ∀ cl C pn ex s H, (blk X (ls ++ fs) sc cl C pn ex s H).N.Nodup -> PG44 (blk X (ls ++ fs) sc cl C pn ex s H) ls.length tg g) (hf : ∀ cl C pn ex s H, PIf4 (blk X (ls ++ fs) sc cl C pn ex s H) ifs t) (he : ∀ cl C pn ex s H, PE4 (blk X (ls ++ fs) sc cl C pn ex s H) elt e)
  (hx0 : X.N[i]? = some x := by rfl) (hx : X.env.scope.names.lookup x = some .local := by rfl) (hsw : swapsWith (.ListComp elt [⟨tg, iter, ifs, 0⟩] sc pos) (some (.Name x pos')) spos.line X.env = pure true := by rfl)
  (B : chk X.env.scope.names sc X.N ls fs fr = true := by rfl) (hs : ∀ x, foldedSetIterable iter X.env x = pure x := by intro _; rfl) : PS4 X (.Assign [.Name x pos'] (.ListComp elt [⟨tg, iter, ifs, 0⟩] sc pos) spos) (sOwn i (eComp ls.length fr it g t e)) :=
 cS (setComp3 nd hc hi hg hf he hx0 hx hsw B hs) fun E ρ w => by
  unfold wS sOwn at w
  unfold wOwn
  cases h : eComp ls.length fr it g t e (vRd ρ) with
  | none => rw [h] at w; exact w.elim
  | some d => rw [h] at w; exact comp_w _ _ ⟨d, h, w⟩
end
end
section
variable {X : Cx}
theorem cO {e : Option Expr} {t t' : WO} (h : PO3 X e t) (c : ∀ ρ Q, t' ρ Q -> t ρ Q) : PO3 X e t' := fun pins s σ H Q I hq95 => by obtain ⟨S, ρ, Q3, fc, sl, ht, k⟩ := hq95; exact h pins s σ H Q I ⟨S, ρ, Q3, fc, sl, c ρ Q3 ht, k⟩
theorem no4 : PO4 X none oNo := cO po3n fun _ _ hq96 => by obtain ⟨_, e, q⟩ := hq96; cases e; exact q
theorem po4 {e : Expr} {f : EF} (h : PE4 X e f) : PO4 X (some e) (oE f) := cO (po3 h) fun ρ Q hq97 => by
 obtain ⟨o, e, q⟩ := hq97
 obtain ⟨d, ed, e⟩ := bnd e
 obtain ⟨i, ei, rfl⟩ := mpd e
 refine ⟨d, ed, ?_⟩
 cases d <;> first | cases ei; done | skip
 cases ei; exact q
theorem sl4 {e : Expr} {lo hi : Option Expr} {p2 pos : Pos} {f : EF} {fl fh : OF} (he : PE4 X e f) (hl : PO4 X lo fl) (hh : PO4 X hi fh) : PE4 X (.Subscript e (.Slice lo hi none p2) pos) (eSl f fl fh) := cE (sl3 he hl hh) fun ρ Q hq98 => by
 obtain ⟨r, e, q⟩ := hq98
 obtain ⟨d, ed, e⟩ := bnd e
 obtain ⟨l, el, e⟩ := bnd e
 obtain ⟨h, eh, e⟩ := bnd e
 refine ⟨d, ed, l, el, h, eh, ?_⟩
 cases d <;> first | cases e; done | skip
 all_goals (cases e; exact q)
theorem px4 {e : Expr} {f : EF} (h : PE4 X e f) : PX4 X e (xPure f) := cX (px3 h) fun ρ Q hq99 => by
 obtain ⟨p, e, q⟩ := hq99
 obtain ⟨d, ed, e⟩ := bnd e
 refine ⟨d, ed, ?_⟩
 by_cases hi : d.imm = true
 ·rw [if_pos hi] at e; cases e; exact ⟨hi, q⟩
 ·rw [if_neg hi] at e; cases e
theorem pxr4 {e : Expr} {f : EF} (h : PE4 X e f) : PX4 X e (xPureR f) := cX (pxr3 h) fun ρ Q hq100 => by
 obtain ⟨p, e, q⟩ := hq100
 obtain ⟨d, ed, e⟩ := bnd e
 cases e
 exact ⟨d, ed, q⟩
theorem own_of {o : Option Sv} {ds : List D} (h : ownL o = some ds) : o = some (.ow (.lst ds)) := by
 unfold ownL at h
 split at h
 ·cases h; rfl
 ·cases h
def TellsM (f : List D -> D -> (List D -> D -> Prop) -> Prop) (m : List D -> D -> Option (List D × D)) : Prop := ∀ ds d q (Q : List D -> D -> Prop), m ds d = some q -> Q q.1 q.2 -> f ds d Q
theorem m1_w {i : Nat} {f : List D -> D -> (List D -> D -> Prop) -> Prop} {m : List D -> D -> Option (List D × D)} (h : TellsM f m) {x : XF} (ρ : SEnv) (Q : SEnv -> D -> Prop) (w : wX (xM1 i m x) ρ Q) : wM1 i f (wX x) ρ Q := by
 obtain ⟨r, e, q⟩ := w
 obtain ⟨ds0, e0, e⟩ := bnd e
 obtain ⟨p, ep, e⟩ := bnd e
 obtain ⟨ds, e1, e⟩ := bnd e
 obtain ⟨z, ez, rfl⟩ := mpd e
 have o0 := own_of e0
 have o1 := own_of e1
 refine ⟨by rw [o0]; trivial, p, ep, ?_⟩
 show (match p.1[i]? with | some (.ow (.lst ds)) => f ds p.2 fun ds' r => Q (p.1.set i (.ow (.lst ds'))) r | _ => False)
 rw [o1]
 exact h ds p.2 z _ ez q
theorem tells_app : TellsM appF appM := fun ds d q Q e k => by
 unfold appM at e
 by_cases h : ds.length < szL
 ·rw [if_pos h] at e; cases e; exact ⟨by rw [sizeLine_eq]; exact h, k⟩
 ·rw [if_neg h] at e; cases e
theorem tells_pop : TellsM popF popM := fun ds d q Q e k => by
 cases d <;> first | cases e; done | skip
 rename_i i
 have e : (if i.natAbs < 9223372036854775808 then (ixP ds.length i).bind fun j => (ds[j]?).map fun d => (ds.eraseIdx j, d) else none) = some q := e
 by_cases h : i.natAbs < 9223372036854775808
 ·rw [if_pos h] at e
  obtain ⟨j, ej, e⟩ := bnd e
  obtain ⟨d, ed, rfl⟩ := mpd e
  have ej : ixN ds.length i = some j := ej
  refine ⟨⟨by omega, by omega⟩, ?_⟩
  show (match ixN ds.length i with | some j => (match ds[j]? with | some d => Q (ds.eraseIdx j) d | none => False) | none => False)
  rw [ej]
  dsimp only
  rw [ed]
  exact k
 ·rw [if_neg h] at e; cases e
section
variable {i : Nat} {x : Str} {e : Expr} {p apos cpos : Pos} {f : XF}
theorem app4 (he : PX4 X e f) (hN : X.N[i]? = some x := by rfl) (hv : Vis X.env.scope x := by first | exact Or.inl rfl | exact Or.inr (Or.inl rfl) | exact Or.inr (Or.inr rfl)) (hd : (x == ("__debug__" : Str)) = false := by decide) (hcd : (x == ("__classdict__" : Str)) = false := by decide)
  (hbase : attributeBase (.Name x p) "append" X.env (eval (.Name x p) X.env) = eval (.Name x p) X.env := by rfl)
  (hfew : ((backTo cpos (starEach [e] X.env)).all (fun x => !x.1) && (backToKw cpos (keywordEach [] X.env)).all (fun x => x.1.isSome)
   && decide ([e].length + ([] : List Keyword).length + (if ([] : List Keyword).isEmpty then 0 else 1) < 30)) = true := by rfl)
  (hline : (apos.endLine == cpos.line) = true := by rfl) (hs : starEach [e] X.env = (false, eval e X.env) :: starEach [] X.env := by rfl) :
  PX4 X (.Call (.Attribute (.Name x p) "append" apos) [e] [] cpos) (xM1 i appM f) := cX (app3 he hN hv hd hcd hbase hfew hline hs) (m1_w tells_app)
theorem pop4 (he : PX4 X e f) (hN : X.N[i]? = some x := by rfl) (hv : Vis X.env.scope x := by first | exact Or.inl rfl | exact Or.inr (Or.inl rfl) | exact Or.inr (Or.inr rfl)) (hd : (x == ("__debug__" : Str)) = false := by decide) (hcd : (x == ("__classdict__" : Str)) = false := by decide)
  (hbase : attributeBase (.Name x p) "pop" X.env (eval (.Name x p) X.env) = eval (.Name x p) X.env := by rfl)
  (hfew : ((backTo cpos (starEach [e] X.env)).all (fun x => !x.1) && (backToKw cpos (keywordEach [] X.env)).all (fun x => x.1.isSome)
   && decide ([e].length + ([] : List Keyword).length + (if ([] : List Keyword).isEmpty then 0 else 1) < 30)) = true := by rfl)
  (hline : (apos.endLine == cpos.line) = true := by rfl) (hs : starEach [e] X.env = (false, eval e X.env) :: starEach [] X.env := by rfl) :
  PX4 X (.Call (.Attribute (.Name x p) "pop" apos) [e] [] cpos) (xM1 i popM f) := cX (pop3 he hN hv hd hcd hbase hfew hline hs) (m1_w tells_pop)
theorem pop04 (hN : X.N[i]? = some x := by rfl) (hv : Vis X.env.scope x := by first | exact Or.inl rfl | exact Or.inr (Or.inl rfl) | exact Or.inr (Or.inr rfl)) (hd : (x == ("__debug__" : Str)) = false := by decide) (hcd : (x == ("__classdict__" : Str)) = false := by decide)
  (hbase : attributeBase (.Name x p) "pop" X.env (eval (.Name x p) X.env) = eval (.Name x p) X.env := by rfl) (hline : (apos.endLine == cpos.line) = true := by rfl) :
  PX4 X (.Call (.Attribute (.Name x p) "pop" apos) [] [] cpos) (xPop0 i) := cX (pop03 hN hv hd hcd hbase hline) fun ρ Q hq101 => by
 obtain ⟨r, e, q⟩ := hq101
 obtain ⟨ds, ed, e⟩ := bnd e
 obtain ⟨d, e1, rfl⟩ := mpd e
 have o := own_of ed
 show (match ρ[i]? with | some (.ow (.lst ds)) => (match ds[ds.length - 1]? with | some d => Q (ρ.set i (.ow (.lst ds.dropLast))) d | none => False) | _ => False)
 rw [o]
 dsimp only
 rw [e1]
 exact q
end
theorem end4 : PSs4 X [] sEnd := cSs end3 fun _ _ w => w
theorem seq_w {f g : SF} (E : DE) (ρ : SEnv) (w : wS (sSeq f g) E ρ) : wSeq (wS f) (wS g) E ρ := by
 unfold wS sSeq at w
 unfold wSeq wS
 cases h : f ρ with
 | nx ρ' => rw [h] at w; exact w
 | rt d => rw [h] at w; exact w
 | no => rw [h] at w; exact w
 | ex c => rw [h] at w; exact w
theorem seq4 {st : Stmt} {rest : List Stmt} {f g : SF} (h1 : PS4 X st f) (h2 : PSs4 X rest g) : PSs4 X (st :: rest) (sSeq f g) := cSs (seq3 h1 h2) seq_w
theorem last4 {st : Stmt} {f : SF} (h1 : PS4 X st f) : PSs4 X [st] f := last3 h1
theorem ret4 {e : Expr} {f : EF} {pos : Pos} (h : PE4 X e f) : PS4 X (.Return (some e) pos) (sRet f) := cS (ret3 h) fun E ρ w => by
 unfold wS sRet at w
 cases h : f (vAll ρ) with
 | none => rw [h] at w; exact w.elim
 | some d => rw [h] at w; exact ⟨d, h, w⟩
theorem ifS4 {c : Expr} {a b : List Stmt} {pos : Pos} {t : TF} {f g : SF} (hc : PT4 X c t) (ha : PSs4 X a f) (hb : PSs4 X b g) : PS4 X (.If c a b pos) (sIf t f g) := cS (ifS3 hc ha hb) fun E ρ w => by
 unfold wS sIf at w
 cases h : t (vAll ρ) with
 | none => rw [h] at w; exact w.elim
 | some c =>
  rw [h] at w
  refine ⟨c, h, ?_⟩
  cases c with
  | true => rw [if_pos rfl]; exact w
  | false => rw [if_neg Bool.false_ne_true]; exact w
section
variable {i : Nat} {x : Str} {e : Expr} {f : EF} {pos pos' : Pos}
theorem set4 (hN : X.N.Nodup) (he : PE4 X e f) (hi : X.N[i]? = some x := by rfl) (hx : Loc X.env.scope x := by first | exact .inl rfl | exact .inr rfl) (hs : swapsWith e (some (.Name x pos')) pos.line X.env = pure false := by rfl) (hf : X.fn x = true \/ X.env.scope.names.lookup x = some .local := by first | exact .inl rfl | exact .inr rfl) :
  PS4 X (.Assign [.Name x pos'] e pos) (sSet i f) := cS (set3 hN he hi hx hs hf) fun E ρ w => by
 unfold wS sSet at w
 cases h : f (vRd ρ) with
 | none => rw [h] at w; exact w.elim
 | some d => rw [h] at w; exact ⟨d, h, w⟩
theorem own4 (hN : X.N.Nodup) (he : PF4 X e f) (hi : X.N[i]? = some x := by rfl) (hx : Loc X.env.scope x := by first | exact .inl rfl | exact .inr rfl) (hs : swapsWith e (some (.Name x pos')) pos.line X.env = pure false := by rfl) (hf : X.fn x = true \/ X.env.scope.names.lookup x = some .local := by first | exact .inl rfl | exact .inr rfl) :
  PS4 X (.Assign [.Name x pos'] e pos) (sOwn i f) := cS (own3 hN he hi hx hs hf) fun E ρ w => by
 unfold wS sOwn at w
 cases h : f (vRd ρ) with
 | none => rw [h] at w; exact w.elim
 | some d => rw [h] at w; exact ⟨d, h, w⟩
theorem ownI4 (hN : X.N.Nodup) (he : PF4 X e f) (hi : X.N[i]? = some x := by rfl) (hx : Loc X.env.scope x := by first | exact .inl rfl | exact .inr rfl) (hs : swapsWith e (some (.Name x pos')) pos.line X.env = pure false := by rfl) (hf : X.fn x = true \/ X.env.scope.names.lookup x = some .local := by first | exact .inl rfl | exact .inr rfl) :
  PS4 X (.Assign [.Name x pos'] e pos) (sOwnI i f) := cS (ownI3 hN he hi hx hs hf) fun E ρ w => by
 unfold wS sOwnI at w
 cases h : f (vAll ρ) with
 | none => rw [h] at w; exact w.elim
 | some d =>
  rw [h] at w
  dsimp only at w
  by_cases hl : lstImm d = true
  ·rw [if_pos hl] at w
   refine ⟨d, h, ?_, w⟩
   cases d <;> first | exact hl | cases hl
  ·rw [if_neg hl] at w; exact w.elim
theorem setF4 (hN : X.N.Nodup) (he : PF4 X e f) (hi : X.N[i]? = some x := by rfl) (hx : Loc X.env.scope x := by first | exact .inl rfl | exact .inr rfl) (hs : swapsWith e (some (.Name x pos')) pos.line X.env = pure false := by rfl) (hf : X.fn x = true \/ X.env.scope.names.lookup x = some .local := by first | exact .inl rfl | exact .inr rfl) :
  PS4 X (.Assign [.Name x pos'] e pos) (sSetF i f) := cS (setF3 hN he hi hx hs hf) fun E ρ w => by
 unfold wS sSetF at w
 cases h : f (vAll ρ) with
 | none => rw [h] at w; exact w.elim
 | some d =>
  rw [h] at w
  dsimp only at w
  by_cases hl : lstImm d = true
  ·rw [if_pos hl] at w
   refine ⟨d, h, ?_, w⟩
   cases d <;> first | exact hl | cases hl
  ·rw [if_neg hl] at w; exact w.elim
theorem setX4 {f : XF} (hN : X.N.Nodup) (he : PX4 X e f) (hi : X.N[i]? = some x := by rfl) (hx : Loc X.env.scope x := by first | exact .inl rfl | exact .inr rfl) (hs : swapsWith e (some (.Name x pos')) pos.line X.env = pure false := by rfl) (hf : X.fn x = true \/ X.env.scope.names.lookup x = some .local := by first | exact .inl rfl | exact .inr rfl) :
  PS4 X (.Assign [.Name x pos'] e pos) (sSetX i f) := cS (setX3 hN he hi hx hs hf) fun E ρ w => by
 unfold wS sSetX at w
 cases h : f ρ with
 | none => rw [h] at w; exact w.elim
 | some d => rw [h] at w; exact ⟨d, h, w⟩
theorem ownDict4 {p : Pos} (hN : X.N.Nodup) (hi : X.N[i]? = some x := by rfl) (hx : Loc X.env.scope x := by first | exact .inl rfl | exact .inr rfl) (hs : swapsWith (.Dict [] [] p) (some (.Name x pos')) pos.line X.env = pure false := by rfl) (hf : X.fn x = true \/ X.env.scope.names.lookup x = some .local := by first | exact .inl rfl | exact .inr rfl) :
  PS4 X (.Assign [.Name x pos'] (.Dict [] [] p) pos) (sOwnD i) := cS (ownDict3 hN hi hx hs hf) fun E ρ w => w
end
theorem expr4 {e : Expr} {f : XF} {pos : Pos} (he : PX4 X e f) (hs : swapsWith e none pos.line X.env = pure false := by rfl) : PS4 X (.Expr e pos) (sX f) := cS (expr3 he hs) fun E ρ w => by
 unfold wS sX at w
 cases h : f ρ with
 | none => rw [h] at w; exact w.elim
 | some d => rw [h] at w; exact ⟨d, h, w⟩
theorem ownDic_of {o : Option Sv} {p : List (Sum Int Str) × List D} (h : ownDic o = some p) : o = some (.ow (.dic p.1 p.2)) := by
 unfold ownDic at h
 split at h
 ·cases h; rfl
 ·cases h
theorem putN4 {i : Nat} {x : Str} {e k : Expr} {f : XF} {fk : EF} {pos pos' p : Pos} (hu : X.A.units + 1 < cLine) (he : PX4 X e f) (hk : PE4 X k fk)
  (hN : X.N[i]? = some x := by rfl) (hv : Vis X.env.scope x := by first | exact Or.inl rfl | exact Or.inr (Or.inl rfl) | exact Or.inr (Or.inr rfl)) (hd : (x == ("__debug__" : Str)) = false := by decide) (hcd : (x == ("__classdict__" : Str)) = false := by decide)
  (hs : swapsWith e (some (.Subscript (.Name x p) k pos')) pos.line X.env = pure false := by rfl) :
  PS4 X (.Assign [.Subscript (.Name x p) k pos'] e pos) (sPutN i f fk) := cS (putN3 hu he hk hN hv hd hcd hs) fun E ρ w => by
 unfold wS sPutN at w
 cases h : ((f ρ).bind fun p => (ownDic p.1[i]?).bind fun kd => (fk (vAll p.1)).bind fun kv => (keyM kv).bind fun kk =>
  if (lookM kd.1 kd.2 kk).isNone = true /\ kd.2.length < szL then some (p.1.set i (.ow (.dic (kd.1 ++ [kk]) (kd.2 ++ [p.2])))) else none) with
 | none => rw [h] at w; exact w.elim
 | some ρ' =>
  rw [h] at w
  obtain ⟨q, eq, h⟩ := bnd h
  obtain ⟨kd, ed, h⟩ := bnd h
  obtain ⟨kv, ek, h⟩ := bnd h
  obtain ⟨kk, e2, h⟩ := bnd h
  have o := ownDic_of ed
  by_cases hc : (lookM kd.1 kd.2 kk).isNone = true /\ kd.2.length < szL
  ·rw [if_pos hc] at h
   cases h
   refine ⟨q, eq, by rw [o]; trivial, kv, ek, ?_⟩
   have e3 : keyD kv = some kk := by cases kv <;> first | exact e2 | cases e2
   show (match q.1[i]?, keyD kv with
    | some (.ow (.dic ks ds)), some k => (lookD ks ds k = none /\ ds.length < sizeLine) /\ E.nx (q.1.set i (.ow (.dic (ks ++ [k]) (ds ++ [q.2]))))
    | _, _ => False)
   rw [o, e3]
   refine ⟨⟨?_, by rw [sizeLine_eq]; exact hc.2⟩, w⟩
   have := hc.1
   cases hl : lookM kd.1 kd.2 kk with
   | none => exact hl
   | some d => rw [hl] at this; cases this
  ·rw [if_neg hc] at h; cases h
theorem cGS {tg : Expr} {g g' : WG} (h : PG3 X tg g) (c : ∀ d ρ Q, g' d ρ Q -> g d ρ Q) : PG3 X tg g' := impG h fun _ _ _ _ hq102 => by obtain ⟨H₀, S, w, ρ, G, d, Q3, hl, st, dn, hg, k⟩ := hq102; exact ⟨H₀, S, w, ρ, G, d, Q3, hl, st, dn, c d ρ Q3 hg, k⟩
theorem name4 {i : Nat} {x : Str} {pos : Pos} (hN : X.N.Nodup) (hi : X.N[i]? = some x := by rfl) (hx : Loc X.env.scope x := by first | exact .inl rfl | exact .inr rfl) (hf : X.fn x = true \/ X.env.scope.names.lookup x = some .local := by first | exact .inl rfl | exact .inr rfl) : PG3 X (.Name x pos) (wG (gN1 i)) :=
 cGS (name3 hN hi hx hf) fun d ρ Q hq103 => by obtain ⟨ρ', e, q⟩ := hq103; cases e; exact q
theorem pair4 {i j : Nat} {x y : Str} {k : Nat} {pos px py : Pos} (hc : X.calm = true) (hN : X.N.Nodup) (hi : X.N[i]? = some x := by rfl) (hj : X.N[j]? = some y := by rfl) (hx : Loc X.env.scope x := by first | exact .inl rfl | exact .inr rfl) (hy : Loc X.env.scope y := by first | exact .inl rfl | exact .inr rfl)
  (hf : X.fn x = true \/ X.env.scope.names.lookup x = some .local := by first | exact .inl rfl | exact .inr rfl) (hf2 : X.fn y = true \/ X.env.scope.names.lookup y = some .local := by first | exact .inl rfl | exact .inr rfl)
  (hn : (assignEach [.Name x px, .Name y py] X.env).length = 2 := by rfl) (hst : (assignEach [.Name x px, .Name y py] X.env).findIdx? (·.1) = none := by rfl)
  (hs1 : (assignEach [.Name x px, .Name y py] X.env).map (·.2) = assign (.Name x px) X.env :: (assignEach [.Name y py] X.env).map (·.2) := by rfl) (hs2 : (assignEach [.Name y py] X.env).map (·.2) = assign (.Name y py) X.env :: (assignEach [] X.env).map (·.2) := by rfl) :
  PG3 X (.Tuple [.Name x px, .Name y py] k pos) (wG (gN2 i j)) := cGS (pair3 hc hN hi hj hx hy hf hf2 hn hst hs1 hs2) fun d ρ Q hq104 => by
 obtain ⟨ρ', e, q⟩ := hq104
 obtain ⟨p, ep, rfl⟩ := mpd e
 rw [pair_of ep]
 exact q
theorem for4 {tg iter : Expr} {body : List Stmt} {it : AF} {g : GSF} {b : SF} {pos : Pos} (hc : X.calm = true) (hp : PassesOwn (model X.prog X.w) X.A X.env X.xe) (hi : PI4 X tg iter it) (hg : PG3 X tg (wG g)) (hb : PSs4 X body b)
  (hs : ∀ x, foldedSetIterable iter X.env x = pure x := by intro _; rfl) : PS4 X (.For tg iter body [] pos) (sFor it g b) := cS (for3 hc hp hi hg hb hs) fun E ρ w => by
 unfold wS sFor at w
 cases h : it (vRd ρ) with
 | none => rw [h] at w; exact w.elim
 | some ds =>
  rw [h] at w
  refine ⟨ds, h, fun i ρ' => wS (loopF g b (ds.drop i)) E ρ', (by show wS (loopF g b (ds.drop 0)) E ρ; rw [List.drop_zero]; exact w), fun i d ρ' hd iv => ?_, fun ρ' iv => ?_⟩
  ·have hi : i < ds.length := (List.getElem?_eq_some_iff.mp hd).1
   have e1 : ds[i] = d := (List.getElem?_eq_some_iff.mp hd).2
   have iv : wS (loopF g b (ds.drop i)) E ρ' := iv
   rw [List.drop_eq_getElem_cons hi, e1] at iv
   unfold wS loopF at iv
   cases hg : g d ρ' with
   | none => rw [hg] at iv; exact iv.elim
   | some ρ1 =>
    rw [hg] at iv
    dsimp only at iv
    refine ⟨ρ1, hg, ?_⟩
    unfold wS
    cases hb : b ρ1 with
    | nx ρ2 => rw [hb] at iv; dsimp only; rw [hb]; exact iv
    | rt d => rw [hb] at iv; dsimp only; rw [hb]; exact iv
    | no => rw [hb] at iv; dsimp only; rw [hb]; exact iv
    | ex c => rw [hb] at iv; dsimp only; rw [hb]; exact iv
  ·have iv : wS (loopF g b (ds.drop ds.length)) E ρ' := iv
   rw [List.drop_length] at iv
   exact iv
theorem while4 {c : Expr} {body : List Stmt} {t : TF} {b : SF} {pos : Pos} {n : Nat} (hp : PassesOwn (model X.prog X.w) X.A X.env X.xe) (hc : PT4 X c t) (hb : PSs4 X body b) : PS4 X (.While c body [] pos) (sWhile n t b) := cS (while3 hp hc hb) fun E ρ w => by
 have least : ∀ {p : Nat -> Prop}, (∃ n, p n) -> ∃ n, p n /\ ∀ m, p m -> n <= m := fun {p} ⟨n, hn⟩ => by
  induction n using Nat.strongRecOn with
  | ind n ih =>
   by_cases h : ∃ m, m < n /\ p m
   ·obtain ⟨m, hm, pm⟩ := h; exact ih m hm pm
   ·exact ⟨n, hn, fun m pm => by
     apply Classical.byContradiction
     intro z
     exact h ⟨m, by omega, pm⟩⟩
 refine ⟨fun ρ' => ∃ m, wS (whileF t b m) E ρ', fun ρ' => (Classical.epsilon fun m => wS (whileF t b m) E ρ' /\ ∀ k, wS (whileF t b k) E ρ' -> m <= k), ⟨n, w⟩, fun ρ' iv => ?_⟩
 obtain ⟨m0, hm0⟩ := least iv
 have hm := Classical.epsilon_spec (p := fun m => wS (whileF t b m) E ρ' /\ ∀ k, wS (whileF t b k) E ρ' -> m <= k) ⟨m0, hm0⟩
 dsimp only
 generalize (Classical.epsilon fun m => wS (whileF t b m) E ρ' /\ ∀ k, wS (whileF t b k) E ρ' -> m <= k) = m at hm ⊢
 cases m with
 | zero => exact hm.1.elim
 | succ m =>
  have h1 := hm.1
  unfold wS whileF at h1
  cases ht : t (vAll ρ') with
  | none => rw [ht] at h1; exact h1.elim
  | some c =>
   rw [ht] at h1
   refine ⟨c, ht, ?_⟩
   cases c with
   | false => rw [if_neg Bool.false_ne_true]; exact h1
   | true =>
    rw [if_pos rfl]
    dsimp only at h1
    unfold wS
    cases hb : b ρ' with
    | nx ρ2 =>
     rw [hb] at h1
     have h2 : wS (whileF t b m) E ρ2 := h1
     refine ⟨⟨m, h2⟩, ?_⟩
     obtain ⟨k0, hk0⟩ := least (p := fun m => wS (whileF t b m) E ρ2) ⟨m, h2⟩
     have hk := Classical.epsilon_spec (p := fun m => wS (whileF t b m) E ρ2 /\ ∀ k, wS (whileF t b k) E ρ2 -> m <= k) ⟨k0, hk0⟩
     exact Nat.lt_succ_of_le (hk.2 m h2)
    | rt d => rw [hb] at h1; exact h1
    | no => rw [hb] at h1; exact h1
    | ex c => rw [hb] at h1; exact h1
end
theorem fun4 {P : Program} {w : World} {K : PySem.W.Frag} {mg : Str -> Option Value} {base : Heap} {x qual : Str} {st : Stmt} {f : Addr} {fd : FuncData} {N ps : List Str} {k n np : Nat} {b : SF} (F : Fun K x qual st f fd) (S : FnScope N ps (defScope st)) (hn : N.length = n) (hp : ps.length = np)
  (hbody : ∀ (cdv : Value) (A : Around) (outer : List Env) (s : Shared) (H : Hp) (E : XK), Room k (A.deeper (envOfC qual (defScope st) s.heap.objs.size f cdv)) ->
   PSs4 (cxOf CX0 P w K mg base N qual (defScope st) f cdv A outer s H E).nox (defBody st) b) : FnOk P w K mg base CX0 (k + 1) f fd ps (sp4 K (runF n np b)) := by
 subst hn hp
 refine fun3 F S (fun ds Q ⟨d, e, q⟩ => ?_) fun cdv A outer s H E hr => ⟨_, hbody cdv A outer s H E hr, fun ds Q ⟨d, e, q⟩ => ?_⟩
 ·unfold runF at e
  by_cases h : ds.length = ps.length
  ·exact h
  ·rw [if_neg h] at e; cases e
 ·unfold runF at e
  by_cases h : ds.length = ps.length
  ·rw [if_pos h] at e
   have e2 : start3 N ds = startS N.length ds := rfl
   unfold wS
   rw [e2]
   cases hb : b (startS N.length ds) with
   | rt d' => rw [hb] at e; cases e; exact q
   | nx ρ => rw [hb] at e; cases e; exact q
   | no => rw [hb] at e; cases e
   | ex c => rw [hb] at e; cases e
  ·rw [if_neg h] at e; cases e
theorem none4 {P : Program} {w : World} {K : PySem.W.Frag} {mg : Str -> Option Value} {base : Heap} {k : Nat} {f : Addr} {fd : FuncData} {ps : List Str} : FnOk P w K mg base CX0 k f fd ps (sp4 K fun _ => .no) :=
 ⟨fun _ _ _ _ h => (by obtain ⟨_, _, _, _, _, ⟨_, e, _⟩, _⟩ := h; cases e), fun _ _ _ _ _ _ _ _ _ _ _ _ _ h => (by obtain ⟨_, _, _, _, _, ⟨_, e, _⟩, _⟩ := h; cases e)⟩
section
variable {X : Cx} {pins : List (Addr × Obj)} {σ : L2.St} {H : Hp}
theorem truth_still {s : Shared} {x : V} {v : Value} {k : Bool} {A : Around} {E : Value -> Shared -> Prop} {Q : Bool -> Shared -> Prop} (I : Inv X pins σ H s) (rx : RelV x v) (e : x = .bl k \/ (∃ p xs, x = .ref p /\ (SqL X.K H p xs \/ SqT X.K H p xs) /\ k = !xs.isEmpty))
  (q : ∀ tk, Q k { s with toks := tk }) : wpAny (model X.prog X.w) A (truthy v) Q E s := by
 have hs : sizeLine = 16777216 := sizeLine_eq
 rcases e with rfl | ⟨p, xs, rfl, hx, rfl⟩
 ·cases rx
  exact wpAny_truthy_bool (q s.toks)
 ·cases rx
  rcases hx with hx | hx
  ·obtain ⟨its, r, pl, hz⟩ := I.list hx
   have hlen := r.length
   exact wpAny_truthy_list pl.isList (by simp only [List.size_toArray]; omega) (by rw [isEmpty_of r]; exact q _)
  ·obtain ⟨its, r, pl, hz⟩ := I.tuple hx
   have hlen := r.length
   exact truthy_tuple pl (by simp only [List.size_toArray]; omega) (by rw [isEmpty_of r]; exact q _)
def TrV (K : PySem.W.Frag) (H : Hp) (x : V) (k : Bool) : Prop := x = .bl k \/ (∃ p xs, x = .ref p /\ (SqL K H p xs \/ SqT K H p xs) /\ k = !xs.isEmpty)
theorem drop_here {n j : Nat} (h : j < n) : (List.range n).drop j = j :: (List.range n).drop (j + 1) := by
 have hl : j < (List.range n).length := by rw [List.length_range]; exact h
 rw [List.drop_eq_getElem_cons hl, List.getElem_range]
section
variable {it : Addr} {fp wr : List Addr} {n : Nat} {P : Nat -> Value -> Prop} {St : Nat -> Heap -> Prop} {R : Result -> Shared -> Prop} {tr : Nat -> Bool}
theorem turns_all (W : Walks X.prog X.w X.A.in1 it fp wr n P St) (hf : ∀ b ∈ wr, FpOk X pins H b) (ht : ∀ j v, P j v -> ∃ x, RelV x v /\ TrV X.K H x (tr j)) :
  ∀ (m j : Nat) (st : Shared), m + j = n -> Inv X pins σ H st -> St j st.heap -> (∀ st', Inv X pins σ H st' -> R (.ok (.ret (.bool (((List.range n).drop j).all tr)))) st') -> codeAny (model X.prog X.w) X.A (.builtin "all.loop" ⟨[.ref it], []⟩) R st
 | 0, j, st, hj, I, hS, k => by
  obtain rfl : j = n := by omega
  refine codeAny_builtin (F.entry_all_loop) ?_
  rw [Around.under_plainId F.plain_all_loop]
  refine wpAny_bind (W.done st _ _ hS fun h2 t2 kp => wpAny_bind (wpAny_rule (wpAny_pure ?_)))
  have := k _ (turnM (t' := t2) I kp hf)
  rwa [List.drop_eq_nil_of_le (by simp)] at this
 | m + 1, j, st, hj, I, hS, k => by
  have hjn : j < n := by omega
  refine codeAny_builtin (F.entry_all_loop) ?_
  rw [Around.under_plainId F.plain_all_loop]
  refine wpAny_bind (W.item j st _ _ hjn hS fun v h2 t2 pv hS2 kp => ?_)
  have I2 : Inv X pins σ H { st with heap := h2, toks := t2 } := turnM (t' := t2) I kp hf
  obtain ⟨x, rx, hx⟩ := ht j v pv
  rw [drop_here hjn, List.all_cons] at k
  refine wpAny_bind (wpAny_holding (truth_still I2 rx hx fun t3 => wpAny_bind (wpAny_letGo ?_)))
  have I3 : Inv X pins σ H { st with heap := h2, toks := t3 } := I2.tok t3
  cases hb : tr j with
  | true =>
   rw [hb, Bool.true_and] at k
   rw [if_pos rfl]
   exact wpAny_pure ⟨plainId_quiet F.plain_all_loop _, turns_all W hf ht m (j + 1) _ (by omega) I3 hS2 k⟩
  | false =>
   rw [hb, Bool.false_and] at k
   rw [if_neg Bool.false_ne_true]
   exact wpAny_bind (wpAny_rule (wpAny_pure (k _ I3)))
end
def rTrs (f : List Bool -> Bool) (K : PySem.W.Frag) : List V -> Hp -> VK -> Prop := fun xs H Q => ∃ a ys bs, xs = [.ref a] /\ H a = some (.lst ys) /\ bs.length = ys.length /\ (∀ (j : Nat) (y : V) (b : Bool), ys[j]? = some y -> bs[j]? = some b -> TrV K H y b) /\ Q (.bl (f bs)) H
theorem call_all4 (hc : X.calm = true) : CallR X (.builtin "all") (rTrs (fun bs => bs.all id) X.K) := by
 intro pins s σ H xs us Q I r h
 obtain ⟨a, ys, bs, rfl, ha, hl, ht, q⟩ := h
 obtain ⟨u, rfl, ru⟩ := vals1 r
 cases ru
 obtain ⟨its, rv, p, hz⟩ := I.list (SqL.of ha)
 have hlt : a < s.heap.objs.size := by obtain ⟨o, n, e, _⟩ := p; exact Heap.lt_size e
 have hn : its.length = ys.length := rv.length.symm
 have ht2 : ∀ j v, its.toArray[j]? = some v -> ∃ x, RelV x v /\ TrV X.K H x (bs.getD j true) := fun j v e => by
  have e1 : its[j]? = some v := by simpa using e
  have hj : j < ys.length := by have := (List.getElem?_eq_some_iff.mp e1).1; omega
  obtain ⟨u, e2, ru⟩ := rv.get (List.getElem?_eq_getElem hj)
  rw [e1] at e2
  cases e2
  refine ⟨_, ru, ht j _ _ (List.getElem?_eq_getElem hj) ?_⟩
  rw [List.getD_eq_getElem?_getD, List.getElem?_eq_getElem (by omega)]
  rfl
 refine call_function_tree (F.kind_all) F.plain_all F.entry_all (F.args_all1 _) ?_
 unfold Builtin.«all»
 refine wpAny_bind (m := oneArg "all" _) (wpAny_pure (wpAny_bind (wpAny_pyIter_list p.isList (wpAny_pure ⟨plainId_quiet F.plain_all_loop _, ?_⟩))))
 have hfr : H s.heap.objs.size = none := I.hok.fresh (Nat.le_refl _)
 have I1 : Inv X pins σ H { s with heap := s.heap.push { cls := .type "list_iterator", data := .fields #[.ref a, rawInt 0] } } := I.kept (t' := s.toks) fun b o e => Heap.get?_push_of_some _ e
 refine turns_all (X := X) (pins := pins) (σ := σ) (H := H) (tr := fun j => bs.getD j true) (Walks.list (A := X.A.in1) (show X.A.in1.handled = none from I.ok.hd hc) s.heap.objs.size a (Nat.ne_of_lt hlt) its.toArray) (fun b hb => ?_) ht2 its.toArray.size 0 _ rfl I1
  ⟨⟨_, Heap.get?_push_size _ rfl, rfl, rfl⟩, p.isList.at fun o e => Heap.get?_push_of_some _ e⟩ fun st' I' => ?_
 ·cases List.mem_singleton.mp hb
  exact I.fpOk (Nat.le_refl _) hfr
 ·refine ⟨.bl _, H, I', rfl, ?_⟩
  rw [List.drop_zero, show its.toArray.size = bs.length by simp [hn, hl], range_all]
  exact q
theorem trs_w {K : PySem.W.Frag} {S : Addr -> Prop} {H : Hp} : ∀ {es : List D} {ys : List V} {bs : List Bool}, Dns K S H es ys -> truths es = some bs -> bs.length = ys.length /\ ∀ (j : Nat) (y : V) (b : Bool), ys[j]? = some y -> bs[j]? = some b -> TrV K H y b
 | [], ys, bs, dn, h => by
  simp only [Dns] at dn
  subst dn
  cases h
  exact ⟨rfl, fun j y b e => by simp at e⟩
 | d :: es, ys, bs, dn, h => by
  obtain ⟨v, r, rfl, h1, h2⟩ := dn.uncons
  obtain ⟨b, eb, h⟩ := bnd h
  obtain ⟨bs', e2, rfl⟩ := mpd h
  obtain ⟨hl, ih⟩ := trs_w h2 e2
  refine ⟨by simp [hl], fun j y c ey ec => ?_⟩
  cases j with
  | zero =>
   simp at ey ec
   subst ey ec
   cases d <;> first | cases eb; done | skip
   ·cases eb; simp only [Dn] at h1; exact .inl h1
   ·cases eb; simp only [Dn] at h1; obtain ⟨a, xs, rfl, ha, da⟩ := h1; exact .inr ⟨a, xs, rfl, .inr ha, by rw [<- da.empty]⟩
   ·cases eb; simp only [Dn] at h1; obtain ⟨a, xs, rfl, ha, _, da⟩ := h1; exact .inr ⟨a, xs, rfl, .inl (SqL.of ha), by rw [<- da.empty]⟩
  | succ j => exact ih j y c (by simpa using ey) (by simpa using ec)
def trF (f : List Bool -> Bool) : F1
 | [.lst es], Q => ∃ bs, truths es = some bs /\ Q (.bl (f bs))
 | _, _ => False
theorem c3_trs {K : PySem.W.Frag} {f : List Bool -> Bool} : C3 K (rTrs f K) (trF f) := by
 intro S H xs ds Q3 Q fc hd hf k
 match ds, hf with
 | [.lst es], ⟨bs, eb, q⟩ =>
  obtain ⟨v, r, rfl, h1, h2⟩ := hd.uncons
  simp only [Dns] at h2
  subst h2
  simp only [Dn] at h1
  obtain ⟨a, ys, rfl, ha, sa, da⟩ := h1
  obtain ⟨hl, ht⟩ := trs_w da eb
  exact ⟨a, ys, bs, rfl, ha, hl, ht, k _ H _ (Same.refl H) (by simp only [Dn]) q⟩
theorem all4 {p pos : Pos} {e : Expr} {t : AF} (hc : X.calm = true) (hm : X.mg "all" = none) (ha : PA4 X [e] t) (hg : Gl X "all" := by rfl) (he : starEach [e] X.env = (false, eval e X.env) :: starEach [] X.env := by rfl) : PE4 X (.Call (.Name "all" p) [e] [] pos) (eCB allM t) :=
 cE (callB3 (call_all4 hc) c3_trs PyProof.Rows.boot_all hg hm ha (by decide) (by decide) he (by rfl)) (cb_w fun ds d Q e q => by
  unfold allM at e
  split at e
  ·obtain ⟨bs, eb, rfl⟩ := mpd e; exact ⟨bs, eb, q⟩
  ·cases e)
end
end L4
end
section
namespace L3
open PySem PySem.Spec PyProof.Rows L2
namespace Rv
end Rv
section
variable {prog : Program} {w : World} {A : Around} {E : Value -> Shared -> Prop} {s : Shared}
end
section
variable {X : Cx} {tg : Expr}
end
section
variable {prog : Program} {w : World} {A : Around} {E : Value -> Shared -> Prop} {s : Shared}
end
section
variable {X : Cx}
end
end L3
namespace L4
open PySem PySem.Spec PyProof.Rows L2 L3
section
variable {X : Cx} {tg : Expr}
end
end L4
end
section
namespace L4
open PySem PySem.Spec PyProof.Rows L2 L3 PySem.W
def told (lt : Nat -> Nat -> Bool) {α : Type} : KasT α -> α
 | .ret a => a
 | .ask i j k => told lt (k (lt i j))
theorem told_bind {lt : Nat -> Nat -> Bool} {α β : Type} (f : α -> KasT β) : ∀ t : KasT α, told lt (t.bind f) = told lt (f (told lt t))
 | .ret _ => rfl
 | .ask i j k => told_bind f (k (lt i j))
section
variable {lt : Nat -> Nat -> Bool}
def Up (lt : Nat -> Nat -> Bool) (p : Array Nat) (k : Nat) : Prop := ∀ i j, i < j -> j < k -> lt (p.getD j 0) (p.getD i 0) = false
def Dn' (lt : Nat -> Nat -> Bool) (p : Array Nat) (k : Nat) : Prop := ∀ i j, i < j -> j < k -> lt (p.getD i 0) (p.getD j 0) = false
structure Ord2 (lt : Nat -> Nat -> Bool) : Prop where
 as : ∀ a b, lt a b = true -> lt b a = false
 tr : ∀ a b c, lt b a = false -> lt c b = false -> lt c a = false
theorem Ord2.irr (O : Ord2 lt) (x : Nat) : lt x x = false := by
 cases hb : lt x x with
 | false => rfl
 | true => have := O.as _ _ hb; rw [hb] at this; exact this
theorem getD_of {p : Array Nat} {i : Nat} : p.getD i 0 = (p[i]?).getD 0 := by
 rw [Array.getD_eq_getD_getElem?]
theorem rev_get {p : Array Nat} {i j : Nat} (hj : j <= p.size) (k : Nat) : (kas_rev p i j).getD k 0 = if i <= k /\ k < j then p.getD (i + j - 1 - k) 0 else p.getD k 0 := by
 unfold kas_rev
 rw [getD_of, getElem?_mirror_all hj]
 split <;> rw [getD_of]
theorem rev_size (p : Array Nat) (i j : Nat) : (kas_rev p i j).size = p.size := mirror_size _ _ _ _
theorem rev_perm (p : Array Nat) (i j : Nat) : (kas_rev p i j).Perm p := mirror_perm _ _ _ _
theorem asc_ok (O : Ord2 lt) (p : Array Nat) : ∀ f n, 1 <= n -> Up lt p n -> n <= told lt (kas_asc p f n) /\ told lt (kas_asc p f n) <= n + f /\ Up lt p (told lt (kas_asc p f n)) /\ (told lt (kas_asc p f n) < n + f -> lt (p.getD (told lt (kas_asc p f n)) 0) (p.getD (told lt (kas_asc p f n) - 1) 0) = true)
 | 0, n, h1, hu => ⟨Nat.le_refl _, Nat.le_refl _, hu, fun h => absurd h (Nat.lt_irrefl _)⟩
 | f + 1, n, h1, hu => by
  show n <= told lt (if lt (p.getD n 0) (p.getD (n - 1) 0) = true then KasT.ret n else kas_asc p f (n + 1)) /\ told lt (if lt (p.getD n 0) (p.getD (n - 1) 0) = true then KasT.ret n else kas_asc p f (n + 1)) <= n + (f + 1) /\ Up lt p (told lt (if lt (p.getD n 0) (p.getD (n - 1) 0) = true then KasT.ret n else kas_asc p f (n + 1))) /\ (told lt (if lt (p.getD n 0) (p.getD (n - 1) 0) = true then KasT.ret n else kas_asc p f (n + 1)) < n + (f + 1) -> lt (p.getD (told lt (if lt (p.getD n 0) (p.getD (n - 1) 0) = true then KasT.ret n else kas_asc p f (n + 1))) 0) (p.getD (told lt (if lt (p.getD n 0) (p.getD (n - 1) 0) = true then KasT.ret n else kas_asc p f (n + 1)) - 1) 0) = true)
  cases hc : lt (p.getD n 0) (p.getD (n - 1) 0) with
  | true => exact ⟨Nat.le_refl _, by show n <= n + (f + 1); omega, hu, fun _ => hc⟩
  | false =>
   rw [if_neg Bool.false_ne_true]
   have hu2 : Up lt p (n + 1) := fun i j hij hj => by
    by_cases hj2 : j < n
    ·exact hu i j hij hj2
    ·have : j = n := by omega
     subst this
     by_cases hi : i = j - 1
     ·subst hi; exact hc
     ·exact O.tr _ _ _ (hu i (j - 1) (by omega) (by omega)) hc
   obtain ⟨a, b, c, d⟩ := asc_ok O p f (n + 1) (by omega) hu2
   exact ⟨by omega, by omega, c, fun h => d (by omega)⟩
theorem rev_up {p : Array Nat} {n : Nat} (hn : n <= p.size) (h : Dn' lt p n) : Up lt (kas_rev p 0 n) n := fun i j hij hj => by
 rw [rev_get hn, rev_get hn, if_pos ⟨by omega, hj⟩, if_pos ⟨by omega, by omega⟩]
 exact h _ _ (by omega) (by omega)
def Last (lt : Nat -> Nat -> Bool) (p : Array Nat) (n q : Nat) : Prop := q + 1 <= n /\ ∀ i j, n - (q + 1) <= i -> i < n -> n - (q + 1) <= j -> j < n -> lt (p.getD i 0) (p.getD j 0) = false
theorem rev_last {p : Array Nat} {n q : Nat} (hn : n <= p.size) (h : Dn' lt p n) (l : Last lt p n q) : Dn' lt (kas_rev p (n - (q + 1)) n) n := fun i j hij hj => by
 have := l.1
 rw [rev_get hn, rev_get hn]
 by_cases h1 : n - (q + 1) <= i
 ·rw [if_pos ⟨h1, by omega⟩, if_pos ⟨by omega, hj⟩]
  exact l.2 _ _ (by omega) (by omega) (by omega) (by omega)
 ·rw [if_neg (by omega)]
  by_cases h2 : n - (q + 1) <= j
  ·rw [if_pos ⟨h2, hj⟩]; exact h _ _ (by omega) (by omega)
  ·rw [if_neg (by omega)]; exact h i j hij hj
theorem down_more (O : Ord2 lt) {p : Array Nat} {n : Nat} (h1 : 1 <= n) (h : Dn' lt p n) (hc : lt (p.getD (n - 1) 0) (p.getD n 0) = false) : Dn' lt p (n + 1) := fun i j hij hj => by
 by_cases hj2 : j < n
 ·exact h i j hij hj2
 ·have : j = n := by omega
  subst this
  by_cases hi : i = j - 1
  ·subst hi; exact hc
  ·exact O.tr _ _ _ hc (h i (j - 1) (by omega) (by omega))
theorem last_get {p : Array Nat} {n q : Nat} (hn : n < p.size) : (kas_rev p (n - (q + 1)) n).getD n 0 = p.getD n 0 := by
 rw [rev_get (Nat.le_of_lt hn), if_neg (by omega)]
theorem desc_ok (O : Ord2 lt) : ∀ f (p : Array Nat) n q, 1 <= n -> n + f <= p.size -> Dn' lt p n -> Last lt p n q -> ∀ r, r = told lt (kas_desc f p n q) -> r.1.Perm p /\ r.2.1 <= n + f /\ n <= r.2.1 /\ Dn' lt r.1 r.2.1 /\ Last lt r.1 r.2.1 r.2.2
 | 0, p, n, q, _, _, h, l, r, er => by subst er; exact ⟨Array.Perm.refl _, Nat.le_refl _, Nat.le_refl _, h, l⟩
 | f + 1, p, n, q, h1, hs, h, l, r, er => by
  have er : r = told lt (if lt (p.getD n 0) (p.getD (n - 1) 0) = true then (if q > 0 then kas_desc f (kas_rev p (n - (q + 1)) n) (n + 1) 0 else kas_desc f p (n + 1) 0) else .ask (p.getD (n - 1) 0) (p.getD n 0) fun d => if d = true then .ret (p, n, q) else kas_desc f p (n + 1) (q + 1)) := er
  have one : ∀ p : Array Nat, Last lt p (n + 1) 0 := fun p => ⟨by omega, fun i j a b c d => by
   have e1 : i = n := by omega
   have e2 : j = n := by omega
   rw [e1, e2]; exact O.irr _⟩
  cases hc : lt (p.getD n 0) (p.getD (n - 1) 0) with
  | true =>
   rw [hc, if_pos rfl] at er
   have hc2 := O.as _ _ hc
   by_cases hq : q > 0
   ·rw [if_pos hq] at er
    have d1 := rev_last (by omega) h l
    have lq := l.1
    have d2 : Dn' lt (kas_rev p (n - (q + 1)) n) (n + 1) := by
     refine down_more O h1 d1 ?_
     rw [last_get (by omega), rev_get (by omega), if_pos ⟨by omega, by omega⟩]
     exact O.tr _ (p.getD (n - 1) 0) _ hc2 (l.2 _ _ (by omega) (by omega) (by omega) (by omega))
    obtain ⟨a, b, c, d, e⟩ := desc_ok O f (kas_rev p (n - (q + 1)) n) (n + 1) 0 (by omega) (by rw [rev_size]; omega) d2 (one _) r er
    exact ⟨a.trans (rev_perm _ _ _), by omega, by omega, d, e⟩
   ·rw [if_neg hq] at er
    obtain ⟨a, b, c, d, e⟩ := desc_ok O f p (n + 1) 0 (by omega) (by omega) (down_more O h1 h hc2) (one _) r er
    exact ⟨a, by omega, by omega, d, e⟩
  | false =>
   rw [hc, if_neg Bool.false_ne_true] at er
   have er : r = told lt (if lt (p.getD (n - 1) 0) (p.getD n 0) = true then KasT.ret (p, n, q) else kas_desc f p (n + 1) (q + 1)) := er
   cases hd : lt (p.getD (n - 1) 0) (p.getD n 0) with
   | true =>
    rw [hd, if_pos rfl] at er
    subst er
    exact ⟨Array.Perm.refl _, by show n <= n + (f + 1); omega, Nat.le_refl _, h, l⟩
   | false =>
    rw [hd, if_neg Bool.false_ne_true] at er
    have lq := l.1
    have l2 : Last lt p (n + 1) (q + 1) := ⟨by omega, fun i j a b c d => by
     by_cases hi : i < n
     ·by_cases hj : j < n
      ·exact l.2 i j (by omega) hi (by omega) hj
      ·have : j = n := by omega
       subst this
       exact O.tr _ (p.getD (j - 1) 0) _ hd (l.2 i (j - 1) (by omega) hi (by omega) (by omega))
     ·have : i = n := by omega
      subst this
      by_cases hj : j < i
      ·exact O.tr _ (p.getD (i - 1) 0) _ (l.2 (i - 1) j (by omega) (by omega) (by omega) hj) hc
      ·have : j = i := by omega
       subst this
       exact (one p).2 j j (by omega) (by omega) (by omega) (by omega)⟩
    obtain ⟨a, b, c, d, e⟩ := desc_ok O f p (n + 1) (q + 1) (by omega) (by omega) (down_more O h1 h hd) l2 r er
    exact ⟨a, by omega, by omega, d, e⟩
theorem perm_size {p q : Array Nat} (h : p.Perm q) : p.size = q.size := h.size_eq
theorem tail_ok (O : Ord2 lt) {n nrem : Nat} {p : Array Nat} (h1 : 1 <= n) (hn : n <= nrem) (hs : nrem <= p.size) (h : Dn' lt p n) (r : Nat × Array Nat) (er : r = told lt (kas_tail3 n nrem p)) : r.2.Perm p /\ 1 <= r.1 /\ r.1 <= nrem /\ Up lt r.2 r.1 := by
 unfold kas_tail3 at er
 rw [told_bind] at er
 obtain ⟨a, b, c, _⟩ := asc_ok O (kas_rev p 0 n) (nrem - n) n h1 (rev_up (by omega) h)
 subst er
 exact ⟨rev_perm _ _ _, Nat.le_trans h1 a, (by show told lt _ <= nrem; omega), c⟩
theorem descPart_ok (O : Ord2 lt) {n nrem : Nat} {p : Array Nat} (h1 : 1 <= n) (hn : n + 1 <= nrem) (hs : nrem <= p.size) (h : Dn' lt p (n + 1)) (r : Nat × Array Nat) (er : r = told lt (kas_descPart n nrem p)) : r.2.Perm p /\ 1 <= r.1 /\ r.1 <= nrem /\ Up lt r.2 r.1 := by
 unfold kas_descPart at er
 rw [told_bind] at er
 have one : Last lt p (n + 1) 0 := ⟨by omega, fun i j a b c d => by
  have e1 : i = n := by omega
  have e2 : j = n := by omega
  rw [e1, e2]; exact O.irr _⟩
 obtain ⟨a, b, c, d, e⟩ := desc_ok O (nrem - (n + 1)) p (n + 1) 0 (by omega) (by omega) h one _ rfl
 generalize told lt (kas_desc (nrem - (n + 1)) p (n + 1) 0) = z at a b c d e er
 have hz := perm_size a
 by_cases hq : z.2.2 > 0
 ·rw [if_pos hq] at er
  obtain ⟨a2, b2, c2, d2⟩ := tail_ok O (n := z.2.1) (nrem := nrem) (p := kas_rev z.1 (z.2.1 - (z.2.2 + 1)) z.2.1) (by omega) (by omega) (by rw [rev_size]; omega) (rev_last (by omega) d e) r er
  exact ⟨a2.trans ((rev_perm _ _ _).trans a), b2, c2, d2⟩
 ·rw [if_neg hq] at er
  obtain ⟨a2, b2, c2, d2⟩ := tail_ok O (n := z.2.1) (nrem := nrem) (p := z.1) (by omega) (by omega) (by omega) d r er
  exact ⟨a2.trans a, b2, c2, d2⟩
theorem count_ok (O : Ord2 lt) {n : Nat} {p : Array Nat} (h1 : 1 <= n) (hs : n <= p.size) (r : Nat × Array Nat) (er : r = told lt (kas_count n p)) : r.2.Perm p /\ 1 <= r.1 /\ r.1 <= n /\ Up lt r.2 r.1 := by
 unfold kas_count at er
 rw [told_bind] at er
 obtain ⟨a, b, c, d⟩ := asc_ok O p (n - 1) 1 (Nat.le_refl _) (fun i j hij hj => by omega)
 generalize told lt (kas_asc p (n - 1) 1) = m at a b c d er
 by_cases hm : (m == n) = true
 ·rw [if_pos hm] at er
  subst er
  exact ⟨Array.Perm.refl _, a, by show m <= n; omega, c⟩
 ·rw [if_neg hm] at er
  have hm : m ≠ n := fun e => hm (by rw [e]; simp)
  have hlt := d (by omega)
  by_cases h2 : m > 1
  ·rw [if_pos h2] at er
   have er : r = told lt (if lt (p.getD 0 0) (p.getD (m - 1) 0) = true then KasT.ret (m, p) else kas_descPart m n (kas_rev p 0 m)) := er
   cases hc : lt (p.getD 0 0) (p.getD (m - 1) 0) with
   | true =>
    rw [hc, if_pos rfl] at er
    subst er
    exact ⟨Array.Perm.refl _, a, by show m <= n; omega, c⟩
   | false =>
    rw [hc, if_neg Bool.false_ne_true] at er
    have all : ∀ i j, i < m -> j < m -> lt (p.getD i 0) (p.getD j 0) = false := fun i j hi hj => by
     have i0 : ∀ i, i < m -> lt (p.getD 0 0) (p.getD i 0) = false := fun i hi => by
      by_cases he : i = m - 1
      ·subst he; exact hc
      ·exact O.tr _ _ _ (c i (m - 1) (by omega) (by omega)) hc
     have irr : ∀ x, lt x x = false := fun x => by
      cases hb : lt x x with
      | false => rfl
      | true => have := O.as _ _ hb; rw [hb] at this; exact this
     have z0 : lt (p.getD i 0) (p.getD 0 0) = false := by
      by_cases hi0 : i = 0
      ·subst hi0; exact irr _
      ·-- a later one is not less than the first one
       exact c 0 i (by omega) hi
     exact O.tr _ _ _ (i0 j hj) z0
    have dn : Dn' lt (kas_rev p 0 m) (m + 1) := by
     refine down_more O a (fun i j hij hj => ?_) ?_
     ·rw [rev_get (by omega), rev_get (by omega), if_pos ⟨by omega, by omega⟩, if_pos ⟨by omega, by omega⟩]
      exact all _ _ (by omega) (by omega)
     ·rw [rev_get (by omega), rev_get (by omega), if_pos ⟨by omega, by omega⟩, if_neg (by omega)]
      exact O.tr _ (p.getD (m - 1) 0) _ (O.as _ _ hlt) (all _ _ (by omega) (by omega))
    obtain ⟨a2, b2, c2, d2⟩ := descPart_ok O a (by omega) (by rw [rev_size]; exact hs) dn r er
    exact ⟨a2.trans (rev_perm _ _ _), b2, c2, d2⟩
  ·rw [if_neg h2] at er
   have : m = 1 := by omega
   subst this
   have dn : Dn' lt p (1 + 1) := down_more O (Nat.le_refl _) (fun i j hij hj => by omega) (O.as _ _ hlt)
   exact descPart_ok O (Nat.le_refl _) (by omega) hs dn r er
theorem place_ok (O : Ord2 lt) (p : Array Nat) (k : Nat) : ∀ f l r, l <= r -> r <= k -> r - l <= f -> Up lt p k -> (∀ i, i < l -> lt (p.getD k 0) (p.getD i 0) = false) -> (∀ i, r <= i -> i < k -> lt (p.getD i 0) (p.getD k 0) = false) ->
  told lt (kas_place p k f l r) <= k /\ (∀ i, i < told lt (kas_place p k f l r) -> lt (p.getD k 0) (p.getD i 0) = false) /\ ∀ i, told lt (kas_place p k f l r) <= i -> i < k -> lt (p.getD i 0) (p.getD k 0) = false
 | 0, l, r, hlr, hr, hf, _, h1, h2 => by
  have : l = r := by omega
  subst this
  exact ⟨hr, h1, h2⟩
 | f + 1, l, r, hlr, hr, hf, hu, h1, h2 => by
  unfold kas_place
  by_cases hge : l >= r
  ·rw [if_pos hge]
   have : l = r := by omega
   subst this
   exact ⟨hr, h1, h2⟩
  ·rw [if_neg hge]
   show told lt (if lt (p.getD k 0) (p.getD ((l + r) / 2) 0) = true then kas_place p k f l ((l + r) / 2) else kas_place p k f ((l + r) / 2 + 1) r) <= k /\ (∀ i, i < told lt (if lt (p.getD k 0) (p.getD ((l + r) / 2) 0) = true then kas_place p k f l ((l + r) / 2) else kas_place p k f ((l + r) / 2 + 1) r) -> lt (p.getD k 0) (p.getD i 0) = false) /\ ∀ i, told lt (if lt (p.getD k 0) (p.getD ((l + r) / 2) 0) = true then kas_place p k f l ((l + r) / 2) else kas_place p k f ((l + r) / 2 + 1) r) <= i -> i < k -> lt (p.getD i 0) (p.getD k 0) = false
   cases hc : lt (p.getD k 0) (p.getD ((l + r) / 2) 0) with
   | true =>
    rw [if_pos rfl]
    refine place_ok O p k f l ((l + r) / 2) (by omega) (by omega) (by omega) hu h1 fun i hi hik => ?_
    by_cases he : i = (l + r) / 2
    ·subst he; exact O.as _ _ hc
    ·exact O.tr _ _ _ (O.as _ _ hc) (hu _ i (by omega) hik)
   | false =>
    rw [if_neg Bool.false_ne_true]
    refine place_ok O p k f ((l + r) / 2 + 1) r (by omega) hr (by omega) hu (fun i hi => ?_) h2
    by_cases he : i = (l + r) / 2
    ·subst he; exact hc
    ·exact O.tr _ _ _ (hu i ((l + r) / 2) (by omega) (by omega)) hc
theorem bub_get {p : Array Nat} {k l : Nat} (hk : k < p.size) (hl : l <= k) (i : Nat) : (bubble p k (k - l)).getD i 0 = if i = l then p.getD k 0 else if l < i /\ i <= k then p.getD (i - 1) 0 else p.getD i 0 := by
 rw [getD_of, getElem?_bubble hk _ (by omega), show k - (k - l) = l by omega]
 by_cases h1 : i = l
 ·rw [if_pos h1, if_pos h1, getD_of]
 ·rw [if_neg h1, if_neg h1]
  by_cases h2 : l < i /\ i <= k
  ·rw [if_pos h2, if_pos h2, getD_of]
  ·rw [if_neg h2, if_neg h2, getD_of]
theorem bin_ok (O : Ord2 lt) : ∀ f (p : Array Nat) k, k + f <= p.size -> Up lt p k -> (told lt (kas_bin f p k)).Perm p /\ Up lt (told lt (kas_bin f p k)) (k + f)
 | 0, p, k, _, h => ⟨Array.Perm.refl _, h⟩
 | f + 1, p, k, hs, h => by
  unfold kas_bin
  rw [told_bind]
  obtain ⟨a, b, c⟩ := place_ok O p k k 0 k (by omega) (Nat.le_refl _) (by omega) h (fun i hi => by omega) (fun i hi hik => by omega)
  generalize told lt (kas_place p k k 0 k) = l at a b c
  have hk : k < p.size := by omega
  have h2 : Up lt (bubble p k (k - l)) (k + 1) := fun i j hij hj => by
   rw [bub_get hk a, bub_get hk a]
   by_cases hjl : j = l
   ·rw [if_pos hjl, if_neg (by omega), if_neg (by omega)]; exact b i (by omega)
   ·rw [if_neg hjl]
    by_cases hj2 : l < j /\ j <= k
    ·rw [if_pos hj2]
     by_cases hil : i = l
     ·rw [if_pos hil]; exact c (j - 1) (by omega) (by omega)
     ·rw [if_neg hil]
      by_cases hi2 : l < i /\ i <= k
      ·rw [if_pos hi2]; exact h _ _ (by omega) (by omega)
      ·rw [if_neg hi2]; exact h _ _ (by omega) (by omega)
    ·rw [if_neg hj2, if_neg (by omega), if_neg (by omega)]; exact h _ _ hij (by omega)
  obtain ⟨e, g⟩ := bin_ok O f (bubble p k (k - l)) (k + 1) (by rw [bubble_size]; omega) h2
  exact ⟨e.trans (bubble_perm _ _ _), by rw [show k + (f + 1) = k + 1 + f by omega]; exact g⟩
theorem sort_ok (O : Ord2 lt) {n : Nat} (h1 : 1 <= n) : (told lt (kas_sort n)).Perm (List.toArray (List.range n)) /\ Up lt (told lt (kas_sort n)) n := by
 unfold kas_sort
 rw [told_bind]
 obtain ⟨a, b, c, d⟩ := count_ok O (n := n) (p := List.toArray (List.range n)) h1 (by simp) _ rfl
 generalize told lt (kas_count n (List.toArray (List.range n))) = r at a b c d
 have hs : r.2.size = n := by rw [perm_size a]; simp
 by_cases hr : r.1 < n
 ·rw [if_pos hr, show max r.1 1 = r.1 by omega]
  obtain ⟨e, g⟩ := bin_ok O (n - r.1) r.2 r.1 (by omega) d
  exact ⟨e.trans a, by rw [show r.1 + (n - r.1) = n by omega] at g; exact g⟩
 ·rw [if_neg hr]
  have : r.1 = n := by omega
  exact ⟨a, by rw [<- this]; exact d⟩
end
end L4
end
section
namespace L4
open PySem PySem.Spec PyProof.Rows L2 L3 PySem.W Att
section
variable {prog : Program} {w : World} {A : Around} {s : Shared} {Q : Bool -> Shared -> Prop}
theorem lex_ok : ∀ (us : List Value) (vs : List Value) (as bs : List Int) (i : Nat) (fin : Bool), (fin = decide (us.length < vs.length)) -> IntsAre us as -> IntsAre vs bs -> Q (lexI as bs) s -> KatLex prog w A true fin Q (us.zip vs) i s := by
 intro us
 induction us with
 | nil =>
  intro vs as bs i fin hf ha hb q
  cases ha
  cases hb with
  | nil => subst hf; exact q
  | cons b t' hb => subst hf; simpa [KatLex, lexI] using q
 | cons u us ih =>
  intro vs as bs i fin hf ha hb q
  cases ha with
  | cons a t ha =>
   cases hb with
   | nil => subst hf; simpa [KatLex, lexI] using q
   | cons b t' hb =>
    rename_i as vs bs
    refine kat_cons (wpAny_eqBool_int (kat_go (fun e => ?_) (fun e => ?_)))
    ·have e : a = b := by simpa using e
     refine kat_yes (ih _ _ _ (i + 1) fin (by rw [hf]; simp) ha hb ?_)
     simpa [lexI, e] using q
    ·have e : a ≠ b := by simpa using e
     have q : Q (decide (a < b)) s := by simpa [lexI, e] using q
     refine kat_no ?_
     cases hc : (true && i == 0) with
     | true => exact oneLt_int q
     | false => exact kat_one _ _ (lt_int q)
end
def Saf (n : Nat) {α : Type} : KasT α -> (α -> Prop) -> Prop
 | .ret a, Q => Q a
 | .ask i j k, Q => i < n /\ j < n /\ ∀ b, Saf n (k b) Q
theorem saf_bind {n : Nat} {α β : Type} {f : α -> KasT β} {Q : β -> Prop} : ∀ (t : KasT α), Saf n t (fun a => Saf n (f a) Q) -> Saf n (t.bind f) Q
 | .ret a, h => h
 | .ask i j k, h => ⟨h.1, h.2.1, fun b => saf_bind (k b) (h.2.2 b)⟩
def Rg (n : Nat) (p : Array Nat) : Prop := p.Perm (List.toArray (List.range n))
theorem Rg.lt {n : Nat} {p : Array Nat} (h : Rg n p) (h1 : 1 <= n) (k : Nat) : p.getD k 0 < n := by
 rw [getD_of]
 cases q : p[k]? with
 | none => exact h1
 | some x =>
  have : x ∈ p := Array.mem_of_getElem? q
  have := h.mem_iff.mp this
  simpa using this
section
variable {n : Nat}
theorem saf_asc {p : Array Nat} (h1 : 1 <= n) (h : Rg n p) {Q : Nat -> Prop} (q : ∀ m, Q m) : ∀ f m, Saf n (kas_asc p f m) Q
 | 0, m => q m
 | f + 1, m => ⟨h.lt h1 _, h.lt h1 _, fun b => by
  cases b with
  | true => exact q m
  | false => exact saf_asc h1 h q f (m + 1)⟩
theorem saf_desc (h1 : 1 <= n) {Q : Array Nat × Nat × Nat -> Prop} (q : ∀ r, Rg n r.1 -> Q r) : ∀ f p m k, Rg n p -> Saf n (kas_desc f p m k) Q
 | 0, p, m, k, h => q _ h
 | f + 1, p, m, k, h => ⟨h.lt h1 _, h.lt h1 _, fun b => by
  cases b with
  | true =>
   show Saf n (if k > 0 then _ else _) Q
   by_cases hk : k > 0
   ·rw [if_pos hk]; exact saf_desc h1 q f _ _ _ ((rev_perm _ _ _).trans h)
   ·rw [if_neg hk]; exact saf_desc h1 q f _ _ _ h
  | false => exact ⟨h.lt h1 _, h.lt h1 _, fun d => by
    cases d with
    | true => exact q _ h
    | false => exact saf_desc h1 q f _ _ _ h⟩⟩
theorem saf_tail (h1 : 1 <= n) {Q : Nat × Array Nat -> Prop} (q : ∀ r, Rg n r.2 -> Q r) {m k : Nat} {p : Array Nat} (h : Rg n p) : Saf n (kas_tail3 m k p) Q :=
 saf_bind _ (saf_asc h1 ((rev_perm _ _ _).trans h) (fun m' => q (m', kas_rev p 0 m) ((rev_perm _ _ _).trans h)) _ _)
theorem saf_descPart (h1 : 1 <= n) {Q : Nat × Array Nat -> Prop} (q : ∀ r, Rg n r.2 -> Q r) {m k : Nat} {p : Array Nat} (h : Rg n p) : Saf n (kas_descPart m k p) Q :=
 saf_bind _ (saf_desc h1 (fun r hr => by
  by_cases hk : r.2.2 > 0
  ·rw [if_pos hk]; exact saf_tail h1 q ((rev_perm _ _ _).trans hr)
  ·rw [if_neg hk]; exact saf_tail h1 q hr) _ _ _ _ h)
theorem saf_count (h1 : 1 <= n) {Q : Nat × Array Nat -> Prop} (q : ∀ r, Rg n r.2 -> Q r) {k : Nat} {p : Array Nat} (h : Rg n p) : Saf n (kas_count k p) Q :=
 saf_bind _ (saf_asc h1 h (fun m => by
  by_cases e : (m == k) = true
  ·rw [if_pos e]; exact q _ h
  ·rw [if_neg e]
   by_cases e2 : m > 1
   ·rw [if_pos e2]
    exact ⟨h.lt h1 _, h.lt h1 _, fun c => by
     cases c with
     | true => exact q _ h
     | false => exact saf_descPart h1 q ((rev_perm _ _ _).trans h)⟩
   ·rw [if_neg e2]; exact saf_descPart h1 q h) _ _)
theorem saf_place (h1 : 1 <= n) {p : Array Nat} (h : Rg n p) {Q : Nat -> Prop} (q : ∀ m, Q m) (k : Nat) : ∀ f l r, Saf n (kas_place p k f l r) Q
 | 0, l, r => q l
 | f + 1, l, r => by
  unfold kas_place
  by_cases e : l >= r
  ·rw [if_pos e]; exact q l
  ·rw [if_neg e]
   exact ⟨h.lt h1 _, h.lt h1 _, fun c => by
    cases c with
    | true => exact saf_place h1 h q k f _ _
    | false => exact saf_place h1 h q k f _ _⟩
theorem saf_bin (h1 : 1 <= n) {Q : Array Nat -> Prop} (q : ∀ p, Q p) : ∀ f p k, Rg n p -> Saf n (kas_bin f p k) Q
 | 0, p, k, h => q p
 | f + 1, p, k, h => saf_bind _ (saf_place h1 h (fun l => saf_bin h1 q f _ _ ((bubble_perm _ _ _).trans h)) k _ _ _)
theorem saf_sort (h1 : 1 <= n) {Q : Array Nat -> Prop} (q : ∀ p, Q p) : Saf n (kas_sort n) Q :=
 saf_bind _ (saf_count h1 (fun r hr => by
  by_cases e : r.1 < n
  ·rw [if_pos e]; exact saf_bin h1 q _ _ _ hr
  ·rw [if_neg e]; exact q _) (Array.Perm.refl _))
end
section
variable {X : Cx}
def tsAt (ts : List (List Int)) (i : Nat) : List Int := (ts[i]?).getD []
theorem told_wp {prog : Program} {w : World} {A : Around} {κ : SortKind} {vs : List Value} {lt : Nat -> Nat -> Bool} {s : Shared} {n : Nat} (h : ∀ i j (C : Bool -> Shared -> Prop), i < n -> j < n -> C (lt i j) s -> kas_ask prog w A κ vs i j C s) {α : Type} : ∀ (t : KasT α) (Q : α -> Shared -> Prop), Saf n t (fun _ => True) -> Q (told lt t) s -> t.kasWp (kas_ask prog w A κ vs) Q s
 | .ret a, Q, _, q => q
 | .ask i j k, Q, sf, q => h i j _ sf.1 sf.2.1 (told_wp h (k (lt i j)) Q (sf.2.2 _) q)
def rSortT (K : PySem.W.Frag) : List V -> Hp -> VK -> Prop := fun xs H Q => ∃ (a : Addr) (ps : List Addr) (ts : List (List Int)), xs = [.ref a] /\ H a = some (.lst (ps.map V.ref)) /\ ps.length = ts.length /\ 2 <= ts.length /\ ts.length < 64 /\
 (∀ (j : Nat) (p : Addr) (t : List Int), ps[j]? = some p -> ts[j]? = some t -> SqT K H p (t.map V.int) /\ t ≠ []) /\
 ∀ ix : List Nat, ix.Perm (List.range ts.length) -> (∀ i j : Nat, i < j -> j < ts.length -> lexI (tsAt ts (ix.getD j 0)) (tsAt ts (ix.getD i 0)) = false) -> ∀ q, H q = none -> Q (.ref q) (upd H q (.lst (ix.map fun i => V.ref (ps.getD i 0))))
theorem vals_refs : ∀ {ps : List Addr} {us : List Value}, Vals (ps.map V.ref) us -> us = ps.map Value.ref
 | [], _, .nil => rfl
 | p :: ps, _, .cons r t => by rw [vals_refs t]; rw [show _ = Value.ref p from r]; rfl
theorem ObjOk.live {P : Program} {w : World} {H : Hp} {h : Heap} {a : Addr} {o : HO} (x : L2.ObjOk P w H h a o) : ∃ u, h.get? a = some u := by
 cases o with
 | lst xs => obtain ⟨_, _, _, _, e⟩ := x; exact ⟨_, e⟩
 | tup xs => obtain ⟨_, _, _, _, e, _⟩ := x; exact ⟨_, e⟩
 | dK kvs => obtain ⟨_, _, _, _, o, _, _, e, _⟩ := x; exact ⟨_, e⟩
 | dT kvs => obtain ⟨_, _, _, _, o, _, _, e, _⟩ := x; exact ⟨_, e⟩
 | set S n => obtain ⟨o, _, _, _, e, _⟩ := x; exact ⟨_, e⟩
 | ins C dx fs => obtain ⟨_, _, _, e, _⟩ := x; exact ⟨_, e⟩
 | own y => obtain ⟨_, e⟩ := x; exact ⟨_, e⟩
 | xd fs => obtain ⟨_, ⟨_, _, _, e, _⟩, _⟩ := x; exact ⟨_, e⟩
 | rng lo hi => obtain ⟨_, _, _, e⟩ := x; exact ⟨_, e⟩
 | frz ob u => obtain ⟨e, _⟩ := x; exact ⟨_, e⟩
 | tbl ps => exact ⟨_, (show h.get? a = some _ from x)⟩
 | met f y => exact ⟨_, (show h.get? a = some _ from x)⟩
 | ext φ => obtain ⟨_, ⟨_, e⟩, _⟩ := x; exact ⟨_, e⟩
theorem call_sortedT : CallR X (.builtin "sorted") (rSortT X.K) := by
 intro pins s σ H xs us Q I r h
 obtain ⟨a, ps, ts, rfl, ha, hl, h2, h64, ht, q⟩ := h
 obtain ⟨u, rfl, ru⟩ := vals1 r
 cases ru
 obtain ⟨its, rv, pl, hz⟩ := I.list (SqL.of ha)
 have eits := vals_refs rv
 subst eits
 obtain ⟨m, hns, _⟩ := id I.loc
 have hL := I.lt
 have hn : (ps.map Value.ref).length = ts.length := by rw [List.length_map]; exact hl
 have tup : ∀ (j : Nat), j < ts.length -> ∃ (p : Addr) (us : List Value), ps[j]? = some p /\ IsTup s.heap p us.toArray /\ IntsAre us (tsAt ts j) /\ tsAt ts j ≠ [] /\ (ps.map Value.ref).getD j Value.none = .ref p := fun j hj => by
  obtain ⟨q1, q2⟩ := ht j ps[j] ts[j] (by simp [hl, hj]) (by simp [hj])
  obtain ⟨us, ru, pt, _⟩ := I.tuple q1
  refine ⟨ps[j], us, by simp [hl, hj], pt, ?_, ?_, by simp [hl, hj]⟩
  ·unfold tsAt; rw [List.getElem?_eq_getElem hj]; exact intsAre_of ru
  ·unfold tsAt; rw [List.getElem?_eq_getElem hj]; exact q2
 refine kat_sorted (h₀ := noObjs s.heap) (L := X.env.locals) (m := m) (news := ledger s.heap X.env.locals s.heap.objs.size) (vs := ps.map Value.ref) (fr_all hns) (fun p hp => ?_) pl.isList (by omega) (by omega) fun D e1 h' F' N' hD => ?_
 ·obtain ⟨x, o⟩ := p
  obtain ⟨n1, _, e⟩ := mem_ledger.mp hp
  exact ⟨e, n1, noObjs_get _ _⟩
 have keep' : ∀ b o, b ≠ X.env.locals -> s.heap.get? b = some o -> h'.get? b = some o := fun b o hb e =>
  (N' (b, o) (List.mem_cons_of_mem _ (mem_ledger.mpr ⟨hb, Nat.ne_of_lt (Heap.lt_size e), e⟩))).1
 have notL : ∀ {p : Addr} {us : Array Value}, IsTup s.heap p us -> p ≠ X.env.locals := fun {p us} ⟨o, e, c, n, d⟩ z => by
  subst z
  obtain ⟨o2, es, ep, e2, d2, _⟩ := hns
  rw [e] at e2
  cases e2
  rw [d] at d2
  cases d2
 -- the kind: tuples that begin with ints
 have kt : ∀ (ps' : List Addr) (fs : List Value), ps'.length = fs.length -> (∀ (j : Nat) (p : Addr) (f : Value), ps'[j]? = some p -> fs[j]? = some f -> ∃ us : Array Value, IsTup h' p us /\ us[0]? = some f) -> KatTups h' (ps'.map Value.ref) fs := by
  intro ps'
  induction ps' with
  | nil => intro fs hf _; cases fs; exact trivial; simp at hf
  | cons p ps' ih =>
   intro fs hf h
   cases fs with
   | nil => simp at hf
   | cons f fs =>
    obtain ⟨us, ⟨o, e, c, n, d⟩, u0⟩ := h 0 p f rfl rfl
    exact KatTups.cons e c d u0 (ih fs (by simpa using hf) fun j p' f' h1 h2 => h (j + 1) p' f' (by simpa using h1) (by simpa using h2))
 have heads : ∃ fs : List Value, fs.length = ps.length /\ (∀ v ∈ fs, ∃ i t, v = Value.int i t) /\ ∀ (j : Nat) (p : Addr) (f : Value), ps[j]? = some p -> fs[j]? = some f -> ∃ us : Array Value, IsTup h' p us /\ us[0]? = some f := by
  have : ∀ k, k <= ps.length -> ∃ fs : List Value, fs.length = k /\ (∀ v ∈ fs, ∃ i t, v = Value.int i t) /\ ∀ (j : Nat) (p : Addr) (f : Value), ps[j]? = some p -> fs[j]? = some f -> ∃ us : Array Value, IsTup h' p us /\ us[0]? = some f := by
   intro k
   induction k with
   | zero => intro _; exact ⟨[], rfl, fun v hv => (nomatch hv), fun j p f _ e => by simp at e⟩
   | succ k ih =>
    intro hk
    obtain ⟨fs, f1, f2, f3⟩ := ih (by omega)
    obtain ⟨p, us, hp, pt, hi, ne, _⟩ := tup k (by omega)
    obtain ⟨i, t, us', rfl⟩ : ∃ i t us', us = Value.int i t :: us' := by
     generalize tsAt ts k = w at hi ne
     cases hi with
     | nil => exact absurd rfl ne
     | cons n t r => exact ⟨n, t, _, rfl⟩
    refine ⟨fs ++ [Value.int i t], by simp [f1], fun v hv => ?_, fun j p' f' h1 h2 => ?_⟩
    ·rcases List.mem_append.mp hv with h | h
     ·exact f2 v h
     ·exact ⟨i, t, List.mem_singleton.mp h⟩
    ·by_cases hj : j < k
     ·rw [List.getElem?_append_left (by omega)] at h2; exact f3 j p' f' h1 h2
     ·have : j = k := by
       have := (List.getElem?_eq_some_iff.mp h2).1
       simp [f1] at this
       omega
      subst this
      rw [List.getElem?_append_right (by omega), f1, Nat.sub_self] at h2
      rw [hp] at h1
      cases h1
      have h2 : Value.int i t = f' := by simpa using h2
      subst h2
      obtain ⟨o, e, c⟩ := id pt
      exact ⟨_, ⟨o, keep' p o (notL pt) e, c⟩, by simp⟩
  exact this ps.length (Nat.le_refl _)
 obtain ⟨fs, f1, f2, f3⟩ := heads
 refine kat_kind (T := .type "int") (kt ps fs f1.symm f3) (by omega) (fun v hv => ?_) (by decide) ?_
 ·obtain ⟨i, t, rfl⟩ := f2 v hv
  exact Looks.of_pure rfl
 have O : Ord2 fun i j => lexI (tsAt ts i) (tsAt ts j) := ⟨fun x y a => lex_as _ _ a, fun x y z a b => lex_tr _ _ _ a b⟩
 rw [hn]
 refine told_wp (n := ts.length) (lt := fun i j => lexI (tsAt ts i) (tsAt ts j)) (fun i j C hi hj hC => ?_) _ _ (saf_sort (by omega) fun _ => trivial) ?_
 ·obtain ⟨p, us, hp, pt, hi', _, ep⟩ := tup i hi
  obtain ⟨p2, us2, hp2, pt2, hi2, _, ep2⟩ := tup j hj
  unfold kas_ask
  rw [ep, ep2, show (Value.type "int" != Value.type "tuple") = true from by decide]
  obtain ⟨o, e, c, n, d⟩ := id pt
  obtain ⟨o2, e2, c2, n2, d2⟩ := id pt2
  exact kat_lt (s := { s with heap := h' }) (keep' p o (notL pt) e) d (keep' p2 o2 (notL pt2) e2) d2 (lex_ok us us2 _ _ 0 _ rfl hi' hi2 hC)
 obtain ⟨sp, su⟩ := sort_ok O (n := ts.length) (by omega)
 generalize told (fun i j => lexI (tsAt ts i) (tsAt ts j)) (kas_sort ts.length) = pp at sp su
 refine KasFin.intro F' N' (UpdF.head fun p hp z => Nat.lt_irrefl _ (z ▸ hD p hp)) fun h'' c F'' N'' => ?_
 have nD : D ≠ X.env.locals := (N' _ (List.mem_cons_self ..)).2.1
 have dead : s.heap.get? D = none := by
  cases e : s.heap.get? D with
  | none => rfl
  | some o => exact absurd (hD (D, o) (mem_ledger.mpr ⟨nD, Nat.ne_of_lt (Heap.lt_size e), e⟩)) (Nat.lt_irrefl _)
 have keep2 : ∀ b o, b ≠ X.env.locals -> s.heap.get? b = some o -> h''.get? b = some o := fun b o hb e =>
  (N'' (b, o) (List.mem_cons_of_mem _ (mem_ledger.mpr ⟨hb, Nat.ne_of_lt (Heap.lt_size e), e⟩))).1
 have hDo := (N'' (D, _) (List.mem_cons_self ..)).1
 have hfr : H D = none := by
  cases e : H D with
  | none => rfl
  | some u =>
   obtain ⟨o, eo⟩ := ObjOk.live (I.hok D u e)
   rw [dead] at eo
   cases eo
 have neD : ∀ {b : Addr} {o : Obj}, s.heap.get? b = some o -> b ≠ D := fun {b o} e z => by rw [z, dead] at e; cases e
 have neH : ∀ {b : Addr} {u : HO}, H b = some u -> b ≠ D := fun {b u} e z => by rw [z, hfr] at e; cases e
 have hlp : pp.toList.Perm (List.range ts.length) := by simpa using sp.toList
 refine ⟨.ref D, upd H D (.lst (pp.toList.map fun i => V.ref (ps.getD i 0))), ?_, rfl, q pp.toList hlp (fun i j hij hj => ?_) D hfr⟩
 ·show L2.Inv X pins σ _ { s with heap := h'' }
  refine I.step (s := s) (h' := h'') (g' := s.gens) (t' := s.toks) (d' := s.drawn) (ch := []) (fun b hb => nomatch hb) (fun b o hb _ _ e _ => keep2 b o hb e) (fun b o hb _ _ e _ => ⟨o.slots, keep2 b o hb e⟩) (fun b o _ e n => by rw [upd_ne (neD e)]; exact n) (fun b o _ e => ?_)
   (fun b xs e => by rw [upd_ne (neH e)]; exact e) (fun b o u e => by rw [upd_ne (neH e)]; exact e) (fun b ps e => ⟨#[], by rw [upd_ne (neH e), e]; simp⟩) (fun m2 hm2 => ?_) ?_ I.bare
  ·by_cases hb : b = X.env.locals
   ·subst hb
    obtain ⟨o2, _, _, e2, _⟩ := F''.ns
    exact ⟨o2, e2⟩
   ·exact ⟨o, keep2 b o hb e⟩
  ·have : m2 = m := by
    obtain ⟨oa, ea, pa, h1, h2, _, h3⟩ := hm2
    obtain ⟨ob, eb, pb, k1, k2, _, k3⟩ := hns
    rw [h1] at k1
    cases k1
    rw [h2] at k2
    cases k2
    funext x
    rw [<- h3, <- k3]
   subst this
   exact F''.ns
  ·intro b u e
   by_cases hb : b = D
   ·subst hb
    rw [upd_same] at e
    cases e
    refine ⟨?_, pp.toList.map fun i => Value.ref (ps.getD i 0), c, ?_, hDo.trans ?_⟩
    ·rw [List.length_map, hlp.length_eq, List.length_range, sizeLine_eq]; omega
    ·have : ∀ l : List Nat, Vals (l.map fun i => V.ref (ps.getD i 0)) (l.map fun i => Value.ref (ps.getD i 0)) := fun l => by
      induction l with
      | nil => exact .nil
      | cons a l ih => exact .cons rfl ih
     exact this _
    ·have : (pp.toList.map fun i => (ps.map Value.ref).getD i Value.none) = pp.toList.map fun i => Value.ref (ps.getD i 0) := List.map_congr_left fun i hi => by
      have : i < ts.length := by simpa using hlp.mem_iff.mp hi
      simp [hl, this]
     rw [this]
   ·rw [upd_ne hb] at e
    refine (I.hok b u e).stay (fun c v hc ev => keep2 c v (fun z => ?_) ev) (fun c ec => by rw [upd_ne (neH ec)]; exact ec) fun c ys ec => by rw [upd_ne (neH ec)]; exact ec
    subst z
    rcases hc with hc | hc
    ·rw [<- hc, I.free] at e; cases e
    ·rw [I.free] at hc; cases hc
 ·have := su i j hij hj
  rw [getD_of, getD_of] at this
  simpa using this
theorem sort_one {prog : Program} {w : World} {A : Around} {E : Value -> Shared -> Prop} {s : Shared} {a : Addr} {v : Value} {n : Nat} {P : PySem.Fin -> Shared -> Prop} (ho : s.heap.get? a = some (seqObj "list" #[v] n))
  (h : P (.done (.ret .none)) { s with heap := sortedHeap s.heap a [v] #[v] }) : wpAny (model prog w) A (Builtin.«list.sort» ⟨[.ref a], []⟩) P E s := by
 rw [list_sort_plain]
 have hlt := Heap.lt_size ho
 refine wpAny_bind (listItems_at ho rfl (wpAny_bind (listUpdate_at ho rfl ?_)))
 have ho1 := get?_update_seq ho (fun _ => (#[] : Array Value))
 refine wpAny_bind (seqEpoch_at ho1 rfl (wpAny_bind (wpAny_newTuple (wpAny_bind (wpAny_newList (wpAny_holding ?_))))))
 have ho2 : (((s.heap.update a (Obj.mapSeq fun _ => (#[] : Array Value))).push (seqObj "tuple" #[v] 0)).push (seqObj "list" #[] 0)).get? a = _ := Heap.get?_push_of_some _ (Heap.get?_push_of_some _ ho1)
 show wpAny (model prog w) A _ P E { s with heap := ((s.heap.update a (Obj.mapSeq fun _ => (#[] : Array Value))).push (seqObj "tuple" #[v] 0)).push (seqObj "list" #[] 0) }
 dsimp only
 rw [if_pos (show (#[v] : Array Value).size < 2 from Nat.lt_succ_self 1), if_pos (show (#[v] : Array Value).size < 2 from Nat.lt_succ_self 1)]
 refine wpAny_bind (wpAny_pure ?_)
 rw [StateT.run_pure]
 refine wpAny_bind (wpAny_pure (wpAny_bind (seqEpoch_at ho2 rfl (wpAny_bind (listUpdate_at ho2 rfl ?_ (hsz2 := ?_))))))
 ·simp only [bne_self_eq_false, Bool.false_eq_true, if_false]
  have e : (arrOf (SortSt.mk' general' ((#[v] : Array Value).zip #[v]) #[] 7 none)).map (·.2) = #[v] := by
   show ((#[v] : Array Value).zip #[v]).map (·.2) = #[v]
   simp
  rw [e]
  exact wpAny_pure h
 ·show (((#[v] : Array Value).zip #[v]).map (·.2)).size <= sizeLine + 1
  simp
def rSort1 : List V -> Hp -> VK -> Prop := fun xs H Q => ∃ (a : Addr) (x : V), xs = [.ref a] /\ H a = some (.lst [x]) /\ ∀ q, H q = none -> Q (.ref q) (upd H q (.lst [x]))
theorem call_sorted1 : CallR X (.builtin "sorted") rSort1 := by
 intro pins s σ H xs us Q I r h
 obtain ⟨a, x, rfl, ha, q⟩ := h
 obtain ⟨u, rfl, ru⟩ := vals1 r
 cases ru
 obtain ⟨its, rv, pl, hz⟩ := I.list (SqL.of ha)
 obtain ⟨v, rfl, rx⟩ := vals1 rv
 refine Calls.call_function_entry kind_sorted plain_sorted entry_sorted (args_sorted1 (.ref a)) (show wpAny _ _ (Builtin.«sorted» _) _ _ _ from ?_)
 unfold Builtin.«sorted»
 refine wpAny_bind (m := checkCount "sorted" 1 1 _) (wpAny_pure (wpAny_bind (collect_list pl.isList (wpAny_bind (wpAny_newList ?_)))))
 have hsz : ((s.heap.push (seqObj "list" #[] 0)).update s.heap.objs.size (Obj.mapSeq (· ++ [v].toArray))).objs.size = s.heap.objs.size + 1 := by rw [Heap.size_update, size_push']
 have hoL : (((s.heap.push (seqObj "list" #[] 0)).update s.heap.objs.size (Obj.mapSeq (· ++ [v].toArray))).push (seqObj "list" [v].toArray 0)).get? (s.heap.objs.size + 1) = some (seqObj "list" #[v] 0) := by
  rw [<- hsz]
  exact Heap.get?_push_size _ rfl
 show wpAny _ _ _ _ _ { s with heap := ((s.heap.push (seqObj "list" #[] 0)).update s.heap.objs.size (Obj.mapSeq (· ++ [v].toArray))).push (seqObj "list" [v].toArray 0) }
 rw [hsz]
 refine wpAny_bind (wpAny_holding (wpAny_call_entry slot_list_sort ⟨_, hoL, rfl⟩ entry_list_sort (sort_one hoL ⟨_, rfl, ?_⟩) (args_list_sort _)))
 refine wpAny_pure ⟨.ref (s.heap.objs.size + 1), rfl, ?_⟩
 obtain ⟨e1, hat⟩ := sortedAll_at s.heap [v] #[v]
 have I1 : L2.Inv X pins σ (upd H (s.heap.objs.size + 1) (.lst [x])) { s with heap := sortedAll s.heap [v] #[v] } :=
  I.laid (t' := s.toks) (fun b o e => sortedAll_old e) (Nat.le_succ _) ⟨by rw [sizeLine_eq]; simp, [v], e1, .cons rx .nil, by simpa [seqObj] using hat⟩
 exact ⟨.ref _, _, I1, rfl, q _ (I.hok.fresh (Nat.le_succ _))⟩
end
end L4
end
section
namespace L4
open PySem PySem.Spec PyProof.Rows L2 L3
section
variable {X : Cx}
theorem call_sortedU : CallR X (.builtin "sorted") (fun xs H Q => rSort xs H Q \/ rSort1 xs H Q \/ rSortT X.K xs H Q) := by
 intro pins s σ H xs us Q I r h
 rcases h with h | h | h
 ·exact call_sorted3 pins s σ H xs us Q I r h
 ·exact call_sorted1 pins s σ H xs us Q I r h
 ·exact call_sortedT pins s σ H xs us Q I r h
def sortUF : F1
 | [.lst ds], Q => ∃ ts, tupsOf ds = some ts /\ ts.length < 64 /\ (∀ t ∈ ts, t ≠ []) /\ Q (.lst ((sortT ts).map tupD))
 | _, _ => False
theorem tupOf_of {d : D} {t : List Int} (h : tupOf d = some t) : d = tupD t := by
 cases d <;> first | cases h; done | skip
 rename_i ds
 unfold tupD
 rw [<- ints_of h]
theorem tupsOf_of : ∀ {ds : List D} {ts : List (List Int)}, tupsOf ds = some ts -> ds = ts.map tupD
 | [], ts, h => by cases h; rfl
 | d :: ds, ts, h => by
  unfold tupsOf at h
  obtain ⟨t, e1, h⟩ := bnd h
  obtain ⟨us, e2, rfl⟩ := mpd h
  rw [List.map_cons, tupOf_of e1, tupsOf_of e2]
theorem dn_tup {K : PySem.W.Frag} {S : Addr -> Prop} {H : Hp} {t : List Int} {v : V} (h : Dn K S H (tupD t) v) : ∃ p, v = .ref p /\ SqT K H p (t.map V.int) := by
 unfold tupD at h
 simp only [Dn] at h
 obtain ⟨a, xs, rfl, hl, da⟩ := h
 rw [Dns.ints.mp da] at hl
 exact ⟨a, rfl, hl⟩
theorem dns_tups {K : PySem.W.Frag} {S : Addr -> Prop} {H : Hp} : ∀ {ts : List (List Int)} {ys : List V}, Dns K S H (ts.map tupD) ys -> ∃ ps : List Addr, ys = ps.map V.ref /\ ps.length = ts.length /\ ∀ (j : Nat) (p : Addr) (t : List Int), ps[j]? = some p -> ts[j]? = some t -> SqT K H p (t.map V.int)
 | [], ys, h => by
  simp only [List.map_nil, Dns] at h
  exact ⟨[], h, rfl, fun j p t e => by simp at e⟩
 | t :: ts, ys, h => by
  obtain ⟨v, r, rfl, h1, h2⟩ := Dns.uncons h
  obtain ⟨p, rfl, hp⟩ := dn_tup h1
  obtain ⟨ps, rfl, hl, hh⟩ := dns_tups h2
  refine ⟨p :: ps, rfl, by simp [hl], fun j q u e1 e2 => ?_⟩
  cases j with
  | zero => cases e1; cases e2; exact hp
  | succ j => exact hh j q u (by simpa using e1) (by simpa using e2)
theorem map_tsAt (ts : List (List Int)) : (List.range ts.length).map (tsAt ts) = ts := by
 refine List.ext_getElem? fun i => ?_
 rw [List.getElem?_map]
 by_cases h : i < ts.length
 ·rw [List.getElem?_range h]; simp [tsAt, h]
 ·rw [List.getElem?_eq_none (by simpa using h), List.getElem?_eq_none (by simpa using h)]; rfl
theorem c3_sortU {K : PySem.W.Frag} : C3F K (fun xs H Q => rSort xs H Q \/ rSort1 xs H Q \/ rSortT K xs H Q) sortUF := by
 intro S H xs ds Q3 Q fc hd hf k
 match ds, hf with
 | [.lst es], hf =>
  obtain ⟨v, r, rfl, h1, h2⟩ := hd.uncons
  simp only [Dns] at h2
  subst h2
  simp only [Dn] at h1
  obtain ⟨a, ys, rfl, ha, sa, da⟩ := h1
  obtain ⟨ts, e, h64, hne, q⟩ := hf
  rw [tupsOf_of e] at da
  obtain ⟨ps, rfl, hl, hh⟩ := dns_tups da
  have one : ∀ (p : Addr) (t : List Int) (H' : Hp) (S' : Addr -> Prop), Same H H' -> SqT K H p (t.map V.int) -> Dn K S' H' (tupD t) (.ref p) := fun p t H' S' sm hp => by
   unfold tupD
   simp only [Dn]
   exact ⟨p, _, rfl, Same.tup sm hp, Dns.ints.mpr rfl⟩
  match ts, hl, hh, h64, hne, q with
  | [], hl, hh, h64, hne, q =>
   have : ps = [] := List.length_eq_zero_iff.mp hl
   subst this
   refine .inl ⟨a, [], rfl, ha, by decide, fun ns' hp _ p hf => ?_⟩
   have : ns' = [] := List.perm_nil.mp hp
   subst this
   exact k p [] _ [] hf upd_same (same_upd hf) (by simp only [Dns]) q
  | [t], hl, hh, h64, hne, q =>
   obtain ⟨p, rfl⟩ : ∃ p, ps = [p] := by
    match ps, hl with
    | [p], _ => exact ⟨p, rfl⟩
   exact .inr (.inl ⟨a, .ref p, rfl, ha, fun l hf => k l [.ref p] _ [tupD t] hf upd_same (same_upd hf) (Dns.one (one p t _ _ (same_upd hf) (hh 0 p t rfl rfl))) q⟩)
  | t1 :: t2 :: ts, hl, hh, h64, hne, q =>
   generalize hT : t1 :: t2 :: ts = T at *
   refine .inr (.inr ⟨a, ps, T, rfl, ha, hl, by rw [<- hT]; simp, h64, fun j p t e1 e2 => ⟨hh j p t e1 e2, hne t (List.mem_of_getElem? e2)⟩, fun ix hp hu l hf => ?_⟩)
   have hlen : ix.length = T.length := by rw [hp.length_eq, List.length_range]
   have es : sortT T = ix.map (tsAt T) := by
    refine upT_one ((sortT_perm T).trans ?_) (sortT_up T) ?_
    ·have := (hp.map (tsAt T)).symm
     rw [map_tsAt] at this
     exact this
    ·rw [UpT, List.pairwise_map, List.pairwise_iff_getElem]
     intro i j hi hj hij
     have := hu i j hij (by omega)
     simpa [hi, hj] using this
   have dn : ∀ (H' : Hp), Same H H' -> ∀ jx : List Nat, (∀ i ∈ jx, i < T.length) -> Dns K (fun x => S x /\ x ≠ l) H' (jx.map fun i => tupD (tsAt T i)) (jx.map fun i => V.ref (ps.getD i 0)) := by
    intro H' sm jx
    induction jx with
    | nil => intro _; exact Dns.nil
    | cons i jx ih =>
     intro hh2
     have hi := hh2 i List.mem_cons_self
     refine Dns.cons (one _ _ _ _ sm ?_) (ih fun x hx => hh2 x (List.mem_cons_of_mem _ hx))
     exact hh i _ _ (by simp [hl, hi]) (by simp [tsAt, hi])
   refine k l _ _ (ix.map fun i => tupD (tsAt T i)) hf upd_same (same_upd hf) (dn _ (same_upd hf) ix fun i hi => by simpa using hp.mem_iff.mp hi) ?_
   rw [es, List.map_map] at q
   exact q
theorem tells_sortU : Tells1 sortUF sortTM := fun ds d Q e q => by
 unfold sortTM at e
 split at e
 ·rename_i a
  obtain ⟨ts, e1, e⟩ := bnd e
  by_cases h : ts.length < 64 /\ ts.all (fun t => !t.isEmpty) = true
  ·rw [if_pos h] at e
   cases e
   refine ⟨ts, e1, h.1, fun t ht z => ?_, q⟩
   have := List.all_eq_true.mp h.2 t ht
   rw [z] at this
   cases this
  ·rw [if_neg h] at e; cases e
 ·cases e
theorem sortedT4 {p pos : Pos} {e : Expr} {t : AF} (hm : X.mg "sorted" = none) (ha : PA4 X [e] t) (hg : Gl X "sorted" := by rfl) (he : starEach [e] X.env = (false, eval e X.env) :: starEach [] X.env := by rfl) : PF4 X (.Call (.Name "sorted" p) [e] [] pos) (eCB sortTM t) := cF (callBF3 call_sortedU c3_sortU PyProof.Rows.boot_sorted hg hm ha (by decide) (by decide) he (by rfl)) (cb_w tells_sortU)
end
end L4
end
section
namespace L4
open PySem PySem.Spec PyProof.Rows L2 L3 PySem.SeqAt
section
variable {X : Cx} {pins : List (Addr × Obj)} {σ : L2.St} {H : Hp} {s : Shared} {S : Addr -> Prop}
open Classical in
end
end L4
end
section
namespace L4
open PySem PySem.Spec PyProof.Rows L2 L3
section
variable {X : Cx}
end
end L4
end
section
namespace L5
open PySem PySem.Spec PyProof.Rows L2 L3 L4
theorem objOk_got {P : Program} {w : World} {H : Hp} {h : Heap} {a : Addr} {o : HO} (x : ObjOk P w H h a o) : ∃ u, h.get? a = some u := by
 cases o with
 | lst xs => obtain ⟨_, _, _, _, e⟩ := x; exact ⟨_, e⟩
 | tup xs => obtain ⟨_, _, _, u, e, _⟩ := x; exact ⟨_, e⟩
 | dK kvs => obtain ⟨_, _, _, _, o, _, _, e, _⟩ := x; exact ⟨_, e⟩
 | dT kvs => obtain ⟨_, _, _, _, o, _, _, e, _⟩ := x; exact ⟨_, e⟩
 | set S n => obtain ⟨o, _, _, _, e, _⟩ := x; exact ⟨_, e⟩
 | ins C dx fs => obtain ⟨_, _, _, e, _⟩ := x; exact ⟨_, e⟩
 | own y => obtain ⟨_, e⟩ := x; exact ⟨_, e⟩
 | xd fs => obtain ⟨_, ⟨_, _, _, e, _⟩, _⟩ := x; exact ⟨_, e⟩
 | rng lo hi => obtain ⟨_, _, _, e⟩ := x; exact ⟨_, e⟩
 | frz ob u => obtain ⟨e, _⟩ := x; exact ⟨_, e⟩
 | tbl ps => exact ⟨_, (show h.get? a = some _ from x)⟩
 | met f y => exact ⟨_, (show h.get? a = some _ from x)⟩
 | ext φ => obtain ⟨_, ⟨_, e⟩, _⟩ := x; exact ⟨_, e⟩
section
variable {X : Cx} {pins : List (Addr × Obj)} {σ : L2.St} {H : Hp} {s : Shared} {h' : Heap} {e : Addr} {cls a0 : Value} {P : List Addr}
theorem flown (I : Inv X pins σ H s) (T : Thrown X pins H s e cls a0 P) (kp : ∀ b o, b ∉ P -> b ∉ frs X.stack -> s.heap.get? b = some o -> h'.get? b = some o) (us : s.heap.UpToSlots h') : Inv X pins σ H { s with heap := h' } := by
 have frame : ∀ b ∈ frs X.stack, ∃ o, s.heap.get? b = some o /\ ∀ vs, o.data ≠ .fields vs := fun b hb => (I.stack.mem hb).2
 have old : ∀ b o, X.s₀.heap.get? b = some o -> b ∉ P := fun b o q hb => by rw [T.new b hb] at q; cases q
 have notL : ∀ b o, X.s₀.heap.get? b = some o -> b ≠ X.env.locals := fun b o q => Nat.ne_of_lt (Nat.lt_of_lt_of_le (Heap.lt_size q) I.ok.above)
 have cellK : ∀ c v, s.heap.IsCell c v -> h'.IsCell c v := fun c v hq105 => by
  obtain ⟨o, ho, hd⟩ := hq105
  obtain ⟨sl, q⟩ := us c o ho fun vs z => by rw [hd] at z; cases z
  exact ⟨_, q, hd⟩
 obtain ⟨m, hn, hl⟩ := id I.loc
 refine ⟨I.ok, I.os, I.bare, ⟨fun b o eb n hb hx => ?_, fun b o eb n hb hx => ?_, I.base.free, fun b o eb hx => ?_, I.base.tups, I.base.frzs, I.base.tbls⟩, ⟨m, us.ns hn, fun i x v h1 h2 h3 => ?_⟩, fun x c ec => ?_, I.free, I.freeC, fun p hp => ?_, fun b ob eb => ?_, I.len⟩
 ·exact kp b o (old b o eb) (fun z => (List.mem_cons.mp (I.stkSub b z)).elim (notL b o eb) hb) (I.base.keep b o eb n hb hx)
 ·obtain ⟨sl, q⟩ := I.base.slot b o eb n hb hx
  obtain ⟨_, o2, e2, nf⟩ := I.ok.funs.mem hb
  rw [eb] at e2
  obtain rfl := Option.some.inj e2
  obtain ⟨sl2, q2⟩ := us b { o with slots := sl } q nf
  exact ⟨sl2, q2⟩
 ·obtain ⟨o', q⟩ := I.base.there b o eb hx
  by_cases hf : b ∈ frs X.stack
  ·obtain ⟨o2, e2, nf⟩ := frame b hf
   obtain ⟨sl, q2⟩ := us b o2 e2 nf
   exact ⟨_, q2⟩
  ·exact ⟨o', kp b o' (old b o eb) hf q⟩
 ·obtain ⟨u, r, l⟩ := hl i x v h1 h2 h3
  exact ⟨u, r, l.imp id fun ⟨k, c, ec, ic⟩ => ⟨k, c, ec, cellK _ _ ic⟩⟩
 ·obtain ⟨v, ic⟩ := I.cell x c ec
  exact ⟨v, cellK _ _ ic⟩
 ·obtain ⟨q, n, ne, nf, d⟩ := I.pin p hp
  exact ⟨kp _ _ (fun z => T.pin _ z p hp rfl) (fun z => (List.mem_cons.mp (I.stkSub _ z)).elim ne nf) q, n, ne, nf, d⟩
 ·refine (I.hok b ob eb).stay (fun c u hc q => kp c u (fun z => ?_) (fun z => ?_) q) (fun _ q => q) fun _ _ q => q
  ·have fr := T.free c z
   rcases hc with rfl | hc
   ·rw [fr] at eb; cases eb
   ·rw [fr] at hc; cases hc
  ·have fr := I.stkFree c z
   rcases hc with rfl | hc
   ·rw [fr] at eb; cases eb
   ·rw [fr] at hc; cases hc
end
def CXW (P : Program) (w : World) : CXT := fun outer H s E e s' => ∃ (ea T : Addr) (cls a0 : Value) (H' : Hp) (oe oT : Obj) (vs ts : Array Value), e = .ref ea /\ s'.os = s.os /\ AllBare s'.gens /\ Un (frs outer) [] H H' s.heap s'.heap /\ HOk P w H' s'.heap /\
 H' ea = none /\ H' T = none /\ s.heap.get? ea = none /\ s.heap.get? T = none /\ T ≠ ea /\ s'.heap.get? ea = some oe /\ (oe.cls = cls /\ vs[0]? = some a0) /\ oe.data = .fields vs /\ vs[1]? = some (.ref T) /\ s'.heap.get? T = some oT /\ oT.data = .fields ts /\ ts[3]? = some .none /\ E cls none H'
section
variable {P : Program} {w : World} {K : PySem.W.Frag} {mg : Str -> Option Value} {base : Heap} {N : List Str} {qual : Str} {scope : Scope} {f : Addr} {cd : Value} {A : Around} {outer : List Env} {s0 : Shared} {H0 : Hp} {E : XK}
theorem xe_leave {pins : List (Addr × Obj)} {σ : L2.St} {H : Hp} {s : Shared} {e : Addr} {cls a0 : Value} {Q : List Addr} (I : Inv (cxOf (CXW P w) P w K mg base N qual scope f cd A outer s0 H0 E) pins σ H s)
  (T : Thrown (cxOf (CXW P w) P w K mg base N qual scope f cd A outer s0 H0 E) pins H s e cls a0 Q) (hE : E cls none H) : (cxOf (CXW P w) P w K mg base N qual scope f cd A outer s0 H0 E).xe (.ref e) s := by
 generalize hX : cxOf (CXW P w) P w K mg base N qual scope f cd A outer s0 H0 E = X at I T
 have st : X.stack = X.env :: outer := by rw [<- hX]; rfl
 have hin : ∀ env ∈ X.stack, ∀ b, env.frame = some b -> b ∈ Q ++ frs X.stack := fun env he b hb => List.mem_append_right _ (List.mem_filterMap.mpr ⟨env, he, hb⟩)
 have stay : (PySem.W.hideAll s.heap (Q ++ frs X.stack)).StaysIn s.heap := fun b o q => PySem.W.of_hideAll _ q
 have fns : s.heap.FunFrames (PySem.W.hideAll s.heap (Q ++ frs X.stack)) X.stack := PySem.W.funFrames_hide I.stack hin
 have hen : (PySem.W.hideAll s.heap (Q ++ frs X.stack)).get? e = none := PySem.W.hideAll_none _ (List.mem_append_left _ T.mem)
 have fin : ∀ h', Heap.LeftW (PySem.W.hideAll s.heap (Q ++ frs X.stack)) X.stack e cls a0 s.heap h' -> CXW P w outer H0 s0 E (.ref e) { s with heap := h' } := fun h' hq106 => by
  obtain ⟨k1, k2, k3, k4⟩ := hq106
  have J := flown I T (fun b o n1 n2 q => k1 b o (PySem.W.hideAll_get _ q fun z => (List.mem_append.mp z).elim n1 n2)) k4
  obtain ⟨oe, vs, T2, oT, ts, he, hc, hd, h1, hnT, hTe, hT, hdT, h3⟩ := k3
  have hfr : T2 ∉ frs X.stack := fun z => by
   obtain ⟨_, o, ho, nf⟩ := I.stack.mem z
   obtain ⟨sl, q⟩ := k4 T2 o ho nf
   rw [hT] at q
   cases q
   exact nf ts hdT
  have hT2 : T2 ∈ Q \/ s.heap.get? T2 = none := by
   by_cases hq : T2 ∈ Q
   ·exact .inl hq
   ·right
    cases q : s.heap.get? T2 with
    | none => rfl
    | some o =>
     have := PySem.W.hideAll_get (Q ++ frs X.stack) q fun z => (List.mem_append.mp z).elim hq hfr
     rw [hnT] at this
     cases this
  have e1 : X.fs = frs outer := by rw [<- hX]; rfl
  have e2 : X.ex = [] := by rw [<- hX]; rfl
  have e3 : X.H₀ = H0 := by rw [<- hX]; rfl
  have e4 : X.s₀ = s0 := by rw [<- hX]; rfl
  have e5 : X.prog = P := by rw [<- hX]; rfl
  have e6 : X.w = w := by rw [<- hX]; rfl
  have b0 := J.base
  have b1 := J.hok
  have b2 := J.os
  rw [e1, e2, e3, e4] at b0
  rw [e5, e6] at b1
  rw [e4] at b2
  refine ⟨e, T2, cls, a0, H, oe, oT, vs, ts, rfl, b2, J.bare, b0, b1, T.free e T.mem, ?_, ?_, ?_, hTe, he, hc, hd, h1, hT, hdT, h3, hE⟩
  ·rcases hT2 with z | z
   ·exact T.free _ z
   ·cases q : H T2 with
    | none => rfl
    | some o =>
     obtain ⟨u, eu⟩ := objOk_got (I.hok _ _ q)
     rw [z] at eu; cases eu
  ·rw [<- e4]; exact T.new e T.mem
  ·rcases hT2 with z | z
   ·rw [<- e4]; exact T.new _ z
   ·cases q : s0.heap.get? T2 with
    | none => rfl
    | some o =>
     have tb := I.base.there T2 o (by rw [e4]; exact q) (by rw [e2]; simp)
     obtain ⟨o', eo⟩ := tb
     rw [z] at eo; cases eo
 have go : wpAny (model P w) X.A (leaving X.env (.ref e)) (fun _ s'' => CXW P w outer H0 s0 E (.ref e) s'') (fun e' s'' => CXW P w outer H0 s0 E e' s'') s := by
  have hfr := I.ok.frames
  have hf : X.env.frame = some X.env.locals := by rw [<- hX]; rfl
  rw [st] at hfr
  rw [st] at fns fin hen stay
  rcases T.tr with ⟨oe, vs, he, hc, hd, h1, h0⟩ | ⟨oe, vs, T2, oT, ts, he, hc, hd, h1, hm, hTe, hT, hdT, h3⟩
  ·subst hc
   exact wpAny_leaving_firstW hfr fns hf he stay hen hd h1 h0 fun h' L => fin h' L
  ·refine wpAny_leaving_nextW hfr fns hf ⟨oe, vs, T2, oT, ts, he, hc, hd, h1, PySem.W.hideAll_none _ (List.mem_append_left _ hm), hTe, hT, hdT, h3⟩ stay hen fun h' L => fin h' L
 rw [<- hX] at go ⊢
 exact go
end
theorem thrown_call {X : Cx} {pins : List (Addr × Obj)} {σ : L2.St} {H : Hp} {s s' : Shared} {E : XK} {e : Value} (hx : X.ex = []) (I : Inv X pins σ H s) (c : CXW X.prog X.w X.stack H s E e s') :
  ∃ ea cls a0 H' Q, e = .ref ea /\ Inv X pins σ H' s' /\ Thrown X pins H' s' ea cls a0 Q /\ E cls none H' := by
 obtain ⟨ea, T, cls, a0, H', oe, oT, vs, ts, rfl, os, bare, un, hok, n1, n2, g1, g2, hTe, he, hc, hd, h1, hT, hdT, h3, hE⟩ := c
 have J : Inv X pins σ H' s' := I.call' (ch := []) os un hok bare fun b z => absurd z (by simp)
 have no : ∀ q, q ∈ [ea, T] -> s.heap.get? q = none := fun q hq => by
  rcases List.mem_cons.1 hq with rfl | hq
  ·exact g1
  ·rw [List.mem_singleton.mp hq]; exact g2
 refine ⟨ea, cls, a0, H', [ea, T], rfl, J, ⟨List.mem_cons_self, fun q hq => ?_, fun q hq => ?_, fun q hq => ?_, fun q hq p hp z => ?_, .inr ⟨oe, vs, T, oT, ts, he, hc, hd, h1, by simp, hTe, hT, hdT, h3⟩⟩, hE⟩
 ·rcases List.mem_cons.1 hq with rfl | hq
  ·exact n1
  ·rw [List.mem_singleton.mp hq]; exact n2
 ·cases k : X.s₀.heap.get? q with
  | none => rfl
  | some o =>
   obtain ⟨o', eo⟩ := I.base.there q o k (by rw [hx]; simp)
   rw [no q hq] at eo; cases eo
 ·rcases List.mem_cons.1 hq with rfl | hq
  ·exact ⟨oe, vs, he, hd⟩
  ·rw [List.mem_singleton.mp hq]; exact ⟨oT, ts, hT, hdT⟩
 ·have := (I.pin p hp).1
  rw [z, no q hq] at this; cases this
def sp5 (K : PySem.W.Frag) (mg : Str -> Option Value) (R : FnF) : Sp := fun vs H Q E => ∃ (S : Addr -> Prop) (ds : List D), (∀ a, H a = none -> S a) /\ Dns K S H ds vs /\ match R ds with
 | .ok d => ∀ v H', Same H H' -> Dn K S H' d v -> Q v H'
 | .ex c => ∃ C : Addr, mg c = some (.ref C) /\ ∀ H', Same H H' -> E (.ref C) none H'
 | .no => False
theorem fun5 {P : Program} {w : World} {K : PySem.W.Frag} {mg : Str -> Option Value} {base : Heap} {x qual : Str} {st : Stmt} {f : Addr} {fd : FuncData} {N ps : List Str} {k n np : Nat} {b : SF} (F : Fun K x qual st f fd) (S : FnScope N ps (defScope st)) (hn : N.length = n) (hp : ps.length = np)
  (hbody : ∀ (cdv : Value) (A : Around) (outer : List Env) (s : Shared) (H : Hp) (E : XK), Room k (A.deeper (envOfC qual (defScope st) s.heap.objs.size f cdv)) ->
   PSs4 (cxOf (CXW P w) P w K mg base N qual (defScope st) f cdv A outer s H E) (defBody st) b) : FnOk P w K mg base (CXW P w) (k + 1) f fd ps (sp5 K mg (runF n np b)) := by
 subst hn hp
 obtain ⟨oc, od, kV, doc, pm, an, cdv, ct, osl, rfl, lk, hcd⟩ := F.ex
 have hlen : ∀ ds : List D, runF N.length ps.length b ds ≠ .no -> ds.length = ps.length := fun ds h => by
  by_cases e : ds.length = ps.length
  ·exact e
  ·exact absurd (show runF N.length ps.length b ds = .no by unfold runF; rw [if_neg e]) h
 refine fn_of lk hcd S (fun vs H Q E h => ?_) fun A outer s H vs Q E hr h => ?_
 ·obtain ⟨S', ds, _, dn, hR⟩ := h
  rw [<- dn.len]
  exact hlen ds fun z => by rw [z] at hR; exact hR
 ·obtain ⟨S', ds, fc, dn, hR⟩ := h
  have hl : ds.length = ps.length := hlen ds fun z => by rw [z] at hR; exact hR
  have hdn := dn.len
  refine ⟨_, hbody cdv A outer s H E hr, H, S', fun _ => 0, start3 N ds, [], { nx := fun _ => runF N.length ps.length b ds = .ok .non, rt := fun d => runF N.length ps.length b ds = .ok d, ex := fun c => runF N.length ps.length b ds = .ex c }, ?_, start_st fc dn, ?_, ⟨fun w' σ' H' ρ' _ st' q => ?_, fun v H' d s' d' q => ?_, fun _ _ _ _ _ _ q => q, fun _ _ _ _ _ _ q => q, fun c H' sm q => ?_⟩⟩
  ·have hp : ps.length <= N.length := by have := congrArg List.length S.pre; rw [List.length_take] at this; omega
   unfold L2.start
   show _ = N.length
   rw [List.length_append, List.length_map, List.length_replicate]
   omega
  ·have e2 : start3 N ds = startS N.length ds := rfl
   have e3 : runF N.length ps.length b ds = (match b (startS N.length ds) with | .rt d => .ok d | .nx _ => .ok .non | .ex c => .ex c | .no => .no) := by unfold runF; rw [if_pos hl] <;> cases b (startS N.length ds) <;> rfl
   rw [e3] at hR
   unfold wS
   rw [e2]
   cases hb : b (startS N.length ds) with
   | rt d' => rw [hb] at e3; exact e3
   | nx ρ => rw [hb] at e3; exact e3
   | ex c => rw [hb] at e3; exact e3
   | no => rw [hb] at hR; exact hR
  ·rw [q] at hR
   exact hR .non H' st'.sm (by simp only [Dn])
  ·rw [q] at hR
   exact hR v H' s' d'
  ·rw [q] at hR
   obtain ⟨C, hm, hE⟩ := hR
   exact ⟨C, hm, fun pins σ s' e a0 P I T => xe_leave I T (hE H' sm)⟩
section
variable {X : Cx} {k : Nat} {f : Addr} {fd : FuncData} {ps : List Str} {R : FnF} {x : Str} {p pos : Pos} {e : Expr} {es : List Expr} {t : AF}
theorem call5 (F : FnOk X.prog X.w X.K X.mg X.base (CXW X.prog X.w) k f fd ps (sp5 X.K X.mg R)) (hr : Room k X.A) (hm : X.mg x = some (.ref f)) (hk : PySem.W.keepIn X.K (.ref f) = true) (hb : Binds X.K fd ps [])
  (ha : PA4 X (e :: es) t) (hg : Gl X x := by rfl) (hdb : (x == ("__debug__" : Str)) = false := by decide) (he : starEach (e :: es) X.env = (false, eval e X.env) :: starEach es X.env := by rfl) (hpl : (backTo pos (starEach es X.env)).any (·.1) = false := by rfl) :
  PE4 X (.Call (.Name x p) (e :: es) [] pos) (eCall R t) := imp (pe_call (E := E0) F hr hg hm hk hb .nil (fun pins σ H s e s' _ c => by obtain ⟨_, _, _, _, _, _, _, _, _, _, _, _, _, _, _, _, _, _, _, _, _, _, _, _, _, _, hE⟩ := c; exact hE.elim) ha hdb he hpl) fun σ H Q hq107 => by
 obtain ⟨S, ρ, Q3, fc, sl, ⟨d, ed, q3⟩, k⟩ := hq107
 obtain ⟨ds, et, ed⟩ := bnd ed
 refine ⟨S, ρ, fun z => z = ds, fc, sl, ⟨ds, et, rfl⟩, fun vs H1 ds' s1 d1 q1 => ?_⟩
 subst q1
 show sp5 X.K X.mg R (vs ++ []) H1 Q E0
 rw [List.append_nil]
 refine ⟨S, ds', fc_same fc s1, d1, ?_⟩
 cases h : R ds' with
 | ok d' => rw [h] at ed; cases ed; exact fun v H' s' d' => k v H' _ (s1.trans s') d' q3
 | no => rw [h] at ed; cases ed
 | ex c => rw [h] at ed; cases ed
def tR (X : Cx) (r : RF) : TE := fun σ H _ => ∃ (S : Addr -> Prop) (ρ : DEnv) (c : Str), (∀ a, H a = none -> S a) /\ Sl X.K S H ρ σ /\ r ρ = some c /\ ∀ H', Same H H' -> XC X c H'
def PR (X : Cx) (e : Expr) (r : RF) : Prop := PE X e (tR X r)
theorem callR5 (hx : X.ex = []) (F : FnOk X.prog X.w X.K X.mg X.base (CXW X.prog X.w) k f fd ps (sp5 X.K X.mg R)) (hr : Room k X.A) (hm : X.mg x = some (.ref f)) (hk : PySem.W.keepIn X.K (.ref f) = true) (hb : Binds X.K fd ps [])
  (ha : PA4 X (e :: es) t) (hg : Gl X x := by rfl) (hdb : (x == ("__debug__" : Str)) = false := by decide) (he : starEach (e :: es) X.env = (false, eval e X.env) :: starEach es X.env := by rfl) (hpl : (backTo pos (starEach es X.env)).any (·.1) = false := by rfl) :
  PR X (.Call (.Name x p) (e :: es) [] pos) (rCall R t) := imp (pe_call (E := fun cls _ H' => ∃ c C, cls = .ref C /\ X.mg c = some (.ref C) /\ XC X c H') F hr hg hm hk hb .nil (fun pins σ H s e s' I c => by
   obtain ⟨ea, cls, a0, H', Q, rfl, J, T, c, C, rfl, hmc, C2, hm2, xc⟩ := thrown_call hx I c
   rw [hmc] at hm2
   cases hm2
   exact xc pins σ s' ea a0 Q J T) ha hdb he hpl) fun σ H Q hq108 => by
 obtain ⟨S, ρ, c, fc, sl, ec, k⟩ := hq108
 obtain ⟨ds, et, ed⟩ := bnd ec
 refine ⟨S, ρ, fun z => z = ds, fc, sl, ⟨ds, et, rfl⟩, fun vs H1 ds' s1 d1 q1 => ?_⟩
 subst q1
 rw [List.append_nil]
 refine ⟨S, ds', fc_same fc s1, d1, ?_⟩
 cases h : R ds' with
 | ex c' =>
  rw [h] at ed
  cases ed
  obtain ⟨C, hmC, _⟩ := k H1 s1
  exact ⟨C, hmC, fun H' sm => ⟨c, C, rfl, hmC, k H' (s1.trans sm)⟩⟩
 | ok d => rw [h] at ed; cases ed
 | no => rw [h] at ed; cases ed
theorem pe_or2 {e : Expr} {t u : TE} (h1 : PE X e t) (h2 : PE X e u) : PE X e (fun σ H Q => t σ H Q \/ u σ H Q) := fun pins s σ H Q I h => h.elim (h1 pins s σ H Q I) (h2 pins s σ H Q I)
theorem retR5 {e : Expr} {f : EF} {r : RF} {pos : Pos} (h : PE4 X e f) (hr : PR X e r) : PS4 X (.Return (some e) pos) (sThr r (sRet f)) := impS (ps_ret (pe_or2 hr h)) fun B σ H hq109 => by
 obtain ⟨H₀, S, w, ρ, G, E, hl, st, ht, ok⟩ := hq109
 unfold wS sThr at ht
 cases hc : r (vAll ρ) with
 | some c =>
  rw [hc] at ht
  exact .inl ⟨S, vAll ρ, c, st.fcH, st.all, hc, fun H' sm => ok.ex c H' (st.sm.trans sm) ht⟩
 | none =>
  rw [hc] at ht
  dsimp only at ht
  unfold sRet at ht
  cases hf : f (vAll ρ) with
  | none => rw [hf] at ht; exact ht.elim
  | some d =>
   rw [hf] at ht
   exact .inr ⟨S, vAll ρ, _, st.fcH, st.all, ⟨d, hf, ht⟩, fun v H' d s' d' q' => ok.rt v H' d (st.sm.trans s') d' q'⟩
theorem setR5 {i : Nat} {x : Str} {e : Expr} {f : EF} {r : RF} {pos pos' : Pos} (hN : X.N.Nodup) (h : PE4 X e f) (hr : PR X e r) (hi : X.N[i]? = some x := by rfl) (hx : Loc X.env.scope x := by first | exact .inl rfl | exact .inr rfl) (hs : swapsWith e (some (.Name x pos')) pos.line X.env = pure false := by rfl) (hf : X.fn x = true \/ X.env.scope.names.lookup x = some .local := by first | exact .inl rfl | exact .inr rfl) :
  PS4 X (.Assign [.Name x pos'] e pos) (sThr r (sSet i f)) := impS (ps_set hN hi hx (pe_or2 hr h) hs hf) fun B σ H hq110 => by
 obtain ⟨H₀, S, w, ρ, G, E, hl, st, ht, ok⟩ := hq110
 unfold wS sThr at ht
 cases hc : r (vAll ρ) with
 | some c =>
  rw [hc] at ht
  exact .inl ⟨S, vAll ρ, c, st.fcH, st.all, hc, fun H' sm => ok.ex c H' (st.sm.trans sm) ht⟩
 | none =>
  rw [hc] at ht
  dsimp only at ht
  unfold sSet at ht
  cases hf : f (vRd ρ) with
  | none => rw [hf] at ht; exact ht.elim
  | some d =>
   rw [hf] at ht
   exact .inr ⟨_, vRd ρ, _, st.fcO, st.rd, ⟨d, hf, ht⟩, fun v H' d s' d' q' => ok.nx w _ H' _ (by rw [List.length_set]; exact hl) ((st.same s').set_ro (by rw [hl]; exact ix_lt hi) d') q'⟩
theorem exprR5 {e : Expr} {f : EF} {r : RF} {pos : Pos} (h : PE4 X e f) (hr : PR X e r) (hs : swapsWith e none pos.line X.env = pure false := by rfl) : PS4 X (.Expr e pos) (sThr r (sX (xPureR f))) := impS (ps_expr (pe_or2 hr h) hs) fun B σ H hq111 => by
 obtain ⟨H₀, S, w, ρ, G, E, hl, st, ht, ok⟩ := hq111
 unfold wS sThr at ht
 cases hc : r (vAll ρ) with
 | some c =>
  rw [hc] at ht
  exact .inl ⟨S, vAll ρ, c, st.fcH, st.all, hc, fun H' sm => ok.ex c H' (st.sm.trans sm) ht⟩
 | none =>
  rw [hc] at ht
  dsimp only at ht
  unfold sX xPureR at ht
  cases hf : f (vRd ρ) with
  | none => rw [hf] at ht; exact ht.elim
  | some d =>
   rw [hf] at ht
   exact .inr ⟨_, vRd ρ, _, st.fcO, st.rd, ⟨d, hf, ht⟩, fun v H' d s' d' q' => ok.nx w σ H' ρ hl (st.same s') q'⟩
end
abbrev bmV : List Value := [.type "ValueError", .type "Exception", .type "BaseException", .type "object"]
structure ExcC (K : PySem.W.Frag) (C : Addr) : Prop where
 ex : ∃ nm q N bs bm hdct sn sub ab col dd k0 k1 k2 k3 k5, K.lookup C = some (excClassObj nm q C N bs bm hdct sn sub ab col dd k0 k1 k2 k3 k5 "ValueError.__new__") /\ PySem.W.tailIn K bmV bm = true /\ PySem.W.nsOkIn K N = true /\ PySem.W.nsIn K N "__init__" = some none
section
variable {X : Cx}
theorem raise5 {c : Str} {C : Addr} {e : Expr} {es : List Expr} {t : AF} {np cpos pos : Pos} (hx : X.ex = []) (hcalm : X.calm = true) (hm : X.mg c = some (.ref C)) (hC : ExcC X.K C) (ha : PA4 X (e :: es) t) (hg : Gl X c := by rfl) (hd : (c == ("__debug__" : Str)) = false := by decide)
  (he : starEach (e :: es) X.env = (false, eval e X.env) :: starEach es X.env := by rfl) (hpl : (backTo cpos (starEach es X.env)).any (·.1) = false := by rfl) :
  PS4 X (.Raise (some (.Call (.Name c np) (e :: es) [] cpos)) none pos) (sRaiseA t c) := by
 intro pins s σ H B I ⟨H₀, S, w, ρ, G, E, hl, st, ht, ok⟩
 unfold wS sRaiseA at ht
 cases et : t (vAll ρ) with
 | none => rw [et] at ht; exact ht.elim
 | some ds =>
  rw [et] at ht
  dsimp only at ht
  by_cases h10 : ds.length <= 10
  ·rw [if_pos h10] at ht
   obtain ⟨nm, q, N, bs, bm, hdct, sn, sub, ab, col, dd, k0, k1, k2, k3, k5, lk, tl, no, ni⟩ := hC.ex
   refine wpAny_Raise_call_subT (C := C) (nm := nm) (q := q) (N := N) (bs := bs) (bm := bm) (hdct := hdct) (sn := sn) (sub := sub) (ab := ab) (col := col) (dd := dd) (k0 := k0) (k1 := k1) (k2 := k2) (k3 := k3) (k5 := k5) (mN := X.base.nsMap N)
    PySem.F.excBase_ValueError ((PySem.W.tail_of_in I.kIn tl).hasType rfl) (I.ok.hd hcalm) (by rw [he]; show (false || (backTo cpos (starEach es X.env)).any (·.1)) = false; rw [hpl]; rfl) (PySem.W.nsMap_none_of_in I.ok.mod.kin no ni) (ld_glob I hg hm ⟨rfl, ?_⟩ hd)
   have hN : X.base.Ns N (X.base.nsMap N) := .of_isNs (PySem.W.isNs_of_in I.ok.mod.kin no)
   have args := ha cpos pins s σ H (fun vs H1 => vs.length = ds.length /\ Same H H1) I ⟨S, vAll ρ, fun z => z = ds, st.fcH, st.all, ⟨ds, et, rfl⟩, fun vs H1 ds' s1 d1 q1 => ⟨by rw [<- d1.len, q1], s1⟩⟩
   rw [he] at args ⊢
   refine Calls.evalArgs_plain (wpAny_mono args (fun us s1 ⟨vs, H1, I1, r, hlen, sm⟩ => ?_) fun _ _ z => z)
   refine ⟨rfl, ?_, I1.kIn _ _ lk, hN.keeps I1.bk, PySem.W.tail_of_in I1.kIn tl, fun h' ea mk => ?_⟩
   ·show us.length <= sizeLine
    rw [<- r.length, hlen]
    exact Nat.le_trans h10 (by decide)
   ·obtain ⟨C', hm', xc⟩ := ok.ex c H1 (st.sm.trans sm) ht
    rw [hm] at hm'
    cases hm'
    obtain ⟨tt, oe, _, _⟩ := mk.there
    have I2 : Inv X pins σ H1 { s1 with heap := h' } := I1.kept (t' := s1.toks) mk.keeps
    refine xc pins σ _ ea (.ref tt) [ea] I2 ⟨List.mem_cons_self, fun q hq => ?_, fun q hq => ?_, fun q hq => ?_, fun q hq p hp z => ?_, .inl ⟨_, _, oe, rfl, rfl, rfl, rfl⟩⟩
    ·rw [List.mem_singleton.1 hq]
     cases k : H1 ea with
     | none => rfl
     | some o =>
      obtain ⟨u, eu⟩ := objOk_got (I1.hok _ _ k)
      rw [mk.new] at eu; cases eu
    ·rw [List.mem_singleton.1 hq]
     cases k : X.s₀.heap.get? ea with
     | none => rfl
     | some o =>
      obtain ⟨o', eo⟩ := I1.base.there ea o k (by rw [hx]; simp)
      rw [mk.new] at eo; cases eo
    ·rw [List.mem_singleton.1 hq]
     exact ⟨_, _, oe, rfl⟩
    ·have := (I1.pin p hp).1
     rw [z, List.mem_singleton.mp hq, mk.new] at this; cases this
  ·rw [if_neg h10] at ht; exact ht.elim
end
end L5
end
section
namespace L5
open PySem PySem.Spec PyProof.Rows L2 L3 L4 PySem.W Builtin.ObjectAttr Builtin.Getset_descriptor
structure ExcQ (K : PySem.W.Frag) (C : Addr) : Prop where
 hc : isClsIn K C = true
 hm : mroIn K C (.type "object") = some true
 hs : subIn K (.ref C) (.type "BaseException") = some true
 hga : findIn K (.ref C) "__getattribute__" = some (some (.builtin "BaseException.__getattribute__"))
 hgg : findIn K (.ref C) "__getattr__" = some none
 ha : findIn K (.ref C) "__class__" = some (some (.builtin "object.__class__"))
 hn : specialIn K (.builtin "object.__class__") "__get__" = some (some (.builtin "getset_descriptor.__get__"))
 ht : takesIn K (.builtin "object.__class__") = some true
def Is (a C : Addr) (h : Heap) : Prop := ∃ o, h.get? a = some o /\ o.cls = .ref C
section
variable {prog : Program} {w : World} {A : Around} {E : Value -> Shared -> Prop} {s : Shared} {K : PySem.W.Frag} {a C : Addr}
theorem is_type {M : Model} {h : Heap} (i : Is a C h) : Looks M h (typeOf (.ref a)) (.ref C) := by
 obtain ⟨o, h1, h2⟩ := i
 exact h2 ▸ Looks.andThen (Looks.ld h1) .now
theorem exc_get {tp : Value} {R : Result -> Shared -> Prop} (X : K.In s.heap) (i : Is a C s.heap) (q : ExcQ K C) (h : R (.ok (.ret (.ref C))) s) :
  codeAny (model prog w) A (.call (.builtin "getset_descriptor.__get__") ⟨[.builtin "object.__class__", .ref a, tp], []⟩) R s := by
 obtain ⟨hp0, g0, dr0, t0, os0⟩ := s
 have L0 := is_type (M := model prog w) i
 have L1 := looks_mroIn (M := model prog w) X q.hm
 refine codeAny_call_builtin KF.slot_gs.plain KF.entry_gs ?_; refine KF.slot_gs.check _ _ _ _ _ _ _ _ KF.type_class (KF.args_gs _ _ _) ?_
 unfold Builtin.«getset_descriptor.__get__» descrGet; rw [dga_obj]
 refine wpAny_bind (wpAny_pure ?_)
 unfold descrGetter descrCheckInstance descrNameAndClass isInstance; simp only [KF.owner_class]
 repeat lk
 refine And.intro (Code.quiet_builtin _ (by decide +kernel)) (codeAny_builtin KF.entry_class ?_)
 unfold Builtin.«object.__class__» shownTypeOf; repeat lk
 exact h
theorem exc_find {tk : Tok} {Q : PySem.Fin -> Shared -> Prop} (X : K.In s.heap) (i : Is a C s.heap) (q : ExcQ K C) (hq : Q (.done (.ret (.ref C))) s) : wpAny (model prog w) A (Builtin.«object.__getattribute__» ⟨[.ref a, .str "__class__" tk], []⟩) Q E s := by
 obtain ⟨hh, g, d, t, os⟩ := s
 have L0 := is_type (M := model prog w) i
 have L1 : Looks (model prog w) hh (Builtin.ObjectAttr.find (.ref a) (.ref C) "__class__") (.bind (.builtin "getset_descriptor.__get__") (.builtin "object.__class__")) :=
  have L3 : Looks (model prog w) hh (Builtin.ObjectAttr.dataDescriptor? (some (.builtin "object.__class__")) (some (.builtin "getset_descriptor.__get__"))) (some (.builtin "getset_descriptor.__get__", .builtin "object.__class__")) := (looks_takesIn X q.ht).andThen Looks.now
  (looks_findIn X q.ha).andThen ((looks_specialIn X q.hn).andThen (L3.andThen (Looks.tag .now)))
 unfold PySem.Builtin.«object.__getattribute__»
 refine wpAny_bind (wpAny_pure (wpAny_bind (wpAny_pure (wpAny_bind (L0.at (wpAny_bind (L1.at ?_)))))))
 show wpAny _ _ (holding [.builtin "object.__class__"] (call (.builtin "getset_descriptor.__get__") [.builtin "object.__class__", .ref a, .ref C]) >>= ret) _ _ _
 exact wpAny_bind (wpAny_holding (wpAny_call (exc_get (s := ⟨hh, g, d, t, os⟩) X i q (wpAny_pure hq))))
theorem exc_check {M : Model} {nv : Value} {Q : Unit -> Shared -> Prop} (X : K.In s.heap) (i : Is a C s.heap) (q : ExcQ K C) (hq : Q () s) : wpAny M A (checkBuiltinCall "BaseException.__getattribute__" ⟨[.ref a, nv], []⟩) Q E s := by
 obtain ⟨hh, g, d, t, os⟩ := s
 have L : Looks M hh (isInstance (.ref a) (.type "BaseException")) true := (is_type (M := M) i).andThen (looks_subIn X q.hs)
 have k1 : builtinKind "BaseException.__getattribute__" = some .slot := by decide +kernel
 have k2 : splitId "BaseException.__getattribute__" = some ("BaseException", "__getattribute__") := by decide +kernel
 simp only [checkBuiltinCall, k1, k2]
 refine wpAny_bind (L.at ?_)
 rw [if_neg (by decide)]
 exact wpAny_of_eq (F.args_bexc_ga (.ref a) nv) hq
theorem exc_by {tk : Tok} {Q : Value -> Shared -> Prop} (X : K.In s.heap) (i : Is a C s.heap) (q : ExcQ K C) (hq : Q (.ref C) s) : wpAny (model prog w) A (getAttrBy (.ref a) (.str "__class__" tk) false) Q E s := by
 obtain ⟨hh, g, d, t, os⟩ := s
 have L0 := is_type (M := model prog w) i
 have L1 := looks_findIn (M := model prog w) X q.hga
 have L2 := looks_findIn (M := model prog w) X q.hgg
 unfold getAttrBy
 refine wpAny_holding (wpAny_bind (L0.at ?_)); refine wpAny_bind (L1.at ?_)
 dsimp only
 have ne : (Value.builtin "BaseException.__getattribute__" == Value.builtin "object.__getattribute__") = false := by decide +kernel
 rw [ne, Bool.and_false, if_neg Bool.false_ne_true]
 unfold getAttrByItsOwn hookBefore
 rw [if_pos (show onTheHeap (Value.ref C) = true from rfl)]
 refine wpAny_bind (L2.at (wpAny_bind (wpAny_attempt (wpAny_holding ?_))))
 unfold callGetattribute
 rw [if_neg (by simp)]
 unfold boundAndCalled
 refine wpAny_bind (wpAny_of_eq (F.excAttr_ValueError.ga.bind (.ref a)) ?_)
 refine wpAny_call (codeAny_call_builtin F.excAttr_ValueError.ga.plain F.entry_bexc_ga (exc_check (s := ⟨hh, g, d, t, os⟩) X i q (exc_find (s := ⟨hh, g, d, t, os⟩) X i q ?_)))
 exact handed_on rfl hq
theorem exc_attr {Q : Option Value -> Shared -> Prop} (X : K.In s.heap) (i : Is a C s.heap) (q : ExcQ K C) (hq : Q (some (.ref C)) { s with toks := s.toks + 1 }) : wpAny (model prog w) A (getAttr? (.ref a) "__class__") Q E s := by
 obtain ⟨hh, g, d, t, os⟩ := s
 unfold getAttr? getAttrBy?
 refine wpAny_bind (wpAny_mkText (wpAny_bind (wpAny_attempt ?_)))
 exact exc_by (s := ⟨hh, g, d, t + 1, os⟩) X i q (wpAny_pure hq)
theorem kitx_exc (q : ExcQ K C) : KitX K (.ref a) (.ref C) (Is a C) where
 ty := fun _ _ _ i => is_type i
 it := fun _ _ X _ => by
  have hc : (clsIn K C).isSome = true := q.hc
  unfold clsIn at hc
  split at hc
  ·rename_i lk
   intro A' Q' E' s' k h
   unfold isType loadHead
   exact wpAny_bind (wpAny_loadPart (k _ _ (X _ _ lk)) (wpAny_pure h))
  ·cases hc
 ne := fun h tp d0 its n0 sl0 X htp => by
  have hc : (clsIn K C).isSome = true := q.hc
  refine Bool.eq_false_iff.mpr fun z => ?_
  obtain rfl : C = tp := Value.ref.inj (beq_iff_eq.mp z)
  unfold clsIn at hc
  split at hc
  ·rename_i lk
   cases (X _ _ lk).symm.trans htp
  ·cases hc
 ca := fun X i k => exc_attr X i q k
end
end L5
end
section
namespace L5
open PySem PySem.Spec PyProof.Rows L2 L3 L4
section
variable {X : Cx}
def Caught (X : Cx) (e C : Addr) : Prop := ∃ oe : Obj, (e, oe) ∈ X.pn /\ oe.cls = .ref C
theorem Caught.is {e C : Addr} {pins : List (Addr × Obj)} {σ : L2.St} {H : Hp} {s : Shared} (h : Caught X e C) (I : Inv X pins σ H s) : Is e C s.heap := by
 obtain ⟨oe, hm, hc⟩ := h
 exact ⟨oe, (I.pin _ (List.mem_append_left _ hm)).1, hc⟩
theorem call_isE {e C : Addr} {v : V} {u : Value} {b : Bool} (hp : Caught X e C) (q : ExcQ X.K C) (hu : ∀ u', RelV v u' -> u' = u) (hb : PySem.W.kitOne X.K (.ref C) u = some b) :
  CallR X (.builtin "isinstance") (fun xs H Q => xs = [.ref e, v] /\ Q (.bl b) H) := by
 intro pins s σ H xs us Q I r h
 obtain ⟨rfl, h⟩ := h
 obtain ⟨u1, u2, rfl, r1, r2⟩ := vals2 r
 cases r1
 obtain rfl := hu u2 r2
 exact PySem.W.kia_one (kitx_exc q) I.kIn (hp.is I) hb (fun z => nomatch z) fun tk => ⟨.bl b, H, I.tok tk, rfl, h⟩
theorem isE4 {i : Nat} {n x c : Str} {e C D : Addr} {b : Bool} {p p1 p2 pos : Pos} (hp : Caught X e C) (q : ExcQ X.K C) (hm : X.mg "isinstance" = none) (hD : X.mg x = some (.ref D)) (hb : PySem.W.kitOne X.K (.ref C) (.ref D) = some b)
  (hN : X.N[i]? = some n := by rfl) (hv : Vis X.env.scope n := by first | exact Or.inl rfl | exact Or.inr (Or.inl rfl) | exact Or.inr (Or.inr rfl)) (hd : (n == ("__debug__" : Str)) = false := by decide) (hcd : (n == ("__classdict__" : Str)) = false := by decide)
  (hg : Gl X "isinstance" := by rfl) (hgx : Gl X x := by rfl) (hdx : (x == ("__debug__" : Str)) = false := by decide)
  (hs : starEach [.Name n p1, .Name x p2] X.env = (false, eval (.Name n p1) X.env) :: starEach [.Name x p2] X.env := by rfl) (hs2 : starEach [.Name x p2] X.env = (false, eval (.Name x p2) X.env) :: starEach [] X.env := by rfl) (hpl : (backTo pos (starEach [.Name x p2] X.env)).any (·.1) = false := by rfl) :
  PE4 X (.Call (.Name "isinstance" p) [.Name n p1, .Name x p2] [] pos) (eIsE c e b i) :=
 imp (pe_callB (call_isE (v := .ref D) hp q (fun u' r => by cases r; rfl) hb) hg hm PyProof.Rows.boot_isinstance (pa_cons (x4 i hN hv hd hcd) (pa_cons (pe_glob (v := .ref D) hgx hD rfl hdx) pa_nil hs2) hs) (by decide) (by decide) hs hpl) fun σ H Q hq112 => by
  obtain ⟨S, ρ, Q3, fc, sl, ⟨d, ed, q3⟩, k⟩ := hq112
  obtain ⟨ev, rfl⟩ := eIsE_of ed
  refine ⟨S, ρ, fun z => z = .exc c e, fc, sl, ⟨_, ev, rfl⟩, fun v H1 d s1 d1 q1 => ?_⟩
  subst q1
  simp only [Dn] at d1
  subst d1
  exact ⟨rfl, k _ H1 _ s1 (by simp only [Dn]) q3⟩
theorem isET4 {i : Nat} {n x c : Str} {e C : Addr} {T : String} {b : Bool} {p p1 p2 pos : Pos} (hp : Caught X e C) (q : ExcQ X.K C) (hm : X.mg "isinstance" = none) (hD : X.mg x = none) (hbt : bootBuiltins x = some (.type T)) (hb : PySem.W.kitOne X.K (.ref C) (.type T) = some b)
  (hN : X.N[i]? = some n := by rfl) (hv : Vis X.env.scope n := by first | exact Or.inl rfl | exact Or.inr (Or.inl rfl) | exact Or.inr (Or.inr rfl)) (hd : (n == ("__debug__" : Str)) = false := by decide) (hcd : (n == ("__classdict__" : Str)) = false := by decide)
  (hg : Gl X "isinstance" := by rfl) (hgx : Gl X x := by rfl) (hnx : x ≠ "__name__" := by decide) (hdx : (x == ("__debug__" : Str)) = false := by decide)
  (hs : starEach [.Name n p1, .Name x p2] X.env = (false, eval (.Name n p1) X.env) :: starEach [.Name x p2] X.env := by rfl) (hs2 : starEach [.Name x p2] X.env = (false, eval (.Name x p2) X.env) :: starEach [] X.env := by rfl) (hpl : (backTo pos (starEach [.Name x p2] X.env)).any (·.1) = false := by rfl) :
  PE4 X (.Call (.Name "isinstance" p) [.Name n p1, .Name x p2] [] pos) (eIsE c e b i) :=
 imp (pe_callB (call_isE (v := .ty T) hp q (fun u' r => r) hb) hg hm PyProof.Rows.boot_isinstance (pa_cons (x4 i hN hv hd hcd) (pa_cons (pe_bltn (v := .ty T) hgx hD hbt rfl hnx hdx) pa_nil hs2) hs) (by decide) (by decide) hs hpl) fun σ H Q hq113 => by
  obtain ⟨S, ρ, Q3, fc, sl, ⟨d, ed, q3⟩, k⟩ := hq113
  obtain ⟨ev, rfl⟩ := eIsE_of ed
  refine ⟨S, ρ, fun z => z = .exc c e, fc, sl, ⟨_, ev, rfl⟩, fun v H1 d s1 d1 q1 => ?_⟩
  subst q1
  simp only [Dn] at d1
  subst d1
  exact ⟨rfl, k _ H1 _ s1 (by simp only [Dn]) q3⟩
end
def hcx (X : Cx) (hd : Option Value) (pn : List (Addr × Obj)) : Cx := { X with A := X.A.mark hd, calm := false, pn := pn, xe := fun _ _ => False }
section
variable {X : Cx} {pins : List (Addr × Obj)} {σ : L2.St} {H : Hp} {s : Shared}
theorem none_at {n i : Nat} {v : V} (h : (List.replicate n (none : Option V))[i]? = some (some v)) : False := by
 rw [List.getElem?_replicate] at h
 split at h <;> cases h
theorem recx {hd : Option Value} {pn : List (Addr × Obj)} (I : Inv X pins σ H s) (hp : ∀ p ∈ pn, s.heap.get? p.1 = some p.2 /\ H p.1 = none /\ p.1 ≠ X.env.locals /\ p.1 ∉ X.fs /\ ∀ v, p.2.data ≠ .cell v) :
  Inv (hcx X hd pn) [] (List.replicate X.N.length none) H s := by
 obtain ⟨m, hn, _⟩ := id I.loc
 refine ⟨⟨I.ok.mod, I.ok.kind, I.ok.glob, I.ok.blt, I.ok.above, I.ok.inj, I.ok.has, I.ok.cab, fun z => (nomatch z), ?_, I.ok.stk, I.ok.exf, I.ok.bs, I.ok.bsz, I.ok.noex, I.ok.exfs, I.ok.funs, I.ok.frf⟩, I.os, I.bare, I.base, ⟨m, hn, fun i x v _ h2 _ => (none_at h2).elim⟩, I.cell, I.free, I.freeC, fun p h => ?_, I.hok, by show (List.replicate X.N.length none).length = X.N.length; rw [List.length_replicate]⟩
 ·exact I.ok.frames
 ·have h : p ∈ pn ++ [] := h
  rw [List.append_nil] at h
  exact hp p h
theorem rback {X : Cx} {pins pinsY pn : List (Addr × Obj)} {hd : Option Value} {σ' : L2.St} {H : Hp} {s : Shared} (ok : X.Ok) (I : Inv (hcx X hd pn) pinsY σ' H s) (sub : ∀ p ∈ X.pn ++ pins, p ∈ pn) : Inv X pins (List.replicate X.N.length none) H s := by
 obtain ⟨m, hn, _⟩ := id I.loc
 exact ⟨ok, I.os, I.bare, I.base, ⟨m, hn, fun i x v _ h2 _ => (none_at h2).elim⟩, I.cell, I.free, I.freeC, fun p h => I.pin p (List.mem_append_left _ (sub p h)), I.hok, by rw [List.length_replicate]⟩
theorem wiped {h' : Heap} {m' : Str -> Option Value} {t : Nat} (I : Inv X pins σ H s) (hn : h'.Ns X.env.locals m') (hs : Heap.SameBut X.env.locals s.heap h') : Inv X pins (List.replicate X.N.length none) H { s with heap := h', toks := t } := by
 have notL : ∀ b o, X.s₀.heap.get? b = some o -> b ≠ X.env.locals := fun b o q => Nat.ne_of_lt (Nat.lt_of_lt_of_le (Heap.lt_size q) I.ok.above)
 refine ⟨I.ok, I.os, I.bare, ⟨fun b o e n hb hx => (hs.2 b (notL b o e)).trans (I.base.keep b o e n hb hx), fun b o e n hb hx => ?_, I.base.free, fun b o e hx => ?_, I.base.tups, I.base.frzs, I.base.tbls⟩, ⟨m', hn, fun i x v _ h2 _ => (none_at h2).elim⟩, fun x c e => ?_, I.free, I.freeC, fun p hp => ?_, fun b ob e => ?_, by rw [List.length_replicate]⟩
 ·obtain ⟨sl, q⟩ := I.base.slot b o e n hb hx
  exact ⟨sl, (hs.2 b (notL b o e)).trans q⟩
 ·obtain ⟨o', q⟩ := I.base.there b o e hx
  exact ⟨o', (hs.2 b (notL b o e)).trans q⟩
 ·obtain ⟨v, ic⟩ := I.cell x c e
  exact ⟨v, ic.sameBut hs (I.cne x c e)⟩
 ·obtain ⟨q, n, ne, nf, d⟩ := I.pin p hp
  exact ⟨(hs.2 _ ne).trans q, n, ne, nf, d⟩
 ·refine (I.hok b ob e).stay (fun c u hc q => (hs.2 c fun z => ?_).trans q) (fun _ q => q) fun _ _ q => q
  rcases hc with rfl | hc
  ·rw [z, I.free] at e; cases e
  ·rw [z, I.free] at hc; cases hc
end
section
variable {X : Cx}
theorem looked {pins : List (Addr × Obj)} {σ : L2.St} {H : Hp} {s : Shared} {e : Addr} {cls a0 : Value} {P : List Addr} {E : Value -> Shared -> Prop} {Q : Shared -> Prop} (hst : X.stack = X.env :: X.outer) (hf : X.env.frame = some X.env.locals) (I : Inv X pins σ H s) (T : Thrown X pins H s e cls a0 P)
  (k : ∀ h', Inv X pins σ H { s with heap := h' } -> h'.TracedW (PySem.W.hideAll s.heap (P ++ frs X.stack)) e cls a0 -> (PySem.W.hideAll s.heap (P ++ frs X.stack)).StaysIn h' -> h'.FunFrames (PySem.W.hideAll s.heap (P ++ frs X.stack)) X.stack -> s.heap.UpToSlots h' -> Q { s with heap := h' }) :
  wpAny (model X.prog X.w) X.A (noteFrame (.ref e) X.env) (fun _ s2 => wpAny (model X.prog X.w) X.A (setFlight (.ref e) none) (fun _ s3 => Q s3) E s2) E s := by
 have hin : ∀ env ∈ X.stack, ∀ b, env.frame = some b -> b ∈ P ++ frs X.stack := fun env he b hb => List.mem_append_right _ (List.mem_filterMap.mpr ⟨env, he, hb⟩)
 have stay : (PySem.W.hideAll s.heap (P ++ frs X.stack)).StaysIn s.heap := fun b o q => PySem.W.of_hideAll _ q
 have fns : s.heap.FunFrames (PySem.W.hideAll s.heap (P ++ frs X.stack)) X.stack := PySem.W.funFrames_hide I.stack hin
 have hen : (PySem.W.hideAll s.heap (P ++ frs X.stack)).get? e = none := PySem.W.hideAll_none _ (List.mem_append_left _ T.mem)
 generalize hB : PySem.W.hideAll s.heap (P ++ frs X.stack) = B at *
 have next : ∀ h', Heap.NotedW B X.stack e cls a0 (rawInt X.env.locals) s.heap h' -> wpAny (model X.prog X.w) X.A (setFlight (.ref e) none) (fun _ s3 => Q s3) E { s with heap := h' } := fun h' hq114 => by
  obtain ⟨k1, k2, k3, k4⟩ := hq114
  refine wpAny_setFlight_noneW (s := { s with heap := h' }) k1 k2 k3 fun h2 j1 j2 j3 j4 => ?_
  have us : s.heap.UpToSlots h2 := fun b o eb nf => by
   obtain ⟨sl, q⟩ := k4 b o eb nf
   exact ⟨sl, j4 b _ q nf⟩
  refine k h2 (flown I T (fun b o n1 n2 q => j1 b o ?_) us) j3 j1 j2 us
  rw [<- hB]
  exact PySem.W.hideAll_get _ q fun z => (List.mem_append.mp z).elim n1 n2
 have hfr := I.ok.frames
 rw [hst] at hfr fns next
 rcases T.tr with ⟨oe, vs, he, hc, hd, h1, h0⟩ | ⟨oe, vs, T2, oT, ts, he, hc, hd, h1, hm, hTe, hT, hdT, h3⟩
 ·subst hc
  unfold noteFrame
  simp only [hf]
  refine wpAny_bind (wpAny_field (x := .none) he hd h1 ?_)
  rw [if_neg (by decide)]
  exact wpAny_entryW hfr fns hf he stay hen hd (Array.getElem?_eq_some_iff.mp h1).1 h0 next
 ·have hT2 : B.get? T2 = none := by rw [<- hB]; exact PySem.W.hideAll_none _ (List.mem_append_left _ hm)
  exact wpAny_noteFrame_onW hfr fns hf ⟨oe, vs, T2, oT, ts, he, hc, hd, h1, hT2, hTe, hT, hdT, h3⟩ stay hen next
theorem caught {pins : List (Addr × Obj)} {σ : L2.St} {H : Hp} {s : Shared} {e C C0 : Addr} {a0 : Value} {P : List Addr} {E : Value -> Shared -> Prop} {R0 n : Str} {i : Nat} {b0 : Stmt} {suite : List Stmt} {np hpos : Pos} {h5 : Heap} {B : Ends} (I : Inv X pins σ H s) (T : Thrown X pins H s e (.ref C) a0 P)
  (tr : h5.TracedW (PySem.W.hideAll s.heap (P ++ frs X.stack)) e (.ref C) a0) (stay : (PySem.W.hideAll s.heap (P ++ frs X.stack)).StaysIn h5) (fns : h5.FunFrames (PySem.W.hideAll s.heap (P ++ frs X.stack)) X.stack) (us : s.heap.UpToSlots h5)
  (hm0 : X.mg R0 = some (.ref C0)) (hg0 : Gl X R0) (hd0 : (R0 == ("__debug__" : Str)) = false) (hx : PySem.W.exmOne X.K (.ref C) (.ref C0) = some true) (hN : X.N.Nodup) (hi : X.N[i]? = some n) (hl : X.env.scope.names.lookup n = some .local)
  (run : ∀ (oe : Obj) (s7 : Shared), oe.cls = .ref C -> Inv (hcx X (some (.ref e)) (X.pn ++ pins ++ [(e, oe)])) [] ((List.replicate X.N.length none).set i (some (.ref e))) H s7 ->
   wpAny (model X.prog X.w) (X.A.mark (some (.ref e))) (execs (b0 :: suite) X.env) (SP (hcx X (some (.ref e)) (X.pn ++ pins ++ [(e, oe)])) [] { nx := fun _ _ => False, rt := B.rt }) (fun _ _ => False) s7) :
  wpAny (model X.prog X.w) X.A (handleBy (.ref e) X.env [.ExceptHandler (some (.Name R0 np)) (some n) (b0 :: suite) hpos]) (SP X pins B) E { s with heap := h5 } := by
 have kp : ∀ h', (PySem.W.hideAll s.heap (P ++ frs X.stack)).StaysIn h' -> ∀ b o, b ∉ P -> b ∉ frs X.stack -> s.heap.get? b = some o -> h'.get? b = some o := fun h' st b o n1 n2 q => st b o (PySem.W.hideAll_get _ q fun z => (List.mem_append.mp z).elim n1 n2)
 have J5 : Inv X pins σ H { s with heap := h5 } := flown I T (kp h5 stay) us
 refine wpAny_handleBy_cons (codeAny_handlers_test ?_) (by intro q; cases q)
 have Z5 : Inv (hcx X (some (.ref e)) []) [] _ H { s with heap := h5 } := recx J5 fun p hp => nomatch hp
 refine ld_glob (X := hcx X (some (.ref e)) []) Z5 hg0 hm0 ?_ hd0
 have LT : PySem.W.Looks (model X.prog X.w) h5 (typeOf (.ref e)) (.ref C) := by
  obtain ⟨oe, _, _, _, _, he, hc, _⟩ := tr
  exact is_type ⟨oe, he, hc.1⟩
 refine (PySem.W.exm_one (K := X.K) J5.kIn LT hx).here ?_
 refine codeAny_handlers_suite_as (n := n) ?_
 refine wpAny_setFlight_noneW (s := { s with heap := h5 }) stay fns tr.at fun h7 j1 j2 j3 j4 => ?_
 have us7 : s.heap.UpToSlots h7 := fun b o eb nf => by
  obtain ⟨sl, q⟩ := us b o eb nf
  exact ⟨sl, j4 b _ q nf⟩
 have J7 : Inv X pins σ H { s with heap := h7 } := flown I T (kp h7 j1) us7
 obtain ⟨oe, vs, T2, oT, ts, he, ⟨hc, _⟩, hd, _⟩ := j3
 have Y7 : Inv (hcx X (some (.ref e)) (X.pn ++ pins ++ [(e, oe)])) [] _ H { s with heap := h7 } := recx J7 fun p hp => by
  rcases List.mem_append.1 hp with hp | hp
  ·exact J7.pin p hp
  ·rw [List.mem_singleton.1 hp]
   refine ⟨he, T.free e T.mem, fun z => ?_, fun z => ?_, fun v z => by rw [hd] at z; cases z⟩
   ·obtain ⟨m, ⟨o, es, ep, ho, hod, _⟩, _⟩ := J7.loc
    have z : e = X.env.locals := z
    rw [<- z] at ho
    have q := he.symm.trans ho
    cases q
    rw [hd] at hod
    cases hod
   ·obtain ⟨_, o, ho, nf⟩ := J7.funs.mem z
    have q := he.symm.trans ho
    cases q
    exact nf vs hd
 refine store_ok (X := hcx X (some (.ref e)) (X.pn ++ pins ++ [(e, oe)])) Y7 hN hi (.inl hl) (v := .ref e) rfl (fun s8 I8 => ?_) (.inr hl)
 refine wpAny_mono (run oe s8 hc I8) (fun f s9 h9 => ?_) fun _ _ z => z.elim
 cases f with
 | ret u =>
  obtain ⟨v, σ', H', I9, rv, q⟩ := h9
  have B9 : Inv X pins _ H' s9 := rback I.ok I9 fun p hp => List.mem_append_left _ hp
  obtain ⟨m, hn, _⟩ := id B9.loc
  exact wpAny_nameGoes hl hn (by rw [I.ok.kind]; rfl) fun h' m' hn' hs' => ⟨v, _, H', wiped B9 hn' hs', rv, q⟩
 | next => obtain ⟨_, _, _, q⟩ := h9; exact q.elim
 | brk => obtain ⟨_, _, _, q⟩ := h9; exact q.elim
 | cont => obtain ⟨_, _, _, q⟩ := h9; exact q.elim
theorem try5 {R0 n : Str} {C0 : Addr} {i : Nat} {body : List Stmt} {b0 : Stmt} {suite : List Stmt} {np hpos pos : Pos} {fb : SF} {fh : Str -> Option D} (hst : X.stack = X.env :: X.outer) (hf : X.env.frame = some X.env.locals) (hm0 : X.mg R0 = some (.ref C0)) (hN : X.N.Nodup)
  (hbody : ∀ pn xe, PSs4 { X with pn := pn, xe := xe } body fb)
  (hh : ∀ c d, fh c = some d -> ∃ (C : Addr) (g : Nat -> SF), X.mg c = some (.ref C) /\ PySem.W.exmOne X.K (.ref C) (.ref C0) = some true /\ (∀ e : Nat, g e ((List.replicate X.N.length Sv.no).set i (.ro (.exc c e))) = .rt d) /\
   ∀ (e : Addr) (oe : Obj) (pn : List (Addr × Obj)), oe.cls = .ref C -> PSs4 (hcx X (some (.ref e)) (pn ++ [(e, oe)])) (b0 :: suite) (g e))
  (hi : X.N[i]? = some n := by rfl) (hl : X.env.scope.names.lookup n = some .local := by rfl) (hg0 : Gl X R0 := by rfl) (hd0 : (R0 == ("__debug__" : Str)) = false := by decide) :
  PS4 X (.Try body [.ExceptHandler (some (.Name R0 np)) (some n) (b0 :: suite) hpos] [] [] pos) (sTry fb fh) := by
 intro pins s σ H B I ⟨H₀, S, w, ρ, G, E, hlen, st, ht, ok⟩
 refine wpAny_Try_except ?_
 generalize hxe : (fun (e : Value) (s1 : Shared) => wpAny (model X.prog X.w) X.A (noteFrame e X.env) (fun _ s2 => wpAny (model X.prog X.w) X.A (setFlight e none) (fun _ s3 => wpAny (model X.prog X.w) X.A (handleBy e X.env [.ExceptHandler (some (.Name R0 np)) (some n) (b0 :: suite) hpos]) (SP X pins B) X.xe s3) X.xe s2) X.xe s1) = xe
 have I' : Inv { X with pn := X.pn ++ pins, xe := xe } [] σ H s :=
  ⟨⟨I.ok.mod, I.ok.kind, I.ok.glob, I.ok.blt, I.ok.above, I.ok.inj, I.ok.has, I.ok.cab, I.ok.hd, I.ok.frames, I.ok.stk, I.ok.exf, I.ok.bs, I.ok.bsz, I.ok.noex, I.ok.exfs, I.ok.funs, I.ok.frf⟩, I.os, I.bare, I.base, I.loc, I.cell, I.free, I.freeC, fun p hp => I.pin p (by have hp : p ∈ (X.pn ++ pins) ++ [] := hp; rw [List.append_nil] at hp; exact hp), I.hok, I.len⟩
 have back : ∀ {pins2 : List (Addr × Obj)} {σ2 : L2.St} {H2 : Hp} {s2 : Shared}, Inv { X with pn := X.pn ++ pins, xe := xe } pins2 σ2 H2 s2 -> Inv X pins σ2 H2 s2 := fun J => ⟨I.ok, J.os, J.bare, J.base, J.loc, J.cell, J.free, J.freeC, fun p hp => J.pin p (List.mem_append_left _ hp), J.hok, J.len⟩
 have ht' : wS fb { E with ex := fun c => ∃ d, fh c = some d /\ E.rt d } ρ := by
  unfold wS sTry at ht
  unfold wS
  cases hb : fb ρ with
  | nx ρ' => rw [hb] at ht; exact ht
  | rt d => rw [hb] at ht; exact ht
  | no => rw [hb] at ht; exact ht
  | ex c =>
   rw [hb] at ht
   dsimp only at ht ⊢
   cases hc : fh c with
   | none => rw [hc] at ht; exact ht.elim
   | some d => rw [hc] at ht; exact ⟨d, rfl, ht⟩
 have ok' : EndsOk X.K (XC { X with pn := X.pn ++ pins, xe := xe }) X.N.length H₀ S G { E with ex := fun c => ∃ d, fh c = some d /\ E.rt d } B := ⟨ok.nx, ok.rt, ok.bk, ok.ct, fun c H' sm ⟨d, hfd, q⟩ => by
  obtain ⟨C, g, hmc, hx, hg, hs⟩ := hh c d hfd
  refine ⟨C, hmc, fun pins2 σ2 s2 e a0 P I2 T2 => ?_⟩
  have IX := back I2
  have TX : Thrown X pins H' s2 e (.ref C) a0 P := ⟨T2.mem, T2.free, T2.new, T2.fld, fun q hq p hp => T2.pin q hq p (List.mem_append_left _ hp), T2.tr⟩
  show xe (.ref e) s2
  rw [<- hxe]
  refine looked hst hf IX TX fun h' J tr stay fns us => caught IX TX tr stay fns us hm0 hg0 hd0 hx hN hi hl fun oe s7 hc I7 => ?_
  refine (hs e oe (X.pn ++ pins) hc) [] s7 _ H' _ I7 ⟨H₀, S, fun _ => 0, (List.replicate X.N.length Sv.no).set i (.ro (.exc c e)), [], { nx := fun _ => False, rt := E.rt }, ?_, ⟨st.fc, sm, fun j d2 z => ?_, fun j k d1 d2 z => ?_, fun j d2 z => ?_, fun g hg => (nomatch hg)⟩, ?_, ⟨fun _ _ _ _ _ _ z => z.elim, fun v H2 d2 s2 dn z => ok.rt v H2 d2 s2 dn z, fun _ _ _ _ _ _ z => z, fun _ _ _ _ _ _ z => z, fun _ _ _ z => z.elim⟩⟩
  ·show ((List.replicate X.N.length (none : Option V)).set i (some (.ref e))).length = X.N.length
   rw [List.length_set, List.length_replicate]
  ·rcases get_set z with ⟨_, z, _⟩ | ⟨_, z⟩
   ·cases z
   ·rw [List.getElem?_replicate] at z; split at z <;> cases z
  ·rcases get_set z with ⟨_, z, _⟩ | ⟨_, z⟩
   ·cases z
   ·rw [List.getElem?_replicate] at z; split at z <;> cases z
  ·rcases get_set z with ⟨rfl, z, hj⟩ | ⟨_, z⟩
   ·cases z
    exact ⟨.ref e, List.getElem?_set_self (by simpa using hj), by simp only [Dn]⟩
   ·rw [List.getElem?_replicate] at z; split at z <;> cases z
  ·show wS (g e) _ _
   unfold wS
   rw [hg e]
   exact q⟩
 have run := hbody (X.pn ++ pins) xe [] s σ H B I' ⟨H₀, S, w, ρ, G, _, hlen, st, ht', ok'⟩
 rw [<- hxe] at run ⊢
 refine wpAny_mono run (fun f s1 h => ?_) fun _ _ z => z
 cases f with
 | next =>
  obtain ⟨σ', H', J, q⟩ := h
  rw [hxe] at J
  exact pss_nil pins s1 σ' H' B (back J) q
 | brk => obtain ⟨σ', H', J, q⟩ := h; rw [hxe] at J; exact ⟨σ', H', back J, q⟩
 | cont => obtain ⟨σ', H', J, q⟩ := h; rw [hxe] at J; exact ⟨σ', H', back J, q⟩
 | ret u => obtain ⟨v, σ', H', J, rv, q⟩ := h; rw [hxe] at J; exact ⟨v, σ', H', back J, rv, q⟩
end
section
variable {X : Cx}
def CPB (i j : Int) : Prop := 0 <= j /\ j <= 100 /\ i.natAbs < 2 ^ 1000
theorem op_powG : OpR X (binaryOp .Pow) (rI CPB fun i j => .int (i ^ j.toNat)) := opI fun _ _ _ _ _ _ _ hc q => by
 obtain ⟨h0, h1, hb⟩ := hc
 refine PyProof.Rows.pow_int h0 (Int.le_trans (Int.mul_le_mul_of_nonneg_right (?_ : _ <= (1000 : Int)) h0) (by omega)) q
 have := intBits_le hb
 omega
theorem powG4 {a b : Expr} {fa fb : EF} {pos : Pos} (ha : PE4 X a fa) (hb : PE4 X b fb) : PE4 X (.BinOp a .Pow b pos) (eBin powGM fa fb) := cE (op3 op_powG o3_int ha hb) (bin_w (tells_intC fun i j h => by
 simp only [Bool.and_eq_true, decide_eq_true_eq] at h
 exact ⟨h.1.1, h.1.2, h.2⟩))
theorem no_tt {p : Prop} (h : false = true) : p := nomatch h
noncomputable def ExI (mro : List Value) (sl : List (Option Value)) (P : Addr -> List Value -> String -> Bool) : Prop := ∃ C1 bm y0 y1 y2 y3 n y5, mro = .ref C1 :: bm /\ sl = [y0, y1, y2, y3, some (.builtin n), y5] /\ P C1 bm n = true
theorem exc_inner {mro : List Value} {sl : List (Option Value)} {P : Addr -> List Value -> String -> Bool} (h : PySem.W.excIn.match_1 (fun _ _ => Bool) mro sl (fun C1 bm _ _ _ _ n _ => P C1 bm n) (fun _ _ => false) = true) :
  ExI mro sl P := by
 cases mro with
 | nil => exact no_tt h
 | cons v bm =>
 cases v with
 | ref C1 =>
  cases sl with
  | nil => exact no_tt h
  | cons y0 sl =>
  cases sl with
  | nil => exact no_tt h
  | cons y1 sl =>
  cases sl with
  | nil => exact no_tt h
  | cons y2 sl =>
  cases sl with
  | nil => exact no_tt h
  | cons y3 sl =>
  cases sl with
  | nil => exact no_tt h
  | cons y4 sl =>
  cases y4 with
  | none => exact no_tt h
  | some w =>
  cases w with
  | builtin n =>
   cases sl with
   | nil => exact no_tt h
   | cons y5 sl =>
   cases sl with
   | cons z sl => exact no_tt h
   | nil => exact ⟨C1, bm, y0, y1, y2, y3, n, y5, rfl, rfl, h⟩
  | _ => exact no_tt h
 | _ => exact no_tt h
theorem excC_of {K : PySem.W.Frag} {C : Addr} (h : PySem.W.excIn K C bmV "ValueError.__new__" = true) : ExcC K C := by
 unfold PySem.W.excIn at h
 split at h
 ·rename_i dd cd sl lk
  obtain ⟨C1, bm, y0, y1, y2, y3, n, y5, e1, e2, h⟩ := exc_inner h
  obtain ⟨a1, a2, a3, a4, a5, a6, a7, a8, a9, a10, a11⟩ := cd
  obtain ⟨sl⟩ := sl
  dsimp only at e1 e2 h
  subst e1 e2
  simp only [Bool.and_eq_true, beq_iff_eq, Bool.not_eq_true'] at h
  obtain ⟨⟨⟨⟨⟨g1, g2⟩, g3⟩, g4⟩, g5⟩, g6⟩ := h
  subst g1 g2 g3
  exact ⟨⟨a1, a5, a4, a2, bm, a6, a7, a8, a9, a10, dd, y0, y1, y2, y3, y5, lk, g4, g5, g6⟩⟩
 ·cases h
end
end L5
end
section
namespace L5
open PySem PySem.Spec PyProof.Rows L2 L3 L4 PySem.W
variable {K : PySem.W.Frag} {C D : Addr}
structure NotSub (K : PySem.W.Frag) (C D : Addr) : Prop where
 ne : (Value.ref C == Value.ref D) = false
 c : isClsIn K D = true
 t : typeIn K (.ref D) = some (.type "type")
 s : subIn K (.ref C) (.ref D) = some false
theorem kitCls_of {t : Value} {b : Bool} (c : isClsIn K D = true) (ht : typeIn K (.ref D) = some (.type "type")) (s : subIn K t (.ref D) = some b) : kitCls K t (.ref D) = some b := by
 have c : (clsIn K D).isSome = true := c
 unfold kitCls
 dsimp only
 rw [c, ht, if_pos (by decide)]
 exact s
theorem NotSub.one (n : NotSub K C D) : kitOne K (.ref C) (.ref D) = some false := by
 unfold kitOne
 rw [n.ne, if_neg Bool.false_ne_true]
 exact kitCls_of n.c n.t n.s
theorem kit_self : kitOne K (.ref C) (.ref C) = some true := by
 unfold kitOne
 rw [if_pos (by simp)]
theorem kitT_of {T : String} {b : Bool} (k : kitMeta T = true) (s : subIn K (.ref C) (.type T) = some b) : kitOne K (.ref C) (.type T) = some b := by
 unfold kitOne
 rw [if_neg (show ¬ (Value.ref C == Value.type T) = true from fun z => by cases beq_iff_eq.mp z)]
 unfold kitCls
 dsimp only
 rw [if_pos k]
 exact s
theorem exm_of {b : Bool} (e1 : subIn K (.ref D) (.type "BaseException") = some true) (e2 : isClsIn K D = true) (e3 : typeIn K (.ref D) = some (.type "type")) (e4 : subIn K (.ref C) (.ref D) = some b) : exmOne K (.ref C) (.ref D) = some b := by
 unfold exmOne
 rw [e1, if_pos (by decide)]
 exact kitCls_of e2 e3 e4
end L5
end
section
namespace L5
open PySem PySem.Spec PyProof.Rows L2 L3 L4
section
variable {X : Cx}
def PRs (X : Cx) (es : List Expr) (r : RF) : Prop := PA X es (fun σ H _ => tR X r σ H fun _ _ => True)
theorem impA {es : List Expr} {t t' : TA} (h : PA X es t) (f : ∀ σ H Q, t' σ H Q -> t σ H Q) : PA X es t' := fun pos pins s σ H Q I q => h pos pins s σ H Q I (f σ H Q q)
theorem nextR5 {e : Expr} {es : List Expr} {f : EF} {r : RF} (he : PE4 X e f) (hr : PRs X es r) (hs : starEach (e :: es) X.env = (false, eval e X.env) :: starEach es X.env := by rfl) : PRs X (e :: es) (rNext f r) :=
 impA (pa_cons he hr hs) fun σ H Q hq115 => by
  obtain ⟨S, ρ, c, fc, sl, ec, k⟩ := hq115
  obtain ⟨d, ed, ec⟩ := bnd ec
  exact ⟨S, ρ, fun _ => True, fc, sl, ⟨d, ed, trivial⟩, fun v H1 d1 s1 _ _ => ⟨S, ρ, c, fc_same fc s1, Sl.fits (.same s1) sl, ec, fun H' sm => k H' (s1.trans sm)⟩⟩
theorem hereR5 {e : Expr} {es : List Expr} {r : RF} {t : AF} (he : PR X e r) (ha : PA4 X es t) (hs : starEach (e :: es) X.env = (false, eval e X.env) :: starEach es X.env := by rfl) : PRs X (e :: es) r :=
 impA (pa_cons he ha hs) fun σ H Q h => h
theorem tupR5 {es : List Expr} {r : RF} {x1} {pos : Pos} (h : PRs X es r) : PR X (.Tuple es x1 pos) r := imp (pe_tup h) fun σ H Q h => h
end
end L5
end
section
namespace L5
open PySem PySem.Spec PyProof.Rows L2 L3 L4 Att
section
variable {X : Cx} {pins : List (Addr × Obj)} {σ : L2.St} {H : Hp} {s : Shared}
theorem inv_new {D : Addr} {u : HO} {m : Str -> Option Value} {h' : Heap} {t' : Nat} (I : Inv X pins σ H s) (hns : s.heap.Ns X.env.locals m) (ns' : h'.Ns X.env.locals m) (keep2 : ∀ b o, b ≠ X.env.locals -> s.heap.get? b = some o -> h'.get? b = some o) (dead : s.heap.get? D = none)
  (ok : ObjOk X.prog X.w (upd H D u) h' D u) : H D = none /\ Inv X pins σ (upd H D u) { s with heap := h', toks := t' } := by
 have hfr : H D = none := by
  cases e : H D with
  | none => rfl
  | some u =>
   obtain ⟨o, eo⟩ := objOk_got (I.hok D u e)
   rw [dead] at eo
   cases eo
 have neD : ∀ {b : Addr} {o : Obj}, s.heap.get? b = some o -> b ≠ D := fun {b o} e z => by rw [z, dead] at e; cases e
 have neH : ∀ {b : Addr} {u : HO}, H b = some u -> b ≠ D := fun {b u} e z => by rw [z, hfr] at e; cases e
 refine ⟨hfr, ?_⟩
 show L2.Inv X pins σ _ { s with heap := h', toks := t' }
 refine I.step (s := s) (h' := h') (g' := s.gens) (t' := t') (d' := s.drawn) (ch := []) (fun b hb => nomatch hb) (fun b o hb _ _ e _ => keep2 b o hb e) (fun b o hb _ _ e _ => ⟨o.slots, keep2 b o hb e⟩) (fun b o _ e n => by rw [upd_ne (neD e)]; exact n) (fun b o _ e => ?_)
  (fun b xs e => by rw [upd_ne (neH e)]; exact e) (fun b o u e => by rw [upd_ne (neH e)]; exact e) (fun b ps e => ⟨#[], by rw [upd_ne (neH e), e]; simp⟩) (fun m2 hm2 => ?_) ?_ I.bare
 ·by_cases hb : b = X.env.locals
  ·subst hb
   obtain ⟨o2, _, _, e2, _⟩ := ns'
   exact ⟨o2, e2⟩
  ·exact ⟨o, keep2 b o hb e⟩
 ·have : m2 = m := by
   obtain ⟨oa, ea, pa, h1, h2, _, h3⟩ := hm2
   obtain ⟨ob, eb, pb, k1, k2, _, k3⟩ := hns
   rw [h1] at k1
   cases k1
   rw [h2] at k2
   cases k2
   funext x
   rw [<- h3, <- k3]
  subst this
  exact ns'
 ·intro b v e
  by_cases hb : b = D
  ·subst hb
   rw [upd_same] at e
   cases e
   exact ok
  ·rw [upd_ne hb] at e
   refine (I.hok b v e).stay (fun c w hc ew => keep2 c w (fun z => ?_) ew) (fun c ec => by rw [upd_ne (neH ec)]; exact ec) fun c ys ec => by rw [upd_ne (neH ec)]; exact ec
   subst z
   rcases hc with hc | hc
   ·rw [<- hc, I.free] at e; cases e
   ·rw [I.free] at hc; cases hc
def rSplit : V -> List V -> Hp -> VK -> Prop := fun x xs H Q => ∃ z y, x = .str z /\ xs = [.str y] /\ z.length + 2 <= sizeLine /\ (y.length == 0) = false /\ ∀ l, H l = none -> Q (.ref l) (upd H l (.lst ((Txt.split z y).map V.str)))
theorem vals_strs : ∀ l : List (Str × Tok), Vals ((l.map (·.1)).map V.str) (strValues l)
 | [] => .nil
 | p :: r => .cons ⟨p.2, rfl⟩ (vals_strs r)
theorem mt_split : MtR X "str.split" rSplit := by
 intro pins s σ H x xs v us Q I rx r h
 obtain ⟨z, y, rfl, rfl, hz, hy, q⟩ := h
 obtain ⟨u, rfl, ty, rfl⟩ := vals1 r
 obtain ⟨tz, rfl⟩ := rx
 obtain ⟨m, hns, _⟩ := id I.loc
 refine splitN1 (h₀ := noObjs s.heap) (L := X.env.locals) (m := m) (news := ledger s.heap X.env.locals s.heap.objs.size) (fr_all hns) (fun p hp => ?_) hy (fun l h' k e F N => ?_) hz
 ·obtain ⟨x, o⟩ := p
  obtain ⟨n1, _, e⟩ := mem_ledger.mp hp
  exact ⟨e, n1, noObjs_get _ _⟩
 ·have dead : s.heap.get? s.heap.objs.size = none := Heap.get?_none_of_le (Nat.le_refl _)
  obtain ⟨hf, I'⟩ := inv_new (D := s.heap.objs.size) (u := .lst ((Txt.split z y).map V.str)) (t' := k) I hns F.ns (fun b o hb e => (N (b, o) (List.mem_cons_of_mem _ (mem_ledger.mpr ⟨hb, Nat.ne_of_lt (Heap.lt_size e), e⟩))).1) dead
   ⟨by rw [List.length_map]; exact Nat.le_trans (PyProof.Rows.fact_split z y).2 hz, strValues l, 0, by rw [<- e]; exact vals_strs l, (N _ (List.mem_cons_self ..)).1⟩
  exact ⟨.ref s.heap.objs.size, _, I', rfl, q _ hf⟩
theorem dns_strs {K : PySem.W.Frag} {S : Addr -> Prop} {H : Hp} : ∀ l : List Str, Dns K S H (l.map D.str) (l.map V.str)
 | [] => Dns.nil
 | x :: r => Dns.cons (by simp only [Dn]) (dns_strs r)
theorem splitM_of {a b d : D} (h : splitM a b = some d) : ∃ x y, a = .str x /\ b = .str y /\ (x.length + 2 <= szL /\ (y.length == 0) = false) /\ d = .lst ((Txt.split x y).map D.str) := by
 unfold splitM at h
 split at h
 ·split at h
  ·rename_i z
   cases h
   exact ⟨_, _, rfl, rfl, z, rfl⟩
  ·cases h
 ·cases h
theorem split4 {o e : Expr} {fo fe : EF} {apos cpos : Pos} (ho : PE4 X o fo) (he : PE4 X e fe) (hbase : attributeBase o "split" X.env (eval o X.env) = eval o X.env := by rfl)
  (hfew : ((backTo cpos (starEach [e] X.env)).all (fun x => !x.1) && (backToKw cpos (keywordEach [] X.env)).all (fun x => x.1.isSome)
   && decide ([e].length + ([] : List Keyword).length + (if ([] : List Keyword).isEmpty then 0 else 1) < 30)) = true := by rfl)
  (hline : (apos.endLine == cpos.line) = true := by rfl) (hs : starEach [e] X.env = (false, eval e X.env) :: starEach [] X.env := by rfl) (hplain : (backTo cpos (starEach [] X.env)).any (·.1) = false := by rfl) :
  PF4 X (.Call (.Attribute o "split" apos) [e] [] cpos) (eBin splitM fo fe) :=
 imp (pe_bm F.plainAttrs_str F.slot_str_split F.type_str_split mt_split ho (pa_cons he pa_nil hs) hbase hfew hline hs hplain) fun σ H Q hq116 => by
  obtain ⟨S, ρ, Q3, fc, sl, ⟨d, ed, q3⟩, k⟩ := hq116
  obtain ⟨dx, ex, ed⟩ := bnd ed
  obtain ⟨dy, ey, ed⟩ := bnd ed
  obtain ⟨x, y, rfl, rfl, hz, rfl⟩ := splitM_of ed
  refine ⟨S, ρ, fun z => z = .str x, fc, sl, ⟨_, ex, rfl⟩, fun v H1 d1 s1 dn1 q1 => ?_⟩
  subst q1
  simp only [Dn] at dn1
  subst dn1
  refine ⟨rfl, S, ρ, fun z => z = .str y, fc_same fc s1, Sl.fits (.same s1) sl, ⟨_, ey, rfl⟩, fun v2 H2 d2 s2 dn2 q2 => ?_⟩
  subst q2
  simp only [Dn] at dn2
  subst dn2
  exact ⟨x, y, rfl, rfl, hz.1, hz.2, fun l hl => k l _ _ _ ((s1.trans s2).free hl) upd_same ((s1.trans s2).trans (same_upd hl)) (dns_strs _) q3⟩
end
end L5
end
section
namespace L5
open PySem PySem.Spec PyProof.Rows L2 L3 L4
section
variable {X : Cx}
def repF : F2
 | .lst a, .int n, Q => a.length * n.toNat <= sizeLine /\ -(2 ^ 63) <= n /\ n < 2 ^ 63 /\ Q (.lst (List.replicate n.toNat a).flatten)
 | _, _, _ => False
theorem dns_rep {K : PySem.W.Frag} {S : Addr -> Prop} {H : Hp} {ds : List D} {xs : List V} (h : Dns K S H ds xs) : ∀ n : Nat, Dns K S H (List.replicate n ds).flatten (List.replicate n xs).flatten
 | 0 => Dns.nil
 | n + 1 => by
  rw [List.replicate_succ, List.replicate_succ, List.flatten_cons, List.flatten_cons]
  exact h.append (dns_rep h n)
theorem rep3 {a b : Expr} {pos : Pos} {ta tb : WE} (ha : PE3 X a ta) (hb : PE3 X b tb) : PF3 X (.BinOp a .Mult b pos) (wBin repF ta tb) := imp (pe_op op_rep ha hb) fun σ H Q h => by
 obtain ⟨S, ρ, Q3, fc, sl, ht, k⟩ := h
 refine ⟨S, ρ, _, fc, sl, ht, fun v H1 d s1 d1 q1 => ?_⟩
 refine ⟨S, ρ, _, fc_same fc s1, Sl.fits (.same s1) sl, q1, fun u H2 d2 s2 d2' q2 => ?_⟩
 cases d <;> cases d2 <;> try exact q2.elim
 rename_i ds n
 simp only [Dn] at d1 d2'
 obtain ⟨a, xs, rfl, ha, sa, da⟩ := d1
 subst d2'
 have da' := Dns.fits (.same s2) _ _ da
 obtain ⟨z1, z2, z3, q3⟩ := q2
 refine ⟨a, n, xs, rfl, rfl, s2 _ _ ha, z2, z3, by rw [<- da.len]; exact z1, fun p hp => k p _ _ _ ((s1.trans s2).free hp) upd_same ((s1.trans s2).trans (same_upd hp)) ?_ q3⟩
 exact Dns.fits ((Fits.fresh hp).trans (.same (same_upd hp))) _ _ (dns_rep da' _)
theorem tells_rep : Tells repF repLM := fun x y d Q e q => by
 cases x <;> first | (cases e; done) | skip
 cases y <;> first | (cases e; done) | skip
 rename_i a n
 have e : (if a.length * n.toNat <= szL /\ n.natAbs < 9223372036854775808 then some (D.lst (List.replicate n.toNat a).flatten) else none) = some d := e
 by_cases h : a.length * n.toNat <= szL /\ n.natAbs < 9223372036854775808
 ·rw [if_pos h] at e
  cases e
  exact ⟨by rw [sizeLine_eq]; exact h.1, by have := h.2; omega, by have := h.2; omega, q⟩
 ·rw [if_neg h] at e; cases e
theorem repL4 {a b : Expr} {fa fb : EF} {pos : Pos} (ha : PE4 X a fa) (hb : PE4 X b fb) : PF4 X (.BinOp a .Mult b pos) (eBin repLM fa fb) := cF (rep3 ha hb) (bin_w tells_rep)
def rInsert : V -> List V -> Hp -> VK -> Prop := fun x vs H Q => ∃ l xs k y, x = .ref l /\ vs = [.int k, y] /\ H l = some (.lst xs) /\ 0 <= k /\ k <= (xs.length : Int) /\ xs.length < sizeLine /\ Q .non (upd H l (.lst (xs.take k.toNat ++ y :: xs.drop k.toNat)))
theorem mt_insert : MtR X "list.insert" rInsert := by
 intro pins s σ H x vs v us Q I rx rv h
 obtain ⟨l, xs, k, y, rfl, rfl, hH, k0, k1, hz, q⟩ := h
 cases rx
 obtain ⟨u, u2, rfl, ru, ru2⟩ := vals2 rv
 obtain ⟨t, rfl⟩ := ru
 obtain ⟨z, its, n, r, hl, e⟩ := I.lstM hH
 have sz : sizeLine < 2 ^ 62 := by decide
 refine call_meets PySem.F.slot_list_insert ⟨_, e, rfl⟩ PySem.F.entry_list_insert (PySem.F.args_list_insert_3 _ _ _) (PySem.AutoListH.list_insert_list_int_val_1 l its.toArray n k t u2 (by rw [fitsIndex_both (by omega) (by omega)]; decide) (by rw [List.size_toArray]; omega)) ⟨e, ?_⟩
 refine ⟨.non, _, I.lset (its' := its.take k.toNat ++ u2 :: its.drop k.toNat) hH e ?_ ((r.take k.toNat).append (.cons ru2 (r.drop k.toNat))) ?_, rfl, q⟩
 ·show (let kk := if k < 0 then (k + ((its.toArray.size : Nat) : Int)).toNat else min k.toNat its.toArray.size; (its.toArray.extract 0 kk).push u2 ++ its.toArray.extract kk) = _
  rw [if_neg (by omega), show min k.toNat its.toArray.size = k.toNat by rw [List.size_toArray]; omega]
  simp
  exact List.take_of_length_le (by rw [List.length_drop]; exact Nat.le_refl _)
 ·rw [List.length_append, List.length_cons, List.length_take, List.length_drop]
  omega
theorem lift_ins {K : PySem.W.Frag} {n i : Nat} {fa fb : EF} {σ : L2.St} {H : Hp} {Q : VK} (h : liftX K n (wX (xIns i fa fb)) σ H Q) : tBM K "list" rInsert (tVar i) (tCons (lift K (wE fa)) (tCons (lift K (wE fb)) tNil)) σ H Q := by
 obtain ⟨H₀, S, w, ρ, G, Q3, hl, st, ⟨p, e, q⟩, k⟩ := h
 obtain ⟨ds, e0, e⟩ := bnd e
 obtain ⟨kd, ek, e⟩ := bnd e
 obtain ⟨kk, ekk, e⟩ := bnd e
 obtain ⟨d, ed, e⟩ := bnd e
 by_cases hc : d.imm = true /\ 0 <= kk /\ kk <= (ds.length : Int) /\ ds.length < szL
 ·rw [if_pos hc] at e
  cases e
  obtain ⟨hi, k0, k1, hz⟩ := hc
  have o := own_of e0
  obtain ⟨a, b, xs, hp, dn⟩ := st.own i _ o
  cases kd <;> first | (cases ekk; done) | skip
  cases ekk
  refine ⟨_, a, .inl ⟨rfl, xs, SqL.of hp⟩, S, vAll ρ, fun d => d = .int kk, st.fcH, st.all, ⟨_, ek, rfl⟩, fun v1 H1 d1 s1 d1' q1 => ?_⟩
  subst q1
  simp only [Dn] at d1'
  subst d1'
  have st1 := st.same s1
  refine ⟨S, vAll ρ, fun d' => d' = d, st1.fcH, st1.all, ⟨_, ed, rfl⟩, fun v2 H2 d2 s2 d2' q2 => ?_⟩
  subst q2
  have st2 := st1.same s2
  obtain ⟨a', b', xs', hp', dn'⟩ := st2.own i _ o
  have dl := dn'.len
  have nS : ¬ SO S w ρ (w i) := fun ⟨_, z⟩ => z i _ o rfl
  have F : Fits K (SO S w ρ) (SO S w ρ) H2 (upd H2 (w i) (.lst (xs'.take kk.toNat ++ v2 :: xs'.drop kk.toNat))) := .upd (.inl ⟨_, hp'⟩) nS
  refine ⟨w i, xs', kk, v2, rfl, rfl, hp', k0, by rw [<- dl]; exact k1, by rw [<- dl, sizeLine_eq]; exact hz, ?_⟩
  exact k w .non _ _ .non (st2.write (d' := .lst (ds.take kk.toNat ++ d2 :: ds.drop kk.toNat)) o ⟨_, upd_same, Dns.fits F _ _ (Dns.insert kk.toNat (Dn.imm hi d2') dn')⟩) (by simp only [Dn]) q
 ·rw [if_neg hc] at e; cases e
theorem ins4 {i : Nat} {x : Str} {ea eb : Expr} {p apos cpos : Pos} {fa fb : EF} (ha : PE4 X ea fa) (hb : PE4 X eb fb)
  (hN : X.N[i]? = some x := by rfl) (hv : Vis X.env.scope x := by first | exact Or.inl rfl | exact Or.inr (Or.inl rfl) | exact Or.inr (Or.inr rfl)) (hd : (x == ("__debug__" : Str)) = false := by decide) (hcd : (x == ("__classdict__" : Str)) = false := by decide)
  (hbase : attributeBase (.Name x p) "insert" X.env (eval (.Name x p) X.env) = eval (.Name x p) X.env := by rfl)
  (hfew : ((backTo cpos (starEach [ea, eb] X.env)).all (fun x => !x.1) && (backToKw cpos (keywordEach [] X.env)).all (fun x => x.1.isSome)
   && decide ([ea, eb].length + ([] : List Keyword).length + (if ([] : List Keyword).isEmpty then 0 else 1) < 30)) = true := by rfl)
  (hline : (apos.endLine == cpos.line) = true := by rfl) (hs : starEach [ea, eb] X.env = (false, eval ea X.env) :: starEach [eb] X.env := by rfl) (hs2 : starEach [eb] X.env = (false, eval eb X.env) :: starEach [] X.env := by rfl) (hplain : (backTo cpos (starEach [eb] X.env)).any (·.1) = false := by rfl) :
  PX4 X (.Call (.Attribute (.Name x p) "insert" apos) [ea, eb] [] cpos) (xIns i fa fb) :=
 imp (pe_bm PySem.F.plainAttrs_list PySem.F.slot_list_insert PySem.F.type_list_insert mt_insert (pe_var hN hv hd hcd) (pa_cons ha (pa_cons hb pa_nil hs2) hs) hbase hfew hline hs hplain) fun _ _ _ h => lift_ins h
theorem asgG4 {tg e : Expr} {f : XF} {g : GSF} {pos : Pos} (he : PX4 X e f) (hg : PG3 X tg (wG g)) (hs : swapsWithSole [tg] e pos.line X.env = pure false := by rfl) (hw : swappedStores [tg] e X.env = pure none := by rfl)
  (h1 : (assignEach [tg] X.env).map (·.2) = [assign tg X.env] := by rfl) : PS4 X (.Assign [tg] e pos) (sAsg f g) :=
 impS (ps_asg he hg hs hw h1) fun B σ H hq117 => by
  obtain ⟨H₀, S, w, ρ, G, E, hl, st, ht, ok⟩ := hq117
  unfold wS sAsg at ht
  cases e1 : (f ρ).bind fun p => g p.2 p.1 with
  | none => rw [e1] at ht; exact ht.elim
  | some ρ' =>
   rw [e1] at ht
   obtain ⟨p, ef, eg⟩ := bnd e1
   refine ⟨H₀, S, w, ρ, G, fun ρ2 d2 => ρ2 = p.1 /\ d2 = p.2, hl, st, ⟨p, ef, rfl, rfl⟩, fun w' v H' ρ2 d2 st' d' q' => ?_⟩
   obtain ⟨rfl, rfl⟩ := q'
   exact ⟨H₀, S, w', p.1, G, p.2, _, hl, st', d', ⟨ρ', eg, ht⟩, fun σ' H2 ρ3 hl' st2 q3 => ok.nx w' σ' H2 ρ3 hl' st2 q3⟩
end
section
variable {X : Cx}
section
variable {ls fs : List Str} {fr : List Nat} {sc : Scope} {tg iter elt : Expr} {ifs : List Expr} {pos : Pos} {i : Nat} {x : Str} {spos pos' : Pos}
variable {it : AF} {g : GEF} {t : TF} {e : EF}
end
end
section
variable {X : Cx}
theorem ps_nox {st : Stmt} {t : TS} (h : PS X.nox st t) : PS X st t := fun pins s σ H D I hw => wpAny_mono (h pins s σ H D (I.wish fun _ _ => False) hw) (fun _ _ q => SP.unwish q) fun _ _ z => z.elim
theorem noxS4 {st : Stmt} {f : SF} (h : PS4 X.nox st f) : PS4 X st (sNox f) := impS (ps_nox h) fun B σ H hq => by
 obtain ⟨H₀, S, w, ρ, G, E, hl, sT, ht, ok⟩ := hq
 refine ⟨H₀, S, w, ρ, G, { E with ex := fun _ => False }, hl, sT, ?_, ⟨ok.nx, ok.rt, ok.bk, ok.ct, fun _ _ _ q => q.elim⟩⟩
 unfold wS sNox at ht
 unfold wS
 cases hf : f ρ with
 | nx ρ1 => rw [hf] at ht; exact ht
 | rt d => rw [hf] at ht; exact ht
 | no => rw [hf] at ht; exact ht
 | ex c => rw [hf] at ht; exact ht.elim
end
end L5
end
section
namespace L6
open PySem PySem.Spec PyProof.Rows
def Up (l : List Nat) : Prop := l.Pairwise (· < ·)
theorem below_ok (xs : Array Nat) (j : Nat) (up : Up xs.toList) : ∀ f lo hi, hi - lo <= f -> lo <= hi -> hi <= xs.size -> (∀ i, i < lo -> xs.getD i j < j) -> (∀ i, hi <= i -> i < xs.size -> j <= xs.getD i j) ->
  SetTable.below.go xs j f lo hi <= xs.size /\ (∀ i, i < SetTable.below.go xs j f lo hi -> xs.getD i j < j) /\ ∀ i, SetTable.below.go xs j f lo hi <= i -> i < xs.size -> j <= xs.getD i j := by
 have mono : ∀ i k, i <= k -> k < xs.size -> xs.getD i j <= xs.getD k j := fun i k hik hk => by
  by_cases e : i = k
  ·subst e; exact Nat.le_refl _
  ·have h1 : i < xs.size := by omega
   have := List.pairwise_iff_getElem.mp up i k (by simpa using h1) (by simpa using hk) (by omega)
   simp only [Array.getD, h1, hk, dif_pos]
   simpa using Nat.le_of_lt this
 intro f
 induction f with
 | zero =>
  intro lo hi h1 h2 h3 h4 h5
  have : lo = hi := by omega
  subst this
  exact ⟨h3, h4, h5⟩
 | succ f ih =>
  intro lo hi h1 h2 h3 h4 h5
  unfold SetTable.below.go
  by_cases hl : lo < hi
  ·rw [if_pos hl]
   dsimp only
   by_cases hm : xs.getD ((lo + hi) / 2) j < j
   ·rw [if_pos hm]
    refine ih _ _ (by omega) (by omega) h3 (fun i hi' => ?_) h5
    exact Nat.lt_of_le_of_lt (mono i ((lo + hi) / 2) (by omega) (by omega)) hm
   ·rw [if_neg hm]
    refine ih _ _ (by omega) (by omega) (by omega) h4 fun i hi' hs => ?_
    exact Nat.le_trans (Nat.not_lt.mp hm) (mono _ i hi' hs)
  ·rw [if_neg hl]
   have : lo = hi := by omega
   subst this
   exact ⟨h3, h4, h5⟩
theorem below_at {xs : Array Nat} (up : Up xs.toList) (j : Nat) : SetTable.below xs j <= xs.size /\ (∀ i, i < SetTable.below xs j -> xs.getD i j < j) /\ ∀ i, SetTable.below xs j <= i -> i < xs.size -> j <= xs.getD i j :=
 below_ok xs j up _ _ _ (by omega) (by omega) (Nat.le_refl _) (fun i h => by omega) fun i h1 h2 => by omega
theorem below_next {xs : Array Nat} (up : Up xs.toList) {k p : Nat} (hk : xs[k]? = some p) : SetTable.below xs (p + 1) = k + 1 := by
 obtain ⟨h1, h2, h3⟩ := below_at up (p + 1)
 have hs : k < xs.size := (Array.getElem?_eq_some_iff.mp hk).1
 have ek : xs.getD k (p + 1) = p := by rw [Array.getD_eq_getD_getElem?, hk]; rfl
 have a : ¬ SetTable.below xs (p + 1) <= k := fun h => by
  have := h3 k h hs
  omega
 by_cases hn : k + 1 < SetTable.below xs (p + 1)
 ·have h4 := h2 (k + 1) hn
  have hs2 : k + 1 < xs.size := by omega
  have := List.pairwise_iff_getElem.mp up k (k + 1) (by simpa using hs) (by simpa using hs2) (by omega)
  have e2 : xs.getD (k + 1) (p + 1) = xs[k + 1] := by simp [Array.getD, hs2]
  have e3 : xs[k] = p := by have := Array.getElem?_eq_some_iff.mp hk; exact this.2
  simp only [Array.getElem_toList] at this
  omega
 ·omega
theorem below_first {xs : Array Nat} (up : Up xs.toList) : SetTable.below xs 0 = 0 := by
 obtain ⟨h1, h2, h3⟩ := below_at up 0
 by_cases h : SetTable.below xs 0 = 0
 ·exact h
 ·have := h2 0 (by omega)
  omega
theorem insertAt_list {α : Type} (xs : Array α) (p : Nat) (x : α) : (SetTable.insertAt xs p x).toList = xs.toList.take p ++ x :: xs.toList.drop p := by
 unfold SetTable.insertAt
 simp [Array.toList_extract, List.extract_eq_take_drop]
 refine List.take_of_length_le ?_; simp
theorem up_put {xs : Array Nat} (up : Up xs.toList) {j : Nat} (hj : xs[SetTable.below xs j]? ≠ some j) : Up (SetTable.insertAt xs (SetTable.below xs j) j).toList := by
 obtain ⟨h1, h2, h3⟩ := below_at up j
 rw [insertAt_list]
 unfold Up at *
 rw [List.pairwise_append]
 refine ⟨up.sublist (List.take_sublist ..), ?_, fun a ha b hb => ?_⟩
 ·rw [List.pairwise_cons]
  refine ⟨fun b hb => ?_, up.sublist (List.drop_sublist ..)⟩
  obtain ⟨i, hi, e'⟩ := List.getElem_of_mem hb; have e := e'
  rw [List.getElem_drop] at e
  have hs : SetTable.below xs j + i < xs.size := by simp at hi; omega
  have h4 := h3 (SetTable.below xs j + i) (by omega) hs
  have e2 : xs.getD (SetTable.below xs j + i) j = b := by simp only [Array.getD, hs, dif_pos]; simpa using e
  rw [e2] at h4
  by_cases e3 : b = j
  ·exfalso
   subst e3
   by_cases hi0 : i = 0
   ·subst hi0
    apply hj
    rw [Array.getElem?_eq_getElem (by simpa using hs)]
    simpa using e
   ·have hs0 : SetTable.below xs b < xs.size := by omega
    have q := List.pairwise_iff_getElem.mp up (SetTable.below xs b) (SetTable.below xs b + i) (by simpa using hs0) (by simpa using hs) (by omega)
    have h5 := h3 (SetTable.below xs b) (Nat.le_refl _) hs0
    have e4 : xs.getD (SetTable.below xs b) b = xs[SetTable.below xs b] := by simp [Array.getD, hs0]
    rw [e] at q
    simp only [Array.getElem_toList] at q
    omega
  ·omega
 ·obtain ⟨i, hi, e⟩ := List.getElem_of_mem ha
  have hi2 : i < SetTable.below xs j := by simp at hi; omega
  have hs : i < xs.size := by omega
  have h4 := h2 i hi2
  have e2 : xs.getD i j = a := by simp only [Array.getD, hs, dif_pos]; rw [<- e]; simp
  rw [e2] at h4
  rcases List.mem_cons.1 hb with hb | hb
  ·omega
  ·obtain ⟨k, hk, e5⟩ := List.getElem_of_mem hb
   rw [List.getElem_drop] at e5
   have hs2 : SetTable.below xs j + k < xs.size := by simp at hk; omega
   have q := List.pairwise_iff_getElem.mp up i (SetTable.below xs j + k) (by simpa using hs) (by simpa using hs2) (by omega)
   rw [e5] at q
   have e6 : xs.toList[i] = a := by rw [<- e]; simp
   rw [e6] at q
   exact q
theorem up_range (n : Nat) : Up (Array.range n).toList := by
 unfold Up
 rw [Array.toList_range]
 exact List.pairwise_lt_range
structure TOk (led : Bool) (t : SetTable) (n : Nat) : Prop where
 fit : t.fits n = true
 led : t.led = led
 no : t.dummies = #[]
 up : Up t.place.toList
theorem standIn_ok {led : Bool} {t : SetTable} (n : Nat) (h : t.led = led) : TOk led (t.standIn n) n := by
 refine ⟨?_, h, rfl, up_range n⟩
 unfold SetTable.fits SetTable.standIn SetTable.fill
 simp
 omega
theorem probe_empty {t : SetTable} {h : Int} (hn : t.dummies = #[]) {f : Nat -> Int} : ∀ (k : Nat) (p : SetTable.Probe) {j : Nat} {d : Option Nat}, p.dummy = none -> SetTable.probe.go t f h k p = some (.empty j d) -> d = none /\ t.place[SetTable.below t.place j]? ≠ some j := by
 intro k
 induction k with
 | zero => intro p j d _ e; unfold SetTable.probe.go at e; cases e
 | succ k ih =>
  intro p j d hd e
  unfold SetTable.probe.go at e
  have adv : (t.advance p).dummy = none := by unfold SetTable.advance; split <;> exact hd
  cases q : t.slot p.j with
  | empty =>
   rw [q] at e
   injection e with e
   injection e with e1 e2
   subst e1
   refine ⟨by rw [<- e2]; exact hd, fun z => ?_⟩
   unfold SetTable.slot at q
   dsimp only at q
   rw [z] at q
   simp at q
  | dummy =>
   exfalso
   unfold SetTable.slot at q
   dsimp only at q
   split at q
   ·cases q
   ·have : SetTable.has t.dummies p.j = false := by rw [hn]; unfold SetTable.has; simp
    rw [this] at q
    cases q
  | live i =>
   rw [q] at e
   dsimp only at e
   split at e
   ·cases e
   ·exact ih _ adv e
theorem TOk.layNew {led : Bool} {t : SetTable} {es : Array (Int × Value)} (h : TOk led t es.size) (k : Int) (x : Value) : TOk led (layNew t es k x).2.1 (layNew t es k x).1.size := by
 unfold PySem.layNew
 cases q : t.freeSlot k with
 | none =>
  dsimp only
  rw [Array.size_push]
  exact standIn_ok _ h.led
 | some r =>
  obtain ⟨slot, wd⟩ := r
  dsimp only
  unfold SetTable.freeSlot at q
  have hp : t.place[SetTable.below t.place slot]? ≠ some slot := by
   unfold SetTable.probe at q
   split at q
   ·rename_i j d e
    obtain ⟨e1, e2⟩ := probe_empty h.no _ _ rfl e
    subst e1
    cases q
    exact e2
   ·cases q
  have hd : SetTable.has t.dummies slot = false := by rw [h.no]; simp [SetTable.has]
  have ep : t.put slot = ({ t with place := SetTable.insertAt t.place (SetTable.below t.place slot) slot }, SetTable.below t.place slot) := by
   unfold SetTable.put
   rw [hd]
   rfl
  rw [ep]
  dsimp only
  unfold SetTable.orStandIn
  split
  ·rename_i hf
   exact ⟨hf, h.led, h.no, up_put h.up hp⟩
  ·exact standIn_ok _ h.led
theorem filterMap_up {β : Type} (f : Nat -> Option β) : ∀ l : List Nat, Up l -> Up ((l.filterMap fun j => (f j).map (j, ·)).map (·.1))
 | [], _ => by simp [Up]
 | a :: l, h => by
  have h' := List.pairwise_cons.1 h
  have ih := filterMap_up f l h'.2
  rw [List.filterMap_cons]
  cases q : f a with
  | none => exact ih
  | some b =>
   dsimp only [Option.map_some]
   rw [List.map_cons]
   refine List.pairwise_cons.mpr ⟨fun c hc => ?_, ih⟩
   obtain ⟨p, hp, e⟩ := List.mem_map.mp hc
   obtain ⟨j, hj, e2⟩ := List.mem_filterMap.mp hp
   cases q2 : f j with
   | none => rw [q2] at e2; cases e2
   | some b2 =>
    rw [q2] at e2
    cases e2
    rw [<- e]
    exact h'.1 j hj
theorem TOk.relay {led : Bool} {t : SetTable} {es : Array (Int × Value)} (h : TOk led t es.size) (wanted : Nat) : TOk led (relayAll t es wanted).2.1 (relayAll t es wanted).1.size := by
 unfold relayAll
 cases q : t.relaid (es.map (·.1)) wanted with
 | none => exact standIn_ok _ h.led
 | some r =>
  obtain ⟨t', order⟩ := r
  dsimp only
  split
  ·rename_i hc
   rw [Bool.and_eq_true] at hc
   unfold SetTable.relaid SetTable.laid at q
   cases q2 : SetTable.layClean (SetTable.sizeAbove wanted - 1) (es.map (·.1)) with
   | none => rw [q2] at q; cases q
   | some owner =>
    rw [q2] at q
    cases q
    refine ⟨hc.2, h.led, rfl, ?_⟩
    dsimp only
    exact filterMap_up _ _ List.pairwise_lt_range
  ·exact standIn_ok _ h.led
theorem fresh_ok (led : Bool) : TOk led (SetTable.fresh 0 0 led) 0 := ⟨by rfl, rfl, rfl, List.Pairwise.nil⟩
def valE (e : Int × Value) : Int := match e.2 with
 | .int m _ => m
 | _ => 0
def EntOk (e : Int × Value) : Prop := ∃ m t, e = (hashInt m, Value.int m t)
def SetI (led : Bool) (o : Obj) (ns : List Int) : Prop := ∃ es ep t, o.ExactSet /\ o.data = .set es ep t /\ (∀ e ∈ es.toList, EntOk e) /\ (es.toList.map valE).Perm ns /\ TOk led t es.size /\ es.size < scanBound
def addN (ns : List Int) (k : Int) : List Int := if k ∈ ns then ns else ns ++ [k]
theorem elems_of (prog : Program) (w : World) {l : List (Int × Value)} (h : ∀ e ∈ l, EntOk e) : ElemsOf (intKind prog w) l := fun e he => by
 obtain ⟨m, t, rfl⟩ := h e he
 exact ⟨⟨m, intKind_is prog w m t, rfl⟩, rfl⟩
theorem is_val (prog : Program) (w : World) {e : Int × Value} (h : EntOk e) (k : Int) : (intKind prog w).is k e.2 = decide (k = valE e) := by
 obtain ⟨m, t, rfl⟩ := h
 exact KeyKind.is_eq_decide (intKind_is prog w m t) k
section
variable {prog : Program} {w : World} {A : Around} {E : Value -> Shared -> Prop} {s : Shared}
theorem stored {a : Addr} {o : Obj} {es es' : Array (Int × Value)} {ep : Nat} {t t' : SetTable} (ho : s.heap.get? a = some o) (hd : o.data = .set es ep t) :
  (s.heap.update a (Obj.putSet es' t')).get? a = some { o with data := .set es' (ep + 1) t' } := by
 have q := Heap.get?_update_self (Obj.putSet es' t') ho (by rw [putSet_of es' t' hd]; rfl)
 rwa [putSet_of es' t' hd] at q
theorem add_int {a : Addr} {o : Obj} {ns : List Int} {k : Int} {tk : Tok} {led : Bool} {Q : Bool -> Shared -> Prop} (ho : s.heap.get? a = some o) (hi : SetI led o ns) (hb : ns.length + 1 < scanBound)
  (h : ∀ h' o' b, Heap.SameBut a s.heap h' -> h'.get? a = some o' -> SetI led o' (addN ns k) -> Q b { s with heap := h', toks := s.toks + 1 }) : wpAny (model prog w) A (setAdd a (.int k tk)) Q E s := by
 obtain ⟨es, ep, t, hx, hd, hE, hp, hT, hs⟩ := hi
 have hel := elems_of prog w hE
 have calm : ∀ (b : Bool) (s1 : Shared) (Q1 : Unit -> Shared -> Prop), Q1 () s1 -> wpAny (model prog w) A (match b with | true => rule "set.scan.the-table-gave-way" | false => pure ()) Q1 E s1 := fun b s1 Q1 q => by
  cases b
  ·exact wpAny_pure q
  ·exact wpAny_rule q
 have hk := intKind_is prog w k tk
 unfold setAdd
 refine wpAny_holding (wpAny_bind ((intKind prog w).pyHash hk ?_))
 unfold setAddHashed setAddHashedIn setAddByScan
 refine wpAny_holding (wpAny_bind (wpAny_setState_of (s := { s with toks := s.toks + 1 }) ho hd hT.fit ?_))
 dsimp only
 rw [if_pos (byScan_of (x := .int k tk) rfl hs hel)]
 refine wpAny_bind (wpAny_bind (wpAny_rule (wpAny_bind (wpAny_setScan_of (s := { s with toks := s.toks + 1 }) hk ho hd hT.fit hel ?_))))
 cases hf : es.toList.findIdx? (fun e => (intKind prog w).is k e.2) with
 | some j =>
  obtain ⟨hj, e, _⟩ := List.findIdx?_eq_some_iff_getElem.1 hf
  have hm := List.getElem_mem hj
  rw [is_val prog w (hE _ hm), decide_eq_true_eq] at e
  have kn : k ∈ ns := hp.mem_iff.1 (e ▸ List.mem_map_of_mem hm)
  apply wpAny_pure; apply wpAny_pure
  refine h s.heap o false (Heap.SameBut.refl ..) ho ?_
  rw [addN, if_pos kn]
  exact ⟨es, ep, t, hx, hd, hE, hp, hT, hs⟩
 | none =>
  have kn : k ∉ ns := fun z => by
   obtain ⟨e, he, ee⟩ := List.mem_map.1 (hp.mem_iff.2 z)
   have q := List.findIdx?_eq_none_iff.1 hf e he
   rw [is_val prog w (hE e he), ee] at q
   simp at q
  dsimp only
  have p1 := layNew_perm t es (hashInt k) (.int k tk)
  have t1 := hT.layNew (hashInt k) (.int k tk)
  show wpAny _ _ _ _ _ _
  have eh : (intKind prog w).hash k = hashInt k := rfl
  rw [eh]
  generalize layNew t es (hashInt k) (.int k tk) = L at p1 t1 ⊢
  obtain ⟨es1, tb, wd, gv⟩ := L
  rw [Array.toList_push] at p1
  dsimp only at p1 t1 ⊢
  have e1 : ∀ e ∈ es1.toList, EntOk e := fun e he => by
   rcases List.mem_append.1 (p1.mem_iff.1 he) with z | z
   ·exact hE e z
   ·exact ⟨k, tk, List.mem_singleton.1 z⟩
  have n1 : (es1.toList.map valE).Perm (ns ++ [k]) := (p1.map valE).trans (by rw [List.map_append]; exact hp.append_right _)
  have l1 : es1.size = ns.length + 1 := by have q := n1.length_eq; simpa using q
  have z1 : es1.size < scanBound := by omega
  have fin : ∀ h' o', Heap.SameBut a s.heap h' -> h'.get? a = some o' -> SetI led o' (ns ++ [k]) -> Q true { s with heap := h', toks := s.toks + 1 } := fun h' o' q1 q2 q3 => h h' o' true q1 q2 (by rw [addN, if_neg kn]; exact q3)
  have tail : ∀ tb2 : SetTable, TOk led tb2 es1.size -> wpAny (model prog w) A (do
    storeSet a es1 tb2
    if (!wd && tb2.tooFull) = true then do
      (match (relayAll tb2 es1 (SetTable.grown es1.size)).2.2 with | true => rule "set.scan.the-table-gave-way" | false => pure ())
      storeSet a (relayAll tb2 es1 (SetTable.grown es1.size)).1 (relayAll tb2 es1 (SetTable.grown es1.size)).2.1
      pure (some true)
     else pure (some true)) (fun r s' => wpAny (model prog w) A (match r with | some added => pure added | none => setAddHashedIn a (.int k tk) (hashInt k) 99999) Q E s') E { s with toks := s.toks + 1 } := fun tb2 t2 => by
   refine wpAny_bind (wpAny_storeSet_of (s := { s with toks := s.toks + 1 }) ho hd ?_ (fits_of_scanBound z1))
   have g1 := stored (es' := es1) (t' := tb2) ho hd
   have i1 : SetI led { o with data := .set es1 (ep + 1) tb2 } (ns ++ [k]) := ⟨es1, ep + 1, tb2, hx, rfl, e1, n1, t2, z1⟩
   split
   ·have p2 := relayAll_perm tb2 es1 (SetTable.grown es1.size)
    have t3 := t2.relay (SetTable.grown es1.size)
    generalize relayAll tb2 es1 (SetTable.grown es1.size) = L at p2 t3 ⊢
    obtain ⟨es2, tc, gv2⟩ := L
    dsimp only at p2 t3 ⊢
    have l2 : es2.size = es1.size := by have q := p2.length_eq; simpa using q
    refine wpAny_bind (calm gv2 _ _ (wpAny_bind (wpAny_storeSet_of (s := { s with heap := s.heap.update a (Obj.putSet es1 tb2), toks := s.toks + 1 }) g1 rfl (wpAny_pure (wpAny_pure ?_)) (fits_of_scanBound (by omega)))))
    exact fin _ _ ((Heap.SameBut.update ..).trans (Heap.SameBut.update ..)) (stored (s := { s with heap := s.heap.update a (Obj.putSet es1 tb2) }) g1 rfl) ⟨es2, _, tc, hx, rfl, fun e he => e1 e (p2.mem_iff.1 he), (p2.map valE).trans n1, t3, by omega⟩
   ·exact wpAny_pure (wpAny_pure (fin _ _ (Heap.SameBut.update ..) g1 i1))
  refine wpAny_bind (calm gv _ _ ?_)
  split
  ·apply wpAny_bind; apply wpAny_pure
   exact tail _ t1
  ·apply wpAny_bind; apply wpAny_pure
   exact tail _ t1
end
def addAll : List Int -> List Int -> List Int
 | ns, [] => ns
 | ns, k :: r => addAll (addN ns k) r
def ledOf (w : World) : Bool := !(w.params.followText "set-order")
def emptyS (led : Bool) : Obj := { cls := .type "set", dict := none, data := .set #[] 0 (.fresh 0 0 led) }
theorem emptyS_ok (led : Bool) : SetI led (emptyS led) [] := ⟨#[], 0, .fresh 0 0 led, ⟨rfl, rfl, rfl⟩, rfl, fun e he => by simp at he, List.Perm.nil, fresh_ok led, by decide⟩
theorem addN_len (ns : List Int) (k : Int) : (addN ns k).length <= ns.length + 1 := by
 unfold addN
 split
 ·omega
 ·simp
section
variable {prog : Program} {w : World} {A : Around} {E : Value -> Shared -> Prop} {s : Shared}
theorem fill_set {I S t : Addr} {items : Array Value} {ns : List Int} {led : Bool} {R : Result -> Shared -> Prop} (hh : A.handled = none) (hi : IntsAre items.toList ns) (hI : t ≠ I) (hSI : S ≠ I) (hSt : S ≠ t) (hb : ns.length + 1 < scanBound) :
  ∀ (r : List Int) (i : Nat) (s : Shared) (ms : List Int) (o : Obj), r = ns.drop i -> i <= ns.length -> s.heap.IsTupleIter I t i -> s.heap.IsTuple t items -> s.heap.get? S = some o -> SetI led o ms -> ms.length <= i ->
   (∀ h' tk o', (∀ b u, b ≠ S -> b ≠ I -> s.heap.get? b = some u -> h'.get? b = some u) -> h'.get? S = some o' -> SetI led o' (addAll ms r) -> R (.ok (.ret .none)) { s with heap := h', toks := tk }) -> codeAny (model prog w) A (.builtin "set.update.loop" ⟨[.ref S, .ref I], []⟩) R s := by
 have W := Walks.tuple (prog := prog) (w := w) (A := A.in1) hh I t hI items
 have hn : items.size = ns.length := by have q := IntsAre.length hi; simpa using q
 intro r
 induction r with
 | nil =>
  intro i s ms o er hil it tp ho hS _ fin
  have e : i = items.size := by
   have q := congrArg List.length er
   rw [List.length_drop, List.length_nil] at q
   omega
  subst e
  apply codeAny_builtin F.entry_set_update_loop
  rw [Around.under_plainId F.plain_set_update_loop]
  unfold Builtin.«set.update.loop»
  refine wpAny_bind (W.done s _ _ ⟨it, tp⟩ fun h' tk keep => wpAny_pure ?_)
  exact fin h' tk o (fun b u h1 h2 e => keep b u (by simpa using h2) e) (keep S o (by simpa using hSI) ho) hS
 | cons k r ih =>
  intro i s ms o er hil it tp ho hS hm fin
  have hlt : i < ns.length := by
   have q := congrArg List.length er
   rw [List.length_drop, List.length_cons] at q
   omega
  have ek : ns[i]? = some k := by
   have q : (ns.drop i)[0]? = some k := by rw [<- er]; rfl
   rwa [List.getElem?_drop, Nat.add_zero] at q
  apply codeAny_builtin F.entry_set_update_loop
  rw [Around.under_plainId F.plain_set_update_loop]
  unfold Builtin.«set.update.loop»
  refine wpAny_bind (W.item i s _ _ (by omega) ⟨it, tp⟩ fun v h1 tk hv st keep => ?_)
  obtain ⟨t1, rfl⟩ := IntsAre.int_at hi i v (by rw [Array.getElem?_toList]; exact hv)
  have e2 : ns.getD i 0 = k := by rw [List.getD_eq_getElem?_getD, ek]; rfl
  rw [e2]
  refine wpAny_bind (wpAny_holding (add_int (s := { s with heap := h1, toks := tk }) (keep S o (by simpa using hSI) ho) hS (by omega) fun h2 o2 _ sb g2 i2 => wpAny_pure ⟨plainId_quiet F.plain_set_update_loop _, ?_⟩))
  have it2 : h2.IsTupleIter I t (i + 1) := st.1.at fun o e => by rw [sb.2 I (Ne.symm hSI)]; exact e
  have tp2 : h2.IsTuple t items := st.2.at fun o e => by rw [sb.2 t (Ne.symm hSt)]; exact e
  refine ih (i + 1) { s with heap := h2, toks := tk + 1 } _ o2 ?_ (by omega) it2 tp2 g2 i2 (Nat.le_trans (addN_len ms k) (by omega)) fun h3 tk3 o3 k3 g3 i3 => fin h3 tk3 o3 (fun b u n1 n2 e => k3 b u n1 n2 ?_) g3 i3
  ·have q := congrArg List.tail er
   rw [List.tail_drop] at q
   exact q
  ·show h2.get? b = some u
   rw [sb.2 b n1]
   exact keep b u (by simpa using n2) e
theorem new_set (x : Value) : MeetsIn prog w (Builtin.«set.__new__» ⟨[.type "set", x], []⟩) (fun _ R s => R (.ok (.ret (.ref s.heap.objs.size))) { s with heap := s.heap.push (emptyS (ledOf w)) }) := by
 refine .of_wp fun A R s h => ?_
 have hs := sub_set_self
 unfold Builtin.«set.__new__» Builtin.Frozenset.newClass newSet setsByText
 wp_walk
 apply wpAny_askSetting; apply wpAny_pure
 dsimp only
 simp only [newObj]
 exact wpAny_bind (wpAny_alloc (wpAny_pure (wpAny_pure ⟨_, rfl, h⟩)))
theorem init_set {S t : Addr} {items : Array Value} {ns : List Int} {led : Bool} (hi : IntsAre items.toList ns) (hSt : S ≠ t) (hb : ns.length + 1 < scanBound) :
  MeetsIn prog w (Builtin.«set.__init__» ⟨[.ref S, .ref t], []⟩) (fun A R s => A.handled = none /\ s.heap.IsTuple t items /\ s.heap.get? S = some (emptyS led) /\
   ∀ h' tk o', (∀ b u, b ≠ S -> b < s.heap.objs.size -> s.heap.get? b = some u -> h'.get? b = some u) -> h'.get? S = some o' -> SetI led o' (addAll [] ns) -> R (.ok (.ret .none)) { s with heap := h', toks := tk }) := by
 refine .of_wp fun A R s h => ?_
 obtain ⟨hh, tp, hS, h⟩ := h
 have T1 : s.TypeIs (.ref S) "set" := ⟨_, hS, rfl⟩
 have T2 := tp.typeIs
 have s1 := F.sub_tuple_set
 have s2 := F.sub_tuple_frozenset
 obtain ⟨ot, hot, hct, nt, hdt⟩ := id tp
 unfold Builtin.«set.__init__»
 unfold noKeywords Builtin.Frozenset.updateFrom
 generalize hP : pyIter = P
 wp_walk
 subst hP
 have lS : S < s.heap.objs.size := Heap.lt_size hS
 have lt : t < s.heap.objs.size := Heap.lt_size hot
 refine wpAny_pyIter_tuple tp (wpAny_bind (wpAny_runValue ?_))
 refine fill_set (A := A.in1) (t := t) (S := S) hh hi (Nat.ne_of_lt lt) (Nat.ne_of_lt lS) hSt hb ns 0 _ [] (emptyS led) rfl (Nat.zero_le _) ⟨_, Heap.get?_push_size _ rfl, rfl, rfl⟩ (tp.push _) (Heap.get?_push_of_some _ hS) (emptyS_ok led) (Nat.le_refl _) fun h' tk o' keep g i => ?_
 exact wpAny_pure (wpAny_pure ⟨_, rfl, h h' tk o' (fun b u n1 l e => keep b u n1 (Nat.ne_of_lt l) (Heap.get?_push_of_some _ e)) g i⟩)
theorem call_set {t : Addr} {items : Array Value} {ns : List Int} {Q : Value -> Shared -> Prop} (hh : A.handled = none) (hi : IntsAre items.toList ns) (tp : s.heap.IsTuple t items) (hb : ns.length + 1 < scanBound)
  (h : ∀ h' tk o', (∀ b u, s.heap.get? b = some u -> h'.get? b = some u) -> h'.get? s.heap.objs.size = some o' -> SetI (ledOf w) o' (addAll [] ns) -> Q (.ref s.heap.objs.size) { s with heap := h', toks := tk }) :
  wpAny (model prog w) A (call (.type "set") [.ref t]) Q E s := by
 obtain ⟨c, tl, m1⟩ := F.called_set.mro
 have m2 := F.called_set.made
 have m3 := F.called_set.sub
 have m4 := F.called_set.notType
 have m5 := F.called_set.canCreate
 have m6 := F.typeCall_set_1 (.ref t)
 obtain ⟨ot, hot, _⟩ := id tp
 have lt : t < s.heap.objs.size := Heap.lt_size hot
 refine wpAny_call (codeAny_of_tree (wpAny_pure ⟨Code.quiet_builtin _ (by decide +kernel), codeAny_builtin F.entry_type_call ?_⟩))
 rw [Around.under_plain (weight_type_call_type ..) (units_type_call_type ..)]
 wp_walk
 have c1 : codeAny (model prog w) A.in1 (.call (.builtin "set.__new__") ⟨[.type "set", .ref t], []⟩) (fun r s1 => r = .ok (.ret (.ref s.heap.objs.size)) /\ s1 = { s with heap := s.heap.push (emptyS (ledOf w)) }) s :=
  codeAny_call_builtin F.plain_set_new F.entry_set_new (wpAny_of_eq (F.newCall_set_1 _) (new_set (.ref t) A.in1 (fun r s1 => r = .ok (.ret (.ref s.heap.objs.size)) /\ s1 = { s with heap := s.heap.push (emptyS (ledOf w)) }) s ⟨rfl, rfl⟩))
 refine codeAny_mono c1 fun r s1 hr => ?_
 obtain ⟨rfl, rfl⟩ := hr
 dsimp only
 have g1 : (s.heap.push (emptyS (ledOf w))).get? s.heap.objs.size = some (emptyS (ledOf w)) := Heap.get?_push_size _ rfl
 have T1 : Shared.TypeIs { s with heap := s.heap.push (emptyS (ledOf w)) } (.ref s.heap.objs.size) "set" := ⟨_, g1, rfl⟩
 have m7 := F.called_set.init.lookup
 have m8 := F.called_set.init.bind (.ref s.heap.objs.size)
 wp_walk
 have c2 : codeAny (model prog w) A.in1 (.call (.builtin "set.__init__") ⟨[.ref s.heap.objs.size, .ref t], []⟩) (fun r s2 => ∃ h' tk o', r = .ok (.ret .none) /\ s2 = { s with heap := h', toks := tk } /\
   (∀ b u, s.heap.get? b = some u -> h'.get? b = some u) /\ h'.get? s.heap.objs.size = some o' /\ SetI (ledOf w) o' (addAll [] ns)) { s with heap := s.heap.push (emptyS (ledOf w)) } :=
  codeAny_call_builtin F.called_set.init.plain F.entry_set_init (check_set_init_1 T1 (init_set (led := ledOf w) hi (Nat.ne_of_gt lt) hb A.in1 (fun r s2 => ∃ h' tk o', r = .ok (.ret .none) /\ s2 = { s with heap := h', toks := tk } /\
   (∀ b u, s.heap.get? b = some u -> h'.get? b = some u) /\ h'.get? s.heap.objs.size = some o' /\ SetI (ledOf w) o' (addAll [] ns)) { s with heap := s.heap.push (emptyS (ledOf w)) } ⟨hh, tp.push _, g1, fun h' tk o' keep g i =>
    ⟨h', tk, o', rfl, rfl, fun b u e => keep b u (Nat.ne_of_lt (Heap.lt_size e)) (by rw [Heap.size_push]; exact Nat.lt_succ_of_lt (Heap.lt_size e)) (Heap.get?_push_of_some _ e), g, i⟩⟩))
 refine codeAny_mono c2 fun r s2 hr => ?_
 obtain ⟨h', tk, o', rfl, rfl, keep, g, i⟩ := hr
 refine wpAny_pure ?_
 dsimp only
 rw [if_neg (by decide)]
 exact wpAny_pure (h h' tk o' keep g i)
end
namespace Si
theorem slot_next : Slot "set_iterator" "__next__" "set_iterator.__next__" := Slot.of (owner := "set_iterator") (n := "__next__") (by rw [typeLookup_type, builtinLookup_eq_fast]; kernel_rfl) (by decide +kernel) (by decide +kernel) (by decide +kernel) (Or.inl (by decide +kernel)) (by rw [isSubtype_type]; kernel_rfl)
theorem slot_iter : Slot "set_iterator" "__iter__" "set_iterator.__iter__" := Slot.of (owner := "set_iterator") (n := "__iter__") (by rw [typeLookup_type, builtinLookup_eq_fast]; kernel_rfl) (by decide +kernel) (by decide +kernel) (by decide +kernel) (Or.inl (by decide +kernel)) (by rw [isSubtype_type]; kernel_rfl)
theorem entry_next : entryFor table "set_iterator.__next__" = some Builtin.«set_iterator.__next__» := entryFor_of_tree (by kernel_rfl)
theorem args_next (a : Value) : argsOk "set_iterator.__next__" ⟨[a], []⟩ := by unfold argsOk; kernel_rfl
theorem args_iter (a : Value) : argsOk "set_iterator.__iter__" ⟨[a], []⟩ := by unfold argsOk; kernel_rfl
theorem entry_iter : entryFor table "set_iterator.__iter__" = some Builtin.«dict_keyiterator.__iter__» :=
 entryFor_alias (id' := "dict_keyiterator.__iter__") (by kernel_rfl) (by decide +kernel) (by decide +kernel) (by kernel_rfl)
theorem entry_set_iter : entryFor table "set.__iter__" = some Builtin.«frozenset.__iter__» :=
 entryFor_alias (id' := "frozenset.__iter__") (by kernel_rfl) (by decide +kernel) (by decide +kernel) (by kernel_rfl)
end Si
def IsSi (h : Heap) (I S : Addr) (f : Value) (i n ep : Nat) : Prop := ∃ o, h.get? I = some o /\ o.cls = .type "set_iterator" /\ o.data = .fields #[f, rawInt i, .ref S, rawInt n, rawInt ep]
section
variable {prog : Program} {w : World} {A : Around} {E : Value -> Shared -> Prop} {s : Shared}
theorem IsSi.typeIs {I S : Addr} {f : Value} {i n ep : Nat} (x : IsSi s.heap I S f i n ep) : s.TypeIs (.ref I) "set_iterator" := let ⟨o, ho, hc, _⟩ := x; ⟨o, ho, hc⟩
theorem byText_at {b : Bool} {Q : Bool -> Shared -> Prop} (hb : w.params.followText "set-order" = b) (h : Q b s) : wpAny (model prog w) A setsByText Q E s := by
 unfold setsByText
 refine wpAny_bind (wpAny_askSetting (wpAny_pure ?_))
 rw [<- hb] at h
 exact h
theorem setNext_place {S : Addr} {o : Obj} {es : Array (Int × Value)} {ep i q : Nat} {t : SetTable} {Q : Option (Value × Nat) -> Shared -> Prop} (hw : ledOf w = true) (ho : s.heap.get? S = some o) (hd : o.data = .set es ep t) (hT : TOk true t es.size)
  (hp : ¬ (!t.plain && es.size > 1) = true) (hq : SetTable.below t.place q = i) (h : Q (match es[i]?, t.place[i]? with | some (_, x), some j => some (x, j + 1) | _, _ => none) s) (k : Nat) : wpAny (model prog w) A (setNext S q k ep) Q E s := by
 have hb : w.params.followText "set-order" = false := by unfold ledOf at hw; simpa using hw
 unfold setNext
 refine wpAny_bind (wpAny_setState_of ho hd hT.fit ?_)
 dsimp only
 refine wpAny_bind (byText_at hb ?_)
 rw [if_neg (by decide)]
 split
 ·rename_i z
  exact absurd z hp
 refine wpAny_bind ?_
 show wpAny _ _ (if (!t.led && !es.isEmpty) = true then unsupported "set:maker-not-led" else pure ()) _ _ _
 rw [hT.led, if_neg (by simp)]
 refine wpAny_pure ?_
 rw [hq]
 exact wpAny_pure h
theorem next_int {I S : Addr} {o : Obj} {es : Array (Int × Value)} {ep i q : Nat} {t : SetTable} {v : Value} {p : Nat} {Q : Option Value -> Shared -> Prop} (ho : s.heap.get? S = some o) (hd : o.data = .set es ep t) (hf : t.fits es.size = true) (it : IsSi s.heap I S (rawInt q) i es.size ep)
  (hN : ∀ (Q1 : Option (Value × Nat) -> Shared -> Prop) (E1 : Value -> Shared -> Prop), Q1 (some (v, p)) s -> wpAny (model prog w) A.in1 (setNext S q i ep) Q1 E1 s)
  (hQ : ∀ h', IsSi h' I S (rawInt p) (i + 1) es.size ep -> Heap.SameBut I s.heap h' -> Q (some v) { s with heap := h' }) : wpAny (model prog w) A (pyNext (.ref I)) Q E s := by
 have tn := it.typeIs
 obtain ⟨oi, hoi, hci, hdi⟩ := it
 unfold pyNext
 refine wpAny_bind (wpAny_attempt (wpAny_callSpecial?_slot (name := Str.ofString "__next__") tn Si.slot_next (wpAny_call_entry Si.slot_next tn Si.entry_next ?_ (Si.args_next _))))
 unfold Builtin.«set_iterator.__next__»
 wp_walk
 rw [hdi]
 refine wpAny_pure ?_
 dsimp only [rawInt]
 refine wpAny_bind (wpAny_setEntries_of ho hd hf ?_)
 rw [if_neg (by simp)]
 refine wpAny_bind (hN _ _ ?_)
 dsimp only
 refine wpAny_bind (wpAny_setField hoi hdi (by simp) ?_)
 have g1 := Heap.get?_update_self (Obj.mapFields (·.setIfInBounds 0 (Value.int (p : Int) 0))) hoi (Obj.isFreed_of_fields (Obj.data_mapFields hdi _))
 refine wpAny_bind (wpAny_setField (s := { s with heap := s.heap.update I (Obj.mapFields (·.setIfInBounds 0 (Value.int (p : Int) 0))) }) g1 (Obj.data_mapFields hdi _) (by simp) (wpAny_pure ⟨_, rfl, wpAny_pure (hQ _ ⟨_, Heap.get?_update_self _ g1 (Obj.isFreed_of_fields (Obj.data_mapFields (Obj.data_mapFields hdi _) _)), ?_, ?_⟩ ((Heap.SameBut.update ..).trans (Heap.SameBut.update ..)))⟩))
 ·exact (Obj.cls_mapFields ..).trans ((Obj.cls_mapFields ..).trans hci)
 ·rw [Obj.data_mapFields (Obj.data_mapFields hdi _)]
  simp [rawInt]
theorem next_intE {I S : Addr} {o : Obj} {es : Array (Int × Value)} {ep i q : Nat} {t : SetTable} {Q : Option Value -> Shared -> Prop} (hh : A.handled = none) (ho : s.heap.get? S = some o) (hd : o.data = .set es ep t) (hf : t.fits es.size = true) (it : IsSi s.heap I S (rawInt q) i es.size ep)
  (hN : ∀ (Q1 : Option (Value × Nat) -> Shared -> Prop) (E1 : Value -> Shared -> Prop), Q1 none s -> wpAny (model prog w) A.in1 (setNext S q i ep) Q1 E1 s)
  (hQ : ∀ h', Heap.ExtBut I s.heap h' -> Q none { s with heap := h' }) : wpAny (model prog w) A (pyNext (.ref I)) Q E s := by
 have tn := it.typeIs
 have hA : A.in1.handled = none := hh
 obtain ⟨oi, hoi, hci, hdi⟩ := it
 unfold pyNext
 refine wpAny_bind (wpAny_attempt (wpAny_callSpecial?_slot (name := Str.ofString "__next__") tn Si.slot_next (wpAny_call_entry Si.slot_next tn Si.entry_next ?_ (Si.args_next _))))
 unfold Builtin.«set_iterator.__next__»
 wp_walk
 rw [hdi]
 refine wpAny_pure ?_
 dsimp only [rawInt]
 refine wpAny_bind (wpAny_setEntries_of ho hd hf ?_)
 rw [if_neg (by simp)]
 refine wpAny_bind (hN _ _ ?_)
 dsimp only
 wp_walk using wpAny_setField hoi hdi (by simp)
 unfold raiseNew
 apply wpAny_bind
 apply wpAny_handled
 rw [hA]
 refine wpAny_bind (wpAny_pure (wpAny_throw (wpAny_bind ?_)))
 refine wpAny_isInstance (b := true) (T := "StopIteration") ?_ isSubtype_stop ?_
 ·exact ⟨_, Heap.get?_push_size _ rfl, rfl⟩
 apply wpAny_pure
 apply hQ
 exact ((Heap.SameBut.update ..).extBut.push _).push _
theorem next_ref {I S T : Addr} {o : Obj} {es : Array (Int × Value)} {ep i j : Nat} {t : SetTable} {v : Value} {hv : Int} {ps : Array Value} {Q : Option Value -> Shared -> Prop} (ho : s.heap.get? S = some o) (hd : o.data = .set es ep t) (hf : t.fits es.size = true) (it : IsSi s.heap I S (.ref T) i es.size ep)
  (ht : s.heap.IsTuple T ps) (hp : ps[i]? = some (rawInt j)) (he : es[j]? = some (hv, v))
  (hQ : ∀ h', IsSi h' I S (.ref T) (i + 1) es.size ep -> Heap.SameBut I s.heap h' -> Q (some v) { s with heap := h' }) : wpAny (model prog w) A (pyNext (.ref I)) Q E s := by
 have tn := it.typeIs
 obtain ⟨oi, hoi, hci, hdi⟩ := it
 obtain ⟨oT, hoT, _, nT, hdT⟩ := ht
 unfold pyNext
 refine wpAny_bind (wpAny_attempt (wpAny_callSpecial?_slot (name := Str.ofString "__next__") tn Si.slot_next (wpAny_call_entry Si.slot_next tn Si.entry_next ?_ (Si.args_next _))))
 unfold Builtin.«set_iterator.__next__»
 wp_walk
 rw [hdi]
 refine wpAny_pure ?_
 dsimp only [rawInt]
 refine wpAny_bind (wpAny_setEntries_of ho hd hf ?_)
 rw [if_neg (by simp)]
 unfold seqItems?
 refine wpAny_bind (wpAny_bind (wpAny_load hoT ?_))
 rw [hdT]
 refine wpAny_pure ?_
 have e1 : ps[((i : Nat) : Int).toNat]? = some (.int (j : Int) 0) := hp
 dsimp only
 rw [e1]
 dsimp only
 unfold setNextDrawn
 refine wpAny_bind (wpAny_bind (wpAny_setState_of ho hd hf ?_))
 dsimp only
 rw [if_neg (by simp)]
 have e2 : es[((j : Nat) : Int).toNat]? = some (hv, v) := he
 rw [e2]
 refine wpAny_pure ?_
 refine wpAny_bind (wpAny_setField hoi hdi (by simp) (wpAny_pure ⟨_, rfl, wpAny_pure (hQ _ ⟨_, Heap.get?_update_self _ hoi (Obj.isFreed_of_fields (Obj.data_mapFields hdi _)), ?_, ?_⟩ (Heap.SameBut.update ..))⟩))
 ·exact (Obj.cls_mapFields ..).trans hci
 ·rw [Obj.data_mapFields hdi]
  simp [rawInt]
theorem next_refE {I S T : Addr} {o : Obj} {es : Array (Int × Value)} {ep i : Nat} {t : SetTable} {ps : Array Value} {Q : Option Value -> Shared -> Prop} (hh : A.handled = none) (ho : s.heap.get? S = some o) (hd : o.data = .set es ep t) (hf : t.fits es.size = true) (it : IsSi s.heap I S (.ref T) i es.size ep)
  (ht : s.heap.IsTuple T ps) (hp : ps[i]? = none) (hQ : ∀ h', Heap.ExtBut I s.heap h' -> Q none { s with heap := h' }) : wpAny (model prog w) A (pyNext (.ref I)) Q E s := by
 have tn := it.typeIs
 have hA : A.in1.handled = none := hh
 obtain ⟨oi, hoi, hci, hdi⟩ := it
 obtain ⟨oT, hoT, _, nT, hdT⟩ := ht
 unfold pyNext
 refine wpAny_bind (wpAny_attempt (wpAny_callSpecial?_slot (name := Str.ofString "__next__") tn Si.slot_next (wpAny_call_entry Si.slot_next tn Si.entry_next ?_ (Si.args_next _))))
 unfold Builtin.«set_iterator.__next__»
 wp_walk
 rw [hdi]
 refine wpAny_pure ?_
 dsimp only [rawInt]
 refine wpAny_bind (wpAny_setEntries_of ho hd hf ?_)
 rw [if_neg (by simp)]
 unfold seqItems?
 refine wpAny_bind (wpAny_bind (wpAny_load hoT ?_))
 rw [hdT]
 refine wpAny_pure ?_
 have e1 : ps[((i : Nat) : Int).toNat]? = none := hp
 dsimp only
 rw [e1]
 dsimp only
 wp_walk using wpAny_setField hoi hdi (by simp), wpAny_setField (Heap.get?_update_self _ hoi (Obj.isFreed_of_fields (Obj.data_mapFields hdi _))) (Obj.data_mapFields hdi _) (by simp)
 unfold raiseNew
 apply wpAny_bind
 apply wpAny_handled
 rw [hA]
 refine wpAny_bind (wpAny_pure (wpAny_throw (wpAny_bind ?_)))
 refine wpAny_isInstance (b := true) (T := "StopIteration") ?_ isSubtype_stop ?_
 ·exact ⟨_, Heap.get?_push_size _ rfl, rfl⟩
 apply wpAny_pure
 apply hQ
 exact (((Heap.SameBut.update ..).trans (Heap.SameBut.update ..)).extBut.push _).push _
end
end L6
end
section
namespace L6
open PySem PySem.Spec PyProof.Rows
theorem choose_at {M : Model} {A : Around} {E : Value -> Shared -> Prop} {s : Shared} {src : Source} {n : Nat} {Q : Nat -> Shared -> Prop} (hn : n ≠ 0) (h : ∀ i d, i < n -> Q i { s with drawn := d }) : wpAny M A (choose src n) Q E s := fun Γ p hΓ => by
 unfold choose
 exact ⟨hn, h _ _ (Nat.mod_lt _ (Nat.pos_of_ne_zero hn))⟩
theorem erase_perm {α : Type} : ∀ (l : List α) (i : Nat) (x : α), l[i]? = some x -> l.Perm (x :: l.eraseIdx i)
 | [], i, x, h => by simp at h
 | a :: l, 0, x, h => by
  simp at h
  subst h
  exact List.Perm.refl _
 | a :: l, i + 1, x, h => by
  have q := erase_perm l i x (by simpa using h)
  rw [List.eraseIdx_cons_succ]
  exact (q.cons a).trans (List.Perm.swap ..)
theorem draw_at {M : Model} {A : Around} {E : Value -> Shared -> Prop} {α : Type} : ∀ (n : Nat) (l : List α) (s : Shared) {Q : List α -> Shared -> Prop}, l.length = n -> (∀ l' d, l'.Perm l -> Q l' { s with drawn := d }) -> wpAny M A (drawOrder n l) Q E s
 | 0, l, s, Q, hl, h => by
  have : l = [] := List.length_eq_zero_iff.mp hl
  subst this
  unfold drawOrder
  exact wpAny_pure (h [] s.drawn (List.Perm.refl _))
 | n + 1, [], s, Q, hl, h => by simp at hl
 | n + 1, a :: l, s, Q, hl, h => by
  unfold drawOrder
  refine wpAny_bind (choose_at (by simp) fun i d hi => ?_)
  have e : (a :: l)[i]? = some ((a :: l)[i]) := List.getElem?_eq_getElem hi
  rw [e]
  refine wpAny_bind (draw_at n _ _ (by rw [List.length_eraseIdx_of_lt hi]; simp at hl ⊢; omega) fun l' d' hp => wpAny_pure ?_)
  exact h _ d' ((hp.cons _).trans (erase_perm _ _ _ e).symm)
theorem pick_go {α : Type} (f : Nat -> Nat) : ∀ (n k : Nat) (l : List α) (out : Array α), l.length <= n -> (pickOrder.go f n k l out).toList.Perm (out.toList ++ l)
 | 0, k, l, out, h => by
  have : l = [] := List.length_eq_zero_iff.mp (Nat.le_zero.mp h)
  subst this
  unfold pickOrder.go
  rw [List.append_nil]
 | n + 1, k, l, out, h => by
  unfold pickOrder.go
  cases l with
  | nil => simp
  | cons a l =>
   have hi : f k % (a :: l).length < (a :: l).length := Nat.mod_lt _ (by simp)
   have e : (a :: l)[f k % (a :: l).length]? = some ((a :: l)[f k % (a :: l).length]) := List.getElem?_eq_getElem hi
   rw [e]
   refine (pick_go f n (k + 1) _ _ (by rw [List.length_eraseIdx_of_lt hi]; simp at h ⊢; omega)).trans ?_
   rw [Array.toList_push, List.append_assoc]
   exact List.Perm.append_left _ (erase_perm _ _ _ e).symm
theorem pick_perm {α : Type} (f : Nat -> Nat) (xs : Array α) : (pickOrder f xs).toList.Perm xs.toList := by
 have q := pick_go f xs.size 0 xs.toList #[] (by simp)
 simpa [pickOrder] using q
section
variable {prog : Program} {w : World} {A : Around} {E : Value -> Shared -> Prop} {s : Shared}
theorem setNext_text {S : Addr} {o : Obj} {es : Array (Int × Value)} {ep : Nat} {t : SetTable} {Q : Option (Value × Nat) -> Shared -> Prop} (hw : ledOf w = false) (ho : s.heap.get? S = some o) (hd : o.data = .set es ep t) (hf : t.fits es.size = true) (q i : Nat)
  (h : Q (((pickOrder (w.params.setOrder S ep) es)[i]?).map fun e => (e.2, q)) s) : wpAny (model prog w) A (setNext S q i ep) Q E s := by
 have hb : w.params.followText "set-order" = true := by unfold ledOf at hw; simpa using hw
 unfold setNext
 apply wpAny_bind; refine wpAny_setState_of ho hd hf ?_
 dsimp only
 refine wpAny_bind (byText_at hb ?_)
 rw [if_pos rfl, if_neg (by simp)]
 refine wpAny_bind ?_
 unfold setWalk
 apply wpAny_bind; refine wpAny_setState_of ho hd hf ?_
 dsimp only
 refine wpAny_bind (byText_at hb ?_)
 rw [if_pos rfl]
 exact wpAny_bind (wpAny_askSetting (wpAny_pure (wpAny_pure h)))
theorem si_frame {h h' : Heap} {I S : Addr} {f : Value} {i n ep : Nat} (x : IsSi h I S f i n ep) (k : ∀ o, h.get? I = some o -> h'.get? I = some o) : IsSi h' I S f i n ep := let ⟨o, a, b⟩ := x; ⟨o, k o a, b⟩
theorem si_self {I S : Addr} {f : Value} {i n ep : Nat} {Q : Value -> Shared -> Prop} (it : IsSi s.heap I S f i n ep) (h : Q (.ref I) s) : wpAny (model prog w) A (pyIter (.ref I)) Q E s :=
 wpAny_pyIter_slot it.typeIs Si.slot_iter (wpAny_call_entry Si.slot_iter it.typeIs Si.entry_iter (wpAny_pure ⟨_, rfl, _, _, it.typeIs, Si.slot_next.lookup, h⟩) (Si.args_iter _))
def slotAt (t : SetTable) : Nat -> Nat
 | 0 => 0
 | i + 1 => t.place.getD i 0 + 1
theorem slot_below {t : SetTable} (up : Up t.place.toList) {i : Nat} (hi : i <= t.place.size) : SetTable.below t.place (slotAt t i) = i := by
 cases i with
 | zero => exact below_first up
 | succ i =>
  have e : t.place[i]? = some (t.place.getD i 0) := by
   rw [Array.getD_eq_getD_getElem?, Array.getElem?_eq_getElem (by omega)]
   rfl
  exact below_next up e
theorem place_size {t : SetTable} {n : Nat} (h : t.fits n = true) : t.place.size = n := by
 unfold SetTable.fits at h
 simp at h
 exact h.1
theorem walks_place {I S : Addr} {o : Obj} {es : Array (Int × Value)} {ep : Nat} {t : SetTable} (hh : A.handled = none) (hw : ledOf w = true) (hIS : S ≠ I) (hd : o.data = .set es ep t) (hT : TOk true t es.size) (hp : ¬ (!t.plain && es.size > 1) = true) :
  Walks prog w A I [I, S] [I] es.size (fun i v => (es.toList.map (·.2))[i]? = some v) (fun i h => h.get? S = some o /\ i <= es.size /\ IsSi h I S (rawInt (slotAt t i)) i es.size ep) where
 sub := fun c hc => by simp at hc; simp [hc]
 frame := fun i h h' st k => ⟨k S (by simp) o st.1, st.2.1, si_frame st.2.2 fun o e => k I (by simp) o e⟩
 item := fun i s R E hi st hQ => by
  obtain ⟨ho, hle, it⟩ := st
  have e1 : es[i]? = some (es[i].1, es[i].2) := Array.getElem?_eq_getElem hi
  have sz := place_size hT.fit
  have e2 : t.place[i]? = some (t.place.getD i 0) := by
   rw [Array.getD_eq_getD_getElem?, Array.getElem?_eq_getElem (by omega)]
   rfl
  refine next_int (v := es[i].2) (p := slotAt t (i + 1)) ho hd hT.fit it (fun Q1 E1 q => setNext_place hw ho hd hT hp (slot_below hT.up (by omega)) (by rw [e1, e2]; exact q) i) fun h' it' sb => ?_
  exact hQ _ h' s.toks (by simp [hi]) ⟨by rw [sb.2 S hIS]; exact ho, hi, it'⟩ fun b u hb e => by rw [sb.2 b (by simpa using hb)]; exact e
 done := fun s Q E st hQ => by
  obtain ⟨ho, hle, it⟩ := st
  have sz := place_size hT.fit
  refine next_intE hh ho hd hT.fit it (fun Q1 E1 q => setNext_place hw ho hd hT hp (slot_below hT.up (by omega)) (by rw [Array.getElem?_eq_none (by omega)]; exact q) es.size) fun h' ex => ?_
  exact hQ h' s.toks fun b u hb e => ex b u (by simpa using hb) e
 self := fun i s Q E st hQ => si_self st.2.2 hQ
theorem walks_text {I S : Addr} {o : Obj} {es : Array (Int × Value)} {ep : Nat} {t : SetTable} (hh : A.handled = none) (hw : ledOf w = false) (hIS : S ≠ I) (hd : o.data = .set es ep t) (hf : t.fits es.size = true) :
  Walks prog w A I [I, S] [I] es.size (fun i v => ((pickOrder (w.params.setOrder S ep) es).toList.map (·.2))[i]? = some v) (fun i h => h.get? S = some o /\ i <= es.size /\ IsSi h I S (rawInt (0 : Nat)) i es.size ep) where
 sub := fun c hc => by simp at hc; simp [hc]
 frame := fun i h h' st k => ⟨k S (by simp) o st.1, st.2.1, si_frame st.2.2 fun o e => k I (by simp) o e⟩
 item := fun i s R E hi st hQ => by
  obtain ⟨ho, hle, it⟩ := st
  have sz : (pickOrder (w.params.setOrder S ep) es).size = es.size := by have q := (pick_perm (w.params.setOrder S ep) es).length_eq; simpa using q
  generalize hP : pickOrder (w.params.setOrder S ep) es = P at sz hQ
  have e1 : P[i]? = some P[i] := Array.getElem?_eq_getElem (by omega)
  refine next_int (v := P[i].2) (p := 0) ho hd hf it (fun Q1 E1 q => setNext_text hw ho hd hf 0 i (by rw [hP, e1]; exact q)) fun h' it' sb => ?_
  have hi2 : i < P.size := by omega
  exact hQ _ h' s.toks (by simp [hi2]) ⟨by rw [sb.2 S hIS]; exact ho, hi, it'⟩ fun b u hb e => by rw [sb.2 b (by simpa using hb)]; exact e
 done := fun s Q E st hQ => by
  obtain ⟨ho, hle, it⟩ := st
  have sz : (pickOrder (w.params.setOrder S ep) es).size = es.size := by have q := (pick_perm (w.params.setOrder S ep) es).length_eq; simpa using q
  refine next_intE hh ho hd hf it (fun Q1 E1 q => setNext_text hw ho hd hf 0 es.size (by rw [Array.getElem?_eq_none (by omega)]; exact q)) fun h' ex => ?_
  exact hQ h' s.toks fun b u hb e => ex b u (by simpa using hb) e
 self := fun i s Q E st hQ => si_self st.2.2 hQ
theorem walks_drawn {I S T : Addr} {o : Obj} {es : Array (Int × Value)} {ep : Nat} {t : SetTable} {js : List Nat} (hh : A.handled = none) (hIS : S ≠ I) (hTI : T ≠ I) (hd : o.data = .set es ep t) (hf : t.fits es.size = true) (hj : js.Perm (List.range es.size)) :
  Walks prog w A I [I, S, T] [I] es.size (fun i v => ((js.map fun j => (es.toList.map (·.2)).getD j .none))[i]? = some v)
   (fun i h => h.get? S = some o /\ h.IsTuple T ((js.map fun j : Nat => rawInt (j : Int)).toArray) /\ IsSi h I S (.ref T) i es.size ep) where
 sub := fun c hc => by simp at hc; simp [hc]
 frame := fun i h h' st k => ⟨k S (by simp) o st.1, st.2.1.at fun o e => k T (by simp) o e, si_frame st.2.2 fun o e => k I (by simp) o e⟩
 item := fun i s R E hi st hQ => by
  obtain ⟨ho, ht, it⟩ := st
  have hl : js.length = es.size := by have q := hj.length_eq; simpa using q
  have hi2 : i < js.length := by omega
  have hlt : js[i] < es.size := by have q := hj.mem_iff.1 (List.getElem_mem hi2); simpa using q
  have e1 : es[js[i]]? = some (es[js[i]].1, es[js[i]].2) := Array.getElem?_eq_getElem hlt
  refine next_ref (j := js[i]) (v := es[js[i]].2) ho hd hf it ht (by simp [hi2]) e1 fun h' it' sb => ?_
  exact hQ _ h' s.toks (by simp [hi2, hlt]) ⟨by rw [sb.2 S hIS]; exact ho, ht.at fun o e => by rw [sb.2 T hTI]; exact e, it'⟩ fun b u hb e => by rw [sb.2 b (by simpa using hb)]; exact e
 done := fun s Q E st hQ => by
  obtain ⟨ho, ht, it⟩ := st
  have hl : js.length = es.size := by have q := hj.length_eq; simpa using q
  refine next_refE hh ho hd hf it ht (by simp [hl]) fun h' ex => ?_
  exact hQ h' s.toks fun b u hb e => ex b u (by simpa using hb) e
 self := fun i s Q E st hQ => si_self st.2.2 hQ
end
section
variable {prog : Program} {w : World} {A : Around} {E : Value -> Shared -> Prop} {s : Shared}
def Gives (prog : Program) (w : World) (I : Addr) (fp : List Addr) (vs : List Value) (h : Heap) : Prop :=
 ∃ (n : Nat) (P : Nat -> Value -> Prop) (St : Nat -> Heap -> Prop), n = vs.length /\ (∀ i v, P i v -> vs[i]? = some v) /\ St 0 h /\ ∀ A : Around, A.handled = none -> Walks prog w A I fp [I] n P St
theorem drawn_at {S : Addr} {o : Obj} {es : Array (Int × Value)} {ep : Nat} {t : SetTable} {Q : Bool -> Shared -> Prop} (ho : s.heap.get? S = some o) (hd : o.data = .set es ep t) (hf : t.fits es.size = true)
  (h : Q (ledOf w && (!t.plain && es.size > 1)) s) : wpAny (model prog w) A (setDrawn S) Q E s := by
 unfold setDrawn
 apply wpAny_bind; refine wpAny_setState_of ho hd hf ?_
 dsimp only
 refine wpAny_bind (byText_at (b := !ledOf w) (by unfold ledOf; simp) (wpAny_pure ?_))
 rw [Bool.not_not]
 exact h
theorem iter_set {S : Addr} {o : Obj} {ns : List Int} {Q : Value -> Shared -> Prop} (ho : s.heap.get? S = some o) (hi : SetI (ledOf w) o ns)
  (h : ∀ h' d I fp vs ms, (∀ b u, s.heap.get? b = some u -> h'.get? b = some u) -> (∀ b ∈ fp, b = S \/ s.heap.objs.size <= b) -> s.heap.objs.size <= I -> IntsAre vs ms -> ms.Perm ns -> Gives prog w I fp vs h' -> Q (.ref I) { s with heap := h', drawn := d }) :
  wpAny (model prog w) A (pyIter (.ref S)) Q E s := by
 obtain ⟨es, ep, t, hx, hd, hE, hp, hT, hs⟩ := hi
 have tS : s.TypeIs (.ref S) "set" := ⟨o, ho, hx.1⟩
 have lS := Heap.lt_size ho
 have intsE : ∀ l : List (Int × Value), (∀ e ∈ l, EntOk e) -> IntsAre (l.map (·.2)) (l.map valE) := by
  intro l
  induction l with
  | nil => intro _; exact .nil
  | cons e l ih =>
   intro he
   obtain ⟨m, tk, rfl⟩ := he e List.mem_cons_self
   exact .cons m tk (ih fun x hx => he x (List.mem_cons_of_mem _ hx))
 refine wpAny_pyIter_slot tS F.slot_set_iter (wpAny_call_entry F.slot_set_iter tS Si.entry_set_iter ?_ (F.args_set_iter_1 _))
 unfold Builtin.«frozenset.__iter__» Builtin.Frozenset.slot0 Builtin.Frozenset.sizeOf
 have step : ∀ (f : Value) (h1 : Heap) (d : Drawn), (∀ b u, s.heap.get? b = some u -> h1.get? b = some u) -> (∀ I : Addr, I = h1.objs.size -> Q (.ref I) { s with heap := h1.push { cls := .type "set_iterator", data := .fields #[f, rawInt (0 : Nat), .ref S, rawInt es.size, rawInt ep] }, drawn := d }) ->
   wpAny (model prog w) A.in1 (do ret (<- newFields "set_iterator" [f, rawInt 0, .ref S, rawInt es.size, rawInt (<- setEpoch S)])) (fun fin s' => ∃ v, fin = .done (.ret v) /\ ∃ T' r, s'.TypeIs v T' /\ typeLookup (.type T') "__next__" = pure (some r) /\ Q v s') E { s with heap := h1, drawn := d } := fun f h1 d keep q => by
  refine wpAny_bind (wpAny_setEpoch_of (s := { s with heap := h1, drawn := d }) (keep S o ho) hd hT.fit ?_)
  refine wpAny_bind (wpAny_newObj_type (wpAny_pure ⟨_, rfl, _, _, ⟨_, Heap.get?_push_size _ rfl, rfl⟩, Si.slot_next.lookup, q _ rfl⟩))
 wp_walk using wpAny_setEntries_of ho hd hT.fit, drawn_at ho hd hT.fit
 by_cases hdr : (ledOf w && (!t.plain && decide (es.size > 1))) = true
 ·rw [if_pos hdr]
  rw [Bool.and_eq_true] at hdr
  refine wpAny_bind (draw_at es.size (List.range es.size) s (by simp) fun js d hj => ?_)
  have lj : js.length = es.size := by have q := hj.length_eq; simpa using q
  refine wpAny_bind (wpAny_newTuple ?_ (by rw [List.length_map, lj]; exact fits_of_scanBound hs))
  refine step (.ref s.heap.objs.size) _ d (fun b u e => Heap.get?_push_of_some _ e) fun I eI => ?_
  have zI : @Eq Nat I (s.heap.objs.size + 1) := by rw [eI, Heap.size_push]
  have nSI : S ≠ I := fun z => by rw [z, zI] at lS; exact absurd (Nat.lt_of_succ_lt lS) (Nat.lt_irrefl _)
  have nTI : s.heap.objs.size ≠ I := fun z => by rw [zI] at z; exact Nat.succ_ne_self _ z.symm
  have gI : s.heap.objs.size <= I := by rw [zI]; exact Nat.le_succ _
  refine h _ d I [I, S, s.heap.objs.size] (js.map fun j => (es.toList.map (·.2)).getD j .none) (js.map fun j => (es.toList.map valE).getD j 0) (fun b u e => Heap.get?_push_of_some _ (Heap.get?_push_of_some _ e)) (fun b hb => ?_) gI ?_ ?_ ⟨es.size, _, _, by simp [lj], fun i v q => q, ?_, fun A' hA => walks_drawn hA (t := t) nSI nTI hd hT.fit hj⟩
  ·simp only [List.not_mem_nil, List.mem_cons, or_false] at hb
   rcases hb with z | z | z
   ·exact .inr (z ▸ gI)
   ·exact .inl z
   ·exact .inr (Nat.le_of_eq z.symm)
  ·have all : ∀ l : List Nat, (∀ j ∈ l, j < es.size) -> IntsAre (l.map fun j => (es.toList.map (·.2)).getD j .none) (l.map fun j => (es.toList.map valE).getD j 0) := by
    intro l
    induction l with
    | nil => intro _; exact .nil
    | cons j l ih =>
     intro hl
     have hj1 := hl j List.mem_cons_self
     obtain ⟨m, tk, e⟩ := hE es[j] (by simp [Array.getElem_mem])
     have e1 : (es.toList.map (·.2)).getD j .none = .int m tk := by simp [hj1, e]
     have e2 : (es.toList.map valE).getD j 0 = m := by simp [hj1, e, valE]
     rw [List.map_cons, List.map_cons, e1, e2]
     exact .cons m tk (ih fun x hx => hl x (List.mem_cons_of_mem _ hx))
   exact all js fun j hm => by have q := hj.mem_iff.1 hm; simpa using q
  ·refine ((hj.map _).trans ?_).trans hp
   have e : (List.range es.size).map (fun j => (es.toList.map valE).getD j 0) = es.toList.map valE := by
    refine List.ext_getElem? fun i => ?_
    by_cases hi : i < es.size
    ·simp [hi]
    ·simp [hi]
   rw [e]
  ·refine ⟨Heap.get?_push_of_some _ (Heap.get?_push_of_some _ ho), ⟨_, Heap.get?_push_of_some _ (Heap.get?_push_size _ rfl), rfl, _, rfl⟩, ⟨_, by rw [eI]; exact Heap.get?_push_size _ rfl, rfl, rfl⟩⟩
 ·rw [if_neg hdr]
  refine wpAny_bind (wpAny_pure (step (rawInt 0) s.heap s.drawn (fun b u e => e) fun I eI => ?_))
  have gI : s.heap.objs.size <= I := Nat.le_of_eq eI.symm
  have nSI : S ≠ I := fun z => by rw [z, eI] at lS; exact absurd lS (Nat.lt_irrefl _)
  have at0 : ∀ f, IsSi (s.heap.push { cls := .type "set_iterator", data := .fields #[f, rawInt (0 : Nat), .ref S, rawInt es.size, rawInt ep] }) I S f 0 es.size ep := fun f => ⟨_, by rw [eI]; exact Heap.get?_push_size _ rfl, rfl, rfl⟩
  have fpo : ∀ b ∈ [I, S], b = S \/ s.heap.objs.size <= b := fun b hb => by
   simp only [List.not_mem_nil, List.mem_cons, or_false] at hb
   rcases hb with z | z
   ·exact .inr (z ▸ gI)
   ·exact .inl z
  cases hw : ledOf w with
  | true =>
   have hpl : ¬ (!t.plain && es.size > 1) = true := fun z => hdr (by rw [hw, z]; rfl)
   exact h _ s.drawn I [I, S] (es.toList.map (·.2)) (es.toList.map valE) (fun b u e => Heap.get?_push_of_some _ e) fpo gI (intsE _ hE) hp
    ⟨es.size, _, _, by simp, fun i v q => q, ⟨Heap.get?_push_of_some _ ho, Nat.zero_le _, at0 _⟩, fun A' hA => walks_place hA hw nSI hd (hw ▸ hT) hpl⟩
  | false =>
   have pp := pick_perm (w.params.setOrder S ep) es
   exact h _ s.drawn I [I, S] ((pickOrder (w.params.setOrder S ep) es).toList.map (·.2)) ((pickOrder (w.params.setOrder S ep) es).toList.map valE) (fun b u e => Heap.get?_push_of_some _ e) fpo gI (intsE _ fun e he => hE e (pp.mem_iff.1 he)) ((pp.map valE).trans hp)
    ⟨es.size, _, _, by have q := pp.length_eq; simp at q ⊢; omega, fun i v q => q, ⟨Heap.get?_push_of_some _ ho, Nat.zero_le _, at0 _⟩, fun A' hA => walks_text hA hw nSI hd hT.fit⟩
theorem hint_set {S : Addr} {o : Obj} {Q : Bool -> Shared -> Prop} (ho : s.heap.get? S = some o) (hc : o.cls = .type "set") (h : Q false s) : wpAny (model prog w) A (Builtin.List.listLengthHint (.ref S)) Q E s := by
 have tS : s.TypeIs (.ref S) "set" := ⟨o, ho, hc⟩
 have e : splitId "set.__len__" = some ("set", "__len__") := by kernel_rfl
 show wpAny _ _ (Builtin.List.listLengthHint _) _ _ _; unfold Builtin.List.listLengthHint
 refine wpAny_bind (wpAny_specialOf tS F.slot_set_len.lookup ?_)
 dsimp only
 rw [e]
 dsimp only
 refine wpAny_bind (wpAny_isInstance tS sub_set_self ?_)
 rw [if_neg (by decide), if_pos (by kernel_rfl)]
 exact wpAny_bind (wpAny_typeOf tS (wpAny_pure h))
theorem extend_set {L S : Addr} {o : Obj} {ns : List Int} {c0 : Nat} {res : Value} {R : Result -> Shared -> Prop} (hh : A.handled = none) (ho : s.heap.get? S = some o) (hi : SetI (ledOf w) o ns) (hL : s.heap.get? L = some { cls := .type "list", data := .seq #[] c0 })
  (hR : ∀ h' d tk acc c' ms, (∀ b u, b ≠ L -> s.heap.get? b = some u -> h'.get? b = some u) -> h'.get? L = some { cls := .type "list", data := .seq acc c' } -> IntsAre acc.toList ms -> ms.Perm ns -> R (.ok (.ret res)) { s with heap := h', drawn := d, toks := tk }) :
  wpAny (model prog w) A.in1 (Builtin.List.listExtendWith (.ref L) (.ref S) res) (fun fin s' => match fin with | .done f => R (.ok f) s' | .again c' => c'.quiet = true /\ codeAny (model prog w) A c' R s') (fun e s' => R (.error e) s') s := by
 have hx : o.ExactSet := by obtain ⟨_, _, _, hx, _⟩ := hi; exact hx
 have hns : ns.length < scanBound := by obtain ⟨es, _, _, _, _, _, hp, _, hs⟩ := hi; rw [<- hp.length_eq]; simpa using hs
 have nLS : L ≠ S := fun z => by rw [z, ho] at hL; cases hL; have q := hx.1; simp at q
 have lL := Heap.lt_size hL
 show wpAny _ _ (Builtin.List.listExtendWith _ _ _) _ _ _; unfold Builtin.List.listExtendWith
 refine wpAny_bind (wpAny_typeOf (T := "set") ⟨o, ho, hx.1⟩ ?_)
 have e1 : Builtin.List.listSameRef (.ref L) (.ref S) = false := by simp [Builtin.List.listSameRef, nLS]
 rw [if_neg (by rw [e1]; decide)]
 refine wpAny_bind (iter_set (A := A.in1) ho hi fun h1 d I fp vs ms keep hfp gI hv hm gv => ?_)
 refine wpAny_bind (wpAny_holding (hint_set (s := { s with heap := h1, drawn := d }) (keep S o ho) hx.1 ?_))
 rw [if_pos (by kernel_rfl)]
 unfold Builtin.List.listTouch
 have g1 := keep L _ hL
 have gb : ∀ (f : Array Value -> Array Value) (g : Heap) (c : Nat) (xs : Array Value), g.get? L = some { cls := .type "list", data := .seq xs c } -> ∃ c', (g.update L (Obj.mapSeq f)).get? L = some { cls := .type "list", data := .seq (f xs) c' } := fun f g c xs e => ⟨_, get?_update_seq e f⟩
 refine wpAny_bind (wpAny_rule (wpAny_bind (wpAny_bind (listUpdate_at (s := { s with heap := h1, drawn := d }) g1 rfl ?_ (Nat.zero_le _) (by simp)))))
 obtain ⟨c2, g2⟩ := gb (·.push .none) h1 _ _ g1
 refine listUpdate_at (s := { s with heap := h1.update L (Obj.mapSeq (·.push .none)), drawn := d }) g2 rfl ?_ (by simp; rw [sizeLine_eq]; omega) (by simp)
 obtain ⟨c3, g3⟩ := gb (·.pop) _ _ _ g2
 obtain ⟨n, P, St, en, hP, st0, W⟩ := gv
 have nLI : L ≠ I := fun z => by rw [z] at lL; exact absurd (Nat.lt_of_lt_of_le lL gI) (Nat.lt_irrefl _)
 have nLf : L ∉ fp := fun z => by
  rcases hfp L z with q | q
  ·exact nLS q
  ·exact absurd (Nat.lt_of_lt_of_le lL q) (Nat.lt_irrefl _)
 have W1 := (W A.in1 hh).toS
 have nn : n <= sizeLine := by rw [en, IntsAre.length hv, hm.length_eq]; exact fits_of_scanBound hns
 refine wpAny_pure ⟨plainId_quiet F.plain_extend_loop _, codeAny_extend_loopS W1 nn L nLf res n 0 _ #[] _ rfl (Nat.zero_le _) (W1.frame 0 { s with heap := h1, drawn := d } _ s.toks st0 (Nat.le_refl _) fun b hb u e => ?_) g3 (ItemsOf.nil _) fun s' acc c' mv hL' it => ?_⟩
 ·have nb : L ≠ b := fun z => nLf (z ▸ hb)
  exact (Heap.get?_update_other _ _ nb).trans ((Heap.get?_update_other _ _ nb).trans e)
 ·have es' : s' = { s with heap := s'.heap, drawn := d, toks := s'.toks } := by
   obtain ⟨h', g', d', t', o'⟩ := s'
   have q1 := mv.gens
   have q2 := mv.drawn
   have q3 := mv.os
   dsimp only at q1 q2 q3
   subst q1
   subst q2
   subst q3
   rfl
  have ev : acc.toList = vs := by
   refine List.ext_getElem? fun j => ?_
   by_cases hj : j < n
   ·have e1 : acc[j]? = some (acc[j]'(by rw [it.1]; exact hj)) := Array.getElem?_eq_getElem _
    rw [Array.getElem?_toList, e1]
    exact (hP j _ (it.2 j _ e1)).symm
   ·rw [List.getElem?_eq_none (by simp [it.1]; omega), List.getElem?_eq_none (by omega)]
  rw [es']
  refine hR _ d _ acc c' ms (fun b u nb e => mv.heap b u (fun z => ?_) ?_) hL' (ev ▸ hv) hm
  ·rcases List.mem_cons.1 z with q | q
   ·exact nb q
   ·rw [List.mem_singleton] at q
    rw [q] at e
    exact absurd (Nat.lt_of_lt_of_le (Heap.lt_size e) gI) (Nat.lt_irrefl _)
  ·exact (Heap.get?_update_other _ _ (Ne.symm nb)).trans ((Heap.get?_update_other _ _ (Ne.symm nb)).trans (keep b u e))
end
section
variable {prog : Program} {w : World} {A : Around} {E : Value -> Shared -> Prop} {s : Shared}
theorem collect_set {S : Addr} {o : Obj} {ns : List Int} {Q : List Value -> Shared -> Prop} (hh : A.handled = none) (ho : s.heap.get? S = some o) (hi : SetI (ledOf w) o ns)
  (h : ∀ h' d tk vs ms, s.heap.objs.size <= h'.objs.size -> (∀ b u, s.heap.get? b = some u -> h'.get? b = some u) -> IntsAre vs ms -> ms.Perm ns -> Q vs { s with heap := h', drawn := d, toks := tk }) : wpAny (model prog w) A (collect (.ref S)) Q E s := by
 unfold collect
 apply wpAny_bind
 apply wpAny_runValue
 refine codeAny_builtin F.entry_proto_collect ?_
 rw [Around.under_plainId F.plain_proto_collect]
 wp_walk
 refine ⟨plainId_quiet F.plain_list_iadd _, codeAny_builtin F.entry_list_iadd ?_⟩
 rw [Around.under_plainId F.plain_list_iadd]
 refine extend_set (R := wants _ _) (s := { s with heap := s.heap.push { cls := .type "list", data := .seq #[] } }) hh (Heap.get?_push_of_some _ ho) hi (Heap.get?_push_size _ rfl) fun h' d tk acc c' ms keep gL hv hm => ?_
 apply wpAny_bind
 apply wpAny_load gL
 exact wpAny_pure (h h' d tk acc.toList ms (Nat.le_of_lt (Heap.lt_size gL)) (fun b u e => keep b u (Nat.ne_of_lt (Heap.lt_size e)) (Heap.get?_push_of_some _ e)) hv hm)
theorem sorted_set {S : Addr} {o : Obj} {ns : List Int} {Q : Value -> Shared -> Prop} (hh : A.handled = none) (ho : s.heap.get? S = some o) (hi : SetI (ledOf w) o ns) (h64 : ns.length < 64)
  (h : ∀ h' d tk l out ns' e, (∀ b u, s.heap.get? b = some u -> h'.get? b = some u) -> s.heap.objs.size <= l -> IntsAre out ns' -> ns'.Perm ns -> ns'.Pairwise (· <= ·) -> h'.get? l = some (seqObj "list" out.toArray e) -> Q (.ref l) { s with heap := h', drawn := d, toks := tk }) :
  wpAny (model prog w) A (call (.builtin "sorted") [.ref S]) Q E s := by
 apply Calls.call_function_entry kind_sorted plain_sorted entry_sorted (args_sorted1 _)
 unfold Builtin.«sorted»
 refine wpAny_bind (m := checkCount "sorted" 1 1 _) (wpAny_pure (wpAny_bind (collect_set (A := A.in1) hh ho hi fun h1 d tk vs ms l1 keep hv hm => ?_)))
 have lv : vs.length < 64 := by rw [IntsAre.length hv, hm.length_eq]; exact h64
 apply wpAny_bind; refine wpAny_newList ?_ (by rw [sizeLine_eq]; omega)
 have g1 : (h1.push (seqObj "list" vs.toArray 0)).get? h1.objs.size = some (seqObj "list" vs.toArray 0) := Heap.get?_push_size _ rfl
 refine wpAny_bind (wpAny_holding (wpAny_call_entry slot_list_sort ⟨_, g1, rfl⟩ entry_list_sort (list_sort_tree g1 hv lv fun out ns' a1 a2 a3 => ⟨_, rfl, ?_⟩) (args_list_sort _)))
 obtain ⟨e, g2⟩ := sortedHeap_at (out := out) g1
 refine wpAny_pure ⟨_, rfl, h _ d tk _ out.toList ns' e (fun b u q => ?_) l1 a1 (a2.trans hm) a3 (by simpa using g2)⟩
 have lb := Heap.lt_size (keep b u q)
 rw [sortedHeap_old (Nat.ne_of_lt lb) (by rw [Heap.size_push]; exact Nat.lt_succ_of_lt lb)]
 exact Heap.get?_push_of_some _ (keep b u q)
end
end L6
end
section
namespace L6
open PySem PySem.Spec PyProof.Rows L2 L3 L4
theorem addAll_fold : ∀ (ks ns : List Int), addAll ns ks = ks.foldl putN ns
 | [], ns => rfl
 | k :: ks, ns => by
  rw [addAll, addAll_fold ks, List.foldl_cons]
  rfl
theorem addAll_len : ∀ (ks ns : List Int), (addAll ns ks).length <= ns.length + ks.length
 | [], ns => Nat.le_refl _
 | k :: ks, ns => by
  have a := addAll_len ks (addN ns k)
  have b := addN_len ns k
  rw [addAll, List.length_cons]
  omega
def SetO (w : World) (a : Addr) (ns : List Int) : HO := .ext fun h => ∃ o, h.get? a = some o /\ SetI (ledOf w) o ns
section
variable {X : Cx}
theorem inv_drawn {pins : List (Addr × Obj)} {σ : L2.St} {H : Hp} {s : Shared} {d : Drawn} (I : Inv X pins σ H s) : Inv X pins σ H { s with drawn := d } := ⟨I.ok, I.os, I.bare, I.base, I.loc, I.cell, I.free, I.freeC, I.pin, I.hok, I.len⟩
def rSet (w : World) (K : PySem.W.Frag) : List V -> Hp -> VK -> Prop := fun xs H Q => ∃ (a : Addr) (ns : List Int), xs = [.ref a] /\ SqT K H a (ns.map V.int) /\ ns.length < 64 /\ ∀ p, H p = none -> Q (.ref p) (upd H p (SetO w p (addAll [] ns)))
theorem call_setR (hc : X.calm = true) : CallR X (.type "set") (rSet X.w X.K) := by
 intro pins s σ H xs us Q I r h
 obtain ⟨a, ns, rfl, ha, h64, q⟩ := h
 obtain ⟨u, rfl, ru⟩ := vals1 r
 cases ru
 obtain ⟨its, rv, pl, hz⟩ := I.tuple ha
 have hi := intsAre_of rv
 obtain ⟨ot, hot, hct, nt, hdt⟩ := id pl
 refine call_set (items := its.toArray) (ns := ns) (I.ok.hd hc) (by simpa using hi) pl (by unfold scanBound; omega) fun h' tk o' keep g i => ?_
 refine ⟨.ref s.heap.objs.size, _, I.laid (t' := tk) (o := SetO X.w s.heap.objs.size (addAll [] ns)) keep (Nat.le_refl _) ⟨⟨o', g, i⟩, ⟨o', g⟩, fun h1 h2 z k => ?_⟩, rfl, q _ (I.hok.fresh (Nat.le_refl _))⟩
 obtain ⟨o2, e2, i2⟩ := z
 exact ⟨o2, k o2 e2, i2⟩
def rSortS (w : World) : List V -> Hp -> VK -> Prop := fun xs H Q => ∃ (a : Addr) (ns : List Int), xs = [.ref a] /\ H a = some (SetO w a ns) /\ ns.length < 64 /\ ∀ ns' : List Int, ns'.Perm ns -> ns'.Pairwise (· <= ·) -> ∀ p, H p = none -> Q (.ref p) (upd H p (.lst (ns'.map V.int)))
theorem call_sortS (hc : X.calm = true) : CallR X (.builtin "sorted") (rSortS X.w) := by
 intro pins s σ H xs us Q I r h
 obtain ⟨a, ns, rfl, ha, h64, q⟩ := h
 obtain ⟨u, rfl, ru⟩ := vals1 r
 cases ru
 obtain ⟨⟨o, ho, hi⟩, _⟩ := I.hok a _ ha
 refine sorted_set (I.ok.hd hc) ho hi h64 fun h' d tk l out ns' e keep hl a1 a2 a3 g => ?_
 have hz2 : ns'.length <= sizeLine := by rw [a2.length_eq, sizeLine_eq]; omega
 have I1 := I.laid (t' := tk) (a := l) (o := .lst (ns'.map V.int)) keep hl ⟨by rw [List.length_map]; exact hz2, out, e, vals_ints a1, by simpa [seqObj] using g⟩
 exact ⟨.ref l, _, inv_drawn (d := d) I1, rfl, q ns' a2 a3 l (I.hok.fresh hl)⟩
theorem sortedSet4 {p pos p2 pos2 : Pos} {e : Expr} {t : AF} (hc : X.calm = true) (hm : X.mg "sorted" = none) (hms : X.mg "set" = none) (ha : PA4 X [e] t) (hg : Gl X "sorted" := by rfl) (hgs : Gl X "set" := by rfl)
  (hs : starEach [e] X.env = (false, eval e X.env) :: starEach [] X.env := by rfl) (he : starEach [.Call (.Name "set" p2) [e] [] pos2] X.env = (false, eval (.Call (.Name "set" p2) [e] [] pos2) X.env) :: starEach [] X.env := by rfl) :
  PF4 X (.Call (.Name "sorted" p) [.Call (.Name "set" p2) [e] [] pos2] [] pos) (eCB sortedSetM t) :=
 imp (pe_callB (call_sortS hc) hg hm PyProof.Rows.boot_sorted (pa_cons (pe_callTy (call_setR hc) hgs hms PySem.Pv.boot_set ha (by decide) (by decide) hs (by rfl)) pa_nil he) (by decide) (by decide) he (by rfl)) fun σ H Q hq118 => by
  obtain ⟨S, ρ, Q3, fc, sl, ⟨d, ed, q3⟩, k⟩ := hq118
  obtain ⟨ds, eds, ed⟩ := bnd ed
  refine ⟨S, ρ, fun es => es = ds, fc, sl, ⟨_, eds, rfl⟩, fun vs H1 es s1 d1 q1 => ?_⟩
  subst q1
  unfold sortedSetM at ed
  split at ed
  ·rename_i a
   obtain ⟨ns, e1, ed⟩ := bnd ed
   by_cases hl : ns.length < 64
   ·rw [if_pos hl] at ed
    cases ed
    rw [ints_of e1] at d1
    obtain ⟨v, r, rfl, h1, h2⟩ := d1.uncons
    simp only [Dns] at h2
    subst h2
    simp only [Dn] at h1
    obtain ⟨t1, xs, rfl, ht, dt⟩ := h1
    rw [Dns.ints.mp dt] at ht
    refine ⟨t1, ns, rfl, ht, hl, fun p hp => ⟨p, addAll [] ns, rfl, upd_same, Nat.lt_of_le_of_lt (addAll_len ns []) (by simpa using hl), fun ns' pm so l hl2 => ?_⟩⟩
    have e3 : ns' = sortI (nubI ns) := by
     have e4 : addAll [] ns = nubI ns := addAll_fold ns []
     rw [e4] at pm
     exact sorted_one (pm.trans (sortI_perm3 _).symm) so (sortI_sorted3 _)
    subst e3
    have l1 : H1 l = none := (same_upd hp).free hl2
    exact k l _ _ _ (s1.free l1) upd_same ((s1.trans (same_upd hp)).trans (same_upd hl2)) (Dns.ints.mpr rfl) q3
   ·rw [if_neg hl] at ed; cases ed
  ·cases ed
end
section
variable {X : Cx}
end
theorem noFill_tup : fillsNumberSlot (.type "tuple") "mul" = pure false :=
 PySem.fillsNumberSlot_seq (id := "tuple.__mul__") (r := some (.builtin "tuple.__rmul__")) PySem.F.slot_tuple_mul.lookup (by decide +kernel) PySem.F.slot_tuple_rmul.lookup (by decide +kernel)
theorem repeat_tup : seqRepeat? (.type "tuple") = pure (some (.builtin "tuple.__mul__")) := by
 unfold seqRepeat?
 rw [PySem.seqSlot_of (T := "tuple") (name := "__mul__") (id := "tuple.__mul__") PySem.F.slot_tuple_mul.lookup (by decide +kernel), PySem.seqSlot_of (T := "tuple") (name := "__rmul__") (id := "tuple.__rmul__") PySem.F.slot_tuple_rmul.lookup (by decide +kernel)]
 rfl
section
variable {prog : Program} {w : World} {A : Around} {E : Value -> Shared -> Prop} {s : Shared}
theorem rmul_tup (a : Int) (tk : Tok) (t : Addr) (items : Array Value) : Meets (Builtin.«int.__rmul__» ⟨[.int a tk, .ref t], []⟩) (fun _ R s => IsTup s.heap t items /\ R (.ok (.ret Value.notImplemented)) s) := by
 refine .of_wp fun p0 w0 A0 R0 s h => ?_
 obtain ⟨ht, h⟩ := h
 have tt := ht.typeIs
 obtain ⟨ot, hot, hct, nt, hdt⟩ := id ht
 wp_walk
 rw [hdt]
 refine wpAny_pure ?_
 exact wpAny_bind (wpAny_rule (wpAny_pure ⟨_, rfl, h⟩))
theorem mul_tup (x : Int) (tk : Tok) (t : Addr) (items : Array Value) (hx : -(2 ^ 63 : Int) <= x /\ x < 2 ^ 63) (hz : items.size * x.toNat <= 2 ^ 24) : Meets (Builtin.«tuple.__mul__» ⟨[.ref t, .int x tk], []⟩) (fun _ R s => IsTup s.heap t items /\
  (items.isEmpty = true \/ x = 1 -> R (.ok (.ret (.ref t))) s) /\ (items.isEmpty = false -> x ≠ 1 -> R (.ok (.ret (.ref s.heap.objs.size))) { s with heap := s.heap.push { cls := .type "tuple", data := .seq ((List.replicate x.toNat items).foldl (· ++ ·) #[]) } })) := by
 refine .of_wp fun p0 w0 A0 R0 s h => ?_
 obtain ⟨ht, h1, h2⟩ := h
 have tt := ht.typeIs
 obtain ⟨ot, hot, hct, nt, hdt⟩ := id ht
 have e1 : (decide (x < -2 ^ 63) || decide (x >= 2 ^ 63)) = false := by
  rw [decide_eq_false (by omega), decide_eq_false (by omega)]
  rfl
 wp_walk
 rw [if_neg (by rw [e1]; decide)]
 wp_walk
 rw [hdt]
 apply wpAny_pure; apply wpAny_pure
 by_cases hs : (items.isEmpty || x == 1) = true
 ·rw [if_pos hs]
  refine wpAny_bind (wpAny_bind (wpAny_typeOf tt (wpAny_pure ?_)))
  rw [if_pos (by decide)]
  exact wpAny_bind (wpAny_rule (wpAny_pure ⟨_, rfl, h1 (by simpa using hs)⟩))
 ·rw [if_neg hs]
  have hs' : items.isEmpty = false /\ x ≠ 1 := by simpa using hs
  have h2 := h2 hs'.1 hs'.2
  dsimp only
  by_cases h0 : x <= 0
  ·rw [if_pos (by rw [decide_eq_true h0]; rfl)]
   have e0 : x.toNat = 0 := by omega
   rw [e0] at h2
   exact wpAny_bind (wpAny_newObj_type (wpAny_pure ⟨_, rfl, h2⟩) (Nat.zero_le _))
  ·have zz : (items.size : Int) * x <= 2 ^ 24 := by
    have e2 : x = (x.toNat : Int) := by omega
    rw [e2]
    exact_mod_cast hz
   rw [if_neg (by rw [decide_eq_false h0, hs'.1]; decide), if_neg (by omega), if_neg (by unfold Builtin.Tuple.tupleTooMany; rw [sizeLine_eq]; simp; omega)]
   have fl : ∀ (n : Nat) (acc : Array Value), ((List.replicate n items).foldl (· ++ ·) acc).size = acc.size + n * items.size := by
    intro n
    induction n with
    | zero => intro acc; simp
    | succ n ih => intro acc; rw [List.replicate_succ, List.foldl_cons, ih, Array.size_append, Nat.succ_mul]; omega
   refine wpAny_bind (wpAny_newObj_type (wpAny_pure ⟨_, rfl, h2⟩) ?_)
   show ((List.replicate x.toNat items).foldl (· ++ ·) #[]).size <= sizeLine
   rw [fl, sizeLine_eq, Nat.mul_comm]
   simpa using hz
theorem op_mulT {t : Addr} {items : Array Value} {x : Int} {u : Tok} {Q : Value -> Shared -> Prop} (ht : IsTup s.heap t items) (hx : -(2 ^ 63 : Int) <= x /\ x < 2 ^ 63) (hz : items.size * x.toNat <= 2 ^ 24) (h1 : items.isEmpty = true \/ x = 1 -> Q (.ref t) s)
  (h2 : items.isEmpty = false -> x ≠ 1 -> Q (.ref s.heap.objs.size) { s with heap := s.heap.push { cls := .type "tuple", data := .seq ((List.replicate x.toNat items).foldl (· ++ ·) #[]) } }) : wpAny (model prog w) A (binaryOp .Mult (.ref t) (.int x u)) Q E s :=
 wpAny_binaryOp_repeat_ref (T := "tuple") (U := "int") (by decide) ht.typeIs (fun s' => typeIs_int s' x u) noFill_tup PySem.F.fills_int_mul PySem.F.slot_int_rmul repeat_tup PySem.F.slot_int_index.lookup
  (call_meets PySem.F.slot_int_rmul (typeIs_int s x u) PySem.F.entry_int_rmul (PySem.F.args_int_rmul_2 _ _) (rmul_tup x u t items) ⟨ht, rfl, ht.typeIs, call_meets PySem.F.slot_tuple_mul ht.typeIs PySem.F.entry_tuple_mul (PySem.F.args_tuple_mul_2 _ _) (mul_tup x u t items hx hz) ⟨ht, h1, h2⟩⟩)
end
section
variable {X : Cx}
def rRepT (K : PySem.W.Frag) : R2 := fun x y H Q => ∃ a n xs, x = .ref a /\ y = .int n /\ SqT K H a xs /\ (-(2 ^ 63) <= n /\ n < 2 ^ 63) /\ xs.length * n.toNat <= sizeLine /\ (xs = [] \/ n = 1 -> Q (.ref a) H) /\ (xs ≠ [] -> n ≠ 1 -> ∀ p, H p = none -> Q (.ref p) (upd H p (.tup (List.replicate n.toNat xs).flatten)))
theorem fold_flat (items : List Value) : ∀ (n : Nat) (acc : Array Value), ((List.replicate n items.toArray).foldl (· ++ ·) acc).toList = acc.toList ++ (List.replicate n items).flatten
 | 0, acc => by simp
 | n + 1, acc => by
  rw [List.replicate_succ, List.foldl_cons, fold_flat items n, List.replicate_succ, List.flatten_cons]
  simp
theorem op_repT : OpR X (binaryOp .Mult) (rRepT X.K) := by
 intro pins s σ H x y v u Q I rx ry h
 obtain ⟨a, n, xs, rfl, rfl, ha, hn, hz, q1, q2⟩ := h
 cases rx
 obtain ⟨tk, rfl⟩ := ry
 obtain ⟨its, rv, pl, _⟩ := I.tuple ha
 have hl := rv.length
 have em : its.toArray.isEmpty = true ↔ xs = [] := by
  rw [<- List.length_eq_zero_iff, hl]
  simp
 refine op_mulT (items := its.toArray) pl hn (by simpa [<- hl, sizeLine_eq] using hz) (fun z => ?_) fun z1 z2 => ?_
 ·exact ⟨.ref a, H, I, rfl, q1 (z.imp em.1 id)⟩
 ·have ne : xs ≠ [] := fun z => by rw [em.2 z] at z1; cases z1
  refine ⟨.ref s.heap.objs.size, _, I.laid (t' := s.toks) (o := .tup (List.replicate n.toNat xs).flatten) (fun b o e => Heap.get?_push_of_some _ e) (Nat.le_refl _) ⟨?_, (List.replicate n.toNat its).flatten, rv.rep _, ⟨_, Heap.get?_push_size _ rfl, rfl, 0, ?_⟩⟩, rfl, q2 ne z2 _ (I.hok.fresh (Nat.le_refl _))⟩
  ·have : (List.replicate n.toNat xs).flatten.length = xs.length * n.toNat := by simp [Nat.mul_comm]
   rw [this]
   exact hz
  ·show Data.seq _ _ = Data.seq _ _
   congr 1
   apply Array.toList_inj.mp
   rw [fold_flat]
   simp
theorem dns_repT {K : PySem.W.Frag} {S : Addr -> Prop} {H : Hp} {ds : List D} {xs : List V} (h : Dns K S H ds xs) : ∀ n : Nat, Dns K S H (List.replicate n ds).flatten (List.replicate n xs).flatten
 | 0 => Dns.nil
 | n + 1 => by
  rw [List.replicate_succ, List.replicate_succ, List.flatten_cons, List.flatten_cons]
  exact h.append (dns_repT h n)
theorem repTM_of {a b d : D} (h : repTM a b = some d) : ∃ ds n, a = .tup ds /\ b = .int n /\ (ds.length * n.toNat <= szL /\ n.natAbs < 9223372036854775808) /\ d = .tup (List.replicate n.toNat ds).flatten := by
 unfold repTM at h
 split at h
 ·split at h
  ·rename_i z
   cases h
   exact ⟨_, _, rfl, rfl, z, rfl⟩
  ·cases h
 ·cases h
theorem repT4 {a b : Expr} {fa fb : EF} {pos : Pos} (ha : PE4 X a fa) (hb : PE4 X b fb) : PE4 X (.BinOp a .Mult b pos) (eBin repTM fa fb) := imp (pe_op op_repT ha hb) fun σ H Q hq119 => by
 obtain ⟨S, ρ, Q3, fc, sl, ⟨d, ed, q3⟩, k⟩ := hq119
 obtain ⟨dx, ex, ed⟩ := bnd ed
 obtain ⟨dy, ey, ed⟩ := bnd ed
 obtain ⟨ds, n, rfl, rfl, hz, rfl⟩ := repTM_of ed
 refine ⟨S, ρ, fun z => z = .tup ds, fc, sl, ⟨_, ex, rfl⟩, fun v H1 d1 s1 dn1 e1 => ?_⟩
 subst e1
 refine ⟨S, ρ, fun z => z = .int n, fc_same fc s1, Sl.fits (.same s1) sl, ⟨_, ey, rfl⟩, fun v2 H2 d2 s2 dn2 e2 => ?_⟩
 subst e2
 simp only [Dn] at dn2
 subst dn2
 have dn3 := Dn.fits (.same s2) _ _ dn1
 simp only [Dn] at dn3
 obtain ⟨t, xs, rfl, ht, da⟩ := dn3
 have le := da.len
 refine ⟨t, n, xs, rfl, rfl, ht, ⟨by have := hz.2; omega, by have := hz.2; omega⟩, by rw [<- le, sizeLine_eq]; exact hz.1, fun z => ?_, fun z1 z2 p hp => ?_⟩
 ·refine k _ H2 _ (s1.trans s2) ?_ q3
  have e : (List.replicate n.toNat ds).flatten = ds := by
   rcases z with z | z
   ·have : ds = [] := List.length_eq_zero_iff.mp (by rw [le, z]; rfl)
    rw [this]
    simp
   ·rw [z]
    simp
  rw [e]
  simp only [Dn]
  exact ⟨t, xs, rfl, ht, da⟩
 ·refine k _ _ _ ((s1.trans s2).trans (same_upd hp)) ?_ q3
  simp only [Dn]
  exact ⟨p, _, rfl, .inl (.inl upd_same), Dns.fits (.same (same_upd hp)) _ _ (dns_repT da _)⟩
end
end L6
end
section
namespace K02
open PySem L2 L3 L4 L6 L5
def top (i : Nat) : Stmt := PySem.Challenge.pw_risecount_k02_made_of_ties.main.body.getD i (.Pass ⟨0, 0, 0, 0⟩)
section
variable {P : Program} {w : World} {K : PySem.W.Frag} {mg : Str -> Option Value} {base : Heap} {f : Addr} {fd : FuncData}
abbrev s_is_thing : Stmt := top 16
theorem sc_is_thing : FnScope ["number", "n"] ["number", "n"] (defScope s_is_thing) := ⟨rfl, rfl, rfl, by decide +kernel, rfl, by decide +kernel, by decide +kernel⟩
theorem ok_is_thing {kk : Nat} (F : Fun K "is_thing" "is_thing" s_is_thing f fd) : FnOk P w K mg base CX0 (kk + 1) f fd ["number", "n"] (sp4 K LL.f_is_thing) := by
 refine fun4 F sc_is_thing rfl rfl (fun cdv A outer s H E hr => ?_)
 have nd := sc_is_thing.nd
 exact (last4 (ret4 (chain4 op_le op_lt o4_le o4_lt i4 (x4 0) (x4 1))))
abbrev s_refuse_strangers : Stmt := top 19
theorem sc_refuse_strangers : FnScope ["n", "a", "b"] ["n", "a", "b"] (defScope s_refuse_strangers) := ⟨rfl, rfl, rfl, by decide +kernel, rfl, by decide +kernel, by decide +kernel⟩
theorem ok_refuse_strangers {kk : Nat} {g1 : Addr} {d1 : FuncData} (F : Fun K "refuse_strangers" "refuse_strangers" s_refuse_strangers f fd) (F_is_thing : FnOk P w K mg base CX0 kk g1 d1 ["number", "n"] (sp4 K LL.f_is_thing)) (m_is_thing : mg "is_thing" = some (.ref g1)) (k_is_thing : PySem.W.keepIn K (.ref g1) = true) (b_is_thing : Binds K d1 ["number", "n"] []) {C_NoThing : Addr} (x_NoThing : mg "NoThing" = some (.ref C_NoThing)) (q_NoThing : ExcC K C_NoThing) : FnOk P w K mg base (CXW P w) (kk + 1) f fd ["n", "a", "b"] (sp5 K mg LL.f_refuse_strangers) := by
 refine fun5 F sc_refuse_strangers rfl rfl (fun cdv A outer s H E hr => ?_)
 have nd := sc_refuse_strangers.nd
 exact (last4 (ifS4 (PW4.pt (orT4 (notT4 (val4 (call4 F_is_thing hr m_is_thing k_is_thing b_is_thing (cons4 (x4 1) (cons4 (x4 0) nil4))))) (or14 (notT4 (val4 (call4 F_is_thing hr m_is_thing k_is_thing b_is_thing (cons4 (x4 2) (cons4 (x4 0) nil4))))))))
   (last4 (raise5 rfl rfl x_NoThing q_NoThing (cons4 s4 nil4)))
   end4))
abbrev s_put_under : Stmt := top 18
theorem sc_put_under : FnScope ["order", "a", "b", "lower", "rows", "thing", "row", "reached"] ["order", "a", "b"] (defScope s_put_under) := ⟨rfl, rfl, rfl, by decide +kernel, rfl, by decide +kernel, by decide +kernel⟩
theorem ok_put_under {kk : Nat} {g1 : Addr} {d1 : FuncData} (F : Fun K "put_under" "put_under" s_put_under f fd) (F_refuse_strangers : FnOk P w K mg base (CXW P w) kk g1 d1 ["n", "a", "b"] (sp5 K mg LL.f_refuse_strangers)) (m_refuse_strangers : mg "refuse_strangers" = some (.ref g1)) (k_refuse_strangers : PySem.W.keepIn K (.ref g1) = true) (b_refuse_strangers : Binds K d1 ["n", "a", "b"] []) {C_Looped : Addr} (x_Looped : mg "Looped" = some (.ref C_Looped)) (q_Looped : ExcC K C_Looped) (m_tuple : mg "tuple" = none) (m_enumerate : mg "enumerate" = none) (m_sorted : mg "sorted" = none) (m_set : mg "set" = none) (m_len : mg "len" = none) : FnOk P w K mg base (CXW P w) (kk + 1) f fd ["order", "a", "b"] (sp5 K mg LL.f_put_under) := by
 refine fun5 F sc_put_under rfl rfl (fun cdv A outer s H E hr => ?_)
 have nd := sc_put_under.nd
 exact (seq4 (exprR5 (call5 F_refuse_strangers hr m_refuse_strangers k_refuse_strangers b_refuse_strangers (cons4 (len4 m_len (cons4 (x4 0) nil4)) (cons4 (x4 1) (cons4 (x4 2) nil4)))) (callR5 rfl F_refuse_strangers hr m_refuse_strangers k_refuse_strangers b_refuse_strangers (cons4 (len4 m_len (cons4 (x4 0) nil4)) (cons4 (x4 1) (cons4 (x4 2) nil4)))))
  (seq4 (ifS4 (PW4.pt (orT4 (eqT4 (x4 1) (x4 2)) (or14 (inT4 (x4 2) (ix4 (x4 0) (x4 1))))))
   (last4 (raise5 rfl rfl x_Looped q_Looped (cons4 s4 nil4)))
   end4)
  (seq4 (set4 (i := 3) nd (add4 (ix4 (x4 0) (x4 1)) (tup4 (cons4 (x4 1) nil4))))
  (seq4 (own4 (i := 4) nd (lst4 nil4))
  (seq4 (noxS4 (for4 rfl PassesOwn.never (enumerate4 m_enumerate (cons4 (x4 0) nil4)) (pair4 (i := 5) (j := 6) rfl nd)
   (seq4 (set4 (i := 7) nd (or4 (eq4 (x4 5) (x4 2)) (one4 (in4 (x4 2) (x4 6)))))
   (last4 (expr4 (app4 (i := 4) (pxr4 (if4 (val4 (x4 7)) (tuple4 m_tuple (cons4 (PF4.pe (sortedSet4 rfl m_sorted m_set (cons4 (add4 (x4 6) (x4 3)) nil4))) nil4)) (x4 6)))))))))
  (last4 (ret4 (tuple4 m_tuple (cons4 (x4 4) nil4)))))))))
abbrev s_order_of : Stmt := top 17
theorem sc_order_of : FnScope ["n", "ties", "a", "b", "order"] ["n", "ties"] (defScope s_order_of) := ⟨rfl, rfl, rfl, by decide +kernel, rfl, by decide +kernel, by decide +kernel⟩
theorem ok_order_of {kk : Nat} {g1 g2 : Addr} {d1 d2 : FuncData} (F : Fun K "order_of" "order_of" s_order_of f fd) (F_put_under : FnOk P w K mg base (CXW P w) kk g1 d1 ["order", "a", "b"] (sp5 K mg LL.f_put_under)) (m_put_under : mg "put_under" = some (.ref g1)) (k_put_under : PySem.W.keepIn K (.ref g1) = true) (b_put_under : Binds K d1 ["order", "a", "b"] []) (F_refuse_strangers : FnOk P w K mg base (CXW P w) kk g2 d2 ["n", "a", "b"] (sp5 K mg LL.f_refuse_strangers)) (m_refuse_strangers : mg "refuse_strangers" = some (.ref g2)) (k_refuse_strangers : PySem.W.keepIn K (.ref g2) = true) (b_refuse_strangers : Binds K d2 ["n", "a", "b"] []) : FnOk P w K mg base (CXW P w) (kk + 1) f fd ["n", "ties"] (sp5 K mg f_order_of) := by
 refine fun5 F sc_order_of rfl rfl (fun cdv A outer s H E hr => ?_)
 have nd := sc_order_of.nd
 exact (seq4 (for4 rfl PassesOwn.leaving (walk4 (x4 1)) (pair4 (i := 2) (j := 3) rfl nd)
   (last4 (exprR5 (call5 F_refuse_strangers hr m_refuse_strangers k_refuse_strangers b_refuse_strangers (cons4 (x4 0) (cons4 (x4 2) (cons4 (x4 3) nil4)))) (callR5 rfl F_refuse_strangers hr m_refuse_strangers k_refuse_strangers b_refuse_strangers (cons4 (x4 0) (cons4 (x4 2) (cons4 (x4 3) nil4)))))))
  (seq4 (set4 (i := 4) nd (repT4 (tup4 (cons4 (tup4 nil4) nil4)) (x4 0)))
  (seq4 (for4 rfl PassesOwn.leaving (walk4 (x4 1)) (pair4 (i := 2) (j := 3) rfl nd)
   (last4 (setR5 (i := 4) nd (call5 F_put_under hr m_put_under k_put_under b_put_under (cons4 (x4 4) (cons4 (x4 2) (cons4 (x4 3) nil4)))) (callR5 rfl F_put_under hr m_put_under k_put_under b_put_under (cons4 (x4 4) (cons4 (x4 2) (cons4 (x4 3) nil4)))))))
  (last4 (ret4 (x4 4))))))
abbrev s_l_cell : Stmt := top 21
theorem sc_l_cell : FnScope ["_law_script", "_law_k"] ["_law_script", "_law_k"] (defScope s_l_cell) := ⟨rfl, rfl, rfl, by decide +kernel, rfl, by decide +kernel, by decide +kernel⟩
theorem ok_l_cell {kk : Nat} (F : Fun K "_law_cell" "_law_cell" s_l_cell f fd) (m_len : mg "len" = none) : FnOk P w K mg base CX0 (kk + 1) f fd ["_law_script", "_law_k"] (sp4 K LL.f_l_cell) := by
 refine fun4 F sc_l_cell rfl rfl (fun cdv A outer s H E hr => ?_)
 have nd := sc_l_cell.nd
 exact (seq4 (ifS4 (eqT4 (len4 m_len (cons4 (x4 0) nil4)) i4)
   (last4 (ret4 i4))
   end4)
  (last4 (ret4 (ix4 (x4 0) (mod4 (x4 1) (len4 m_len (cons4 (x4 0) nil4)))))))
abbrev s_l_mixed : Stmt := top 22
theorem sc_l_mixed : FnScope ["_law_cell_here", "_law_k", "_law_salt", "_law_one", "_law_two"] ["_law_cell_here", "_law_k", "_law_salt"] (defScope s_l_mixed) := ⟨rfl, rfl, rfl, by decide +kernel, rfl, by decide +kernel, by decide +kernel⟩
theorem ok_l_mixed {kk : Nat} (F : Fun K "_law_mixed" "_law_mixed" s_l_mixed f fd) : FnOk P w K mg base CX0 (kk + 1) f fd ["_law_cell_here", "_law_k", "_law_salt"] (sp4 K LL.f_l_mixed) := by
 refine fun4 F sc_l_mixed rfl rfl (fun cdv A outer s H E hr => ?_)
 have nd := sc_l_mixed.nd
 exact (seq4 (set4 (i := 3) nd (mod4 (mul4 (add4 (add4 (add4 (x4 0) (mul4 (mul4 i4 (x4 1)) (x4 1))) (mul4 i4 (x4 1))) (x4 2)) i4) i4))
  (seq4 (set4 (i := 4) nd (mod4 (add4 (add4 (mul4 (x4 3) (add4 (div4 (x4 3) i4) i4)) (mul4 i4 (x4 1))) (x4 2)) i4))
  (last4 (ret4 (mod4 (mul4 (x4 4) i4) i4)))))
abbrev s_l_draws : Stmt := top 23
theorem sc_l_draws : FnScope ["_law_cell_here", "_law_many", "_law_salt", "_law_found", "_law_left", "_law_k"] ["_law_cell_here", "_law_many", "_law_salt"] (defScope s_l_draws) := ⟨rfl, rfl, rfl, by decide +kernel, rfl, by decide +kernel, by decide +kernel⟩
theorem ok_l_draws {kk : Nat} {g1 : Addr} {d1 : FuncData} (F : Fun K "_law_draws" "_law_draws" s_l_draws f fd) (F_l_mixed : FnOk P w K mg base CX0 kk g1 d1 ["_law_cell_here", "_law_k", "_law_salt"] (sp4 K LL.f_l_mixed)) (m_l_mixed : mg "_law_mixed" = some (.ref g1)) (k_l_mixed : PySem.W.keepIn K (.ref g1) = true) (b_l_mixed : Binds K d1 ["_law_cell_here", "_law_k", "_law_salt"] []) (m_range : mg "range" = none) : FnOk P w K mg base CX0 (kk + 1) f fd ["_law_cell_here", "_law_many", "_law_salt"] (sp4 K LL.f_l_draws) := by
 refine fun4 F sc_l_draws rfl rfl (fun cdv A outer s H E hr => ?_)
 have nd := sc_l_draws.nd
 exact (seq4 (own4 (i := 3) nd (lst4 nil4))
  (seq4 (set4 (i := 4) nd i4)
  (seq4 (ifS4 (geT4 (x4 0) (pow4 i4 i4))
   (last4 (set4 (i := 4) nd (x4 0)))
   end4)
  (seq4 (for4 rfl PassesOwn.never (range14 m_range (x4 1)) (name4 (i := 5) nd)
   (last4 (ifS4 (gtT4 (x4 4) i4)
    (seq4 (expr4 (app4 (i := 3) (pxr4 (mod4 (x4 4) i4))))
    (last4 (set4 (i := 4) nd (div4 (x4 4) i4))))
    (last4 (expr4 (app4 (i := 3) (pxr4 (call4 F_l_mixed hr m_l_mixed k_l_mixed b_l_mixed (cons4 (x4 0) (cons4 (x4 5) (cons4 (x4 2) nil4)))))))))))
  (last4 (ret4 (x4 3)))))))
abbrev s_l_same : Stmt := top 24
theorem sc_l_same : FnScope ["_law_found", "_law_due_here"] ["_law_found", "_law_due_here"] (defScope s_l_same) := ⟨rfl, rfl, rfl, by decide +kernel, rfl, by decide +kernel, by decide +kernel⟩
theorem ok_l_same {kk : Nat} (F : Fun K "_law_same" "_law_same" s_l_same f fd) (m_l_same : mg "_law_same" = some (.ref f)) (k_l_same : PySem.W.keepIn K (.ref f) = true) (b_l_same : Binds K fd ["_law_found", "_law_due_here"] []) (m_isinstance : mg "isinstance" = none) (m_str : mg "str" = none) (m_int : mg "int" = none) (m_bool : mg "bool" = none) (m_tuple : mg "tuple" = none) (m_len : mg "len" = none) (m_range : mg "range" = none) (m_all : mg "all" = none) : ∀ n : Nat, FnOk P w K mg base CX0 (kk + n) f fd ["_law_found", "_law_due_here"] (sp4 K (LL.f_l_same n))
 | 0 => none4
 | n + 1 => by
  have F_l_same := ok_l_same (kk := kk) F m_l_same k_l_same b_l_same m_isinstance m_str m_int m_bool m_tuple m_len m_range m_all n
  refine fun4 F sc_l_same rfl rfl (fun cdv A outer s H E hr => ?_)
  have nd := sc_l_same.nd
  exact (seq4 (ifS4 (val4 (isi4 Ty4.t m_isinstance m_tuple PyProof.Rows.boot_tuple (x4 1)))
   (seq4 (ifS4 (PW4.pt (orT4 (notT4 (val4 (isi4 Ty4.t m_isinstance m_tuple PyProof.Rows.boot_tuple (x4 0)))) (or14 (neT4 (len4 m_len (cons4 (x4 0) nil4)) (len4 m_len (cons4 (x4 1) nil4))))))
    (last4 (ret4 b4))
    end4)
   (last4 (ret4 (all4 rfl m_all (cons4 (PF4.pe (comp4 (ls := ["_law_k"]) (fs := ["_law_found", "_law_due_here"]) (fr := [0, 1]) rfl (range14 m_range (len4 m_len (cons4 (x4 1) nil4))) (fun _ _ _ _ _ _ nd => bname4 (i := 0) nd (by decide)) (fun _ _ _ _ _ _ => noif4) (fun _ _ _ _ _ _ => (call4 F_l_same hr m_l_same k_l_same b_l_same (cons4 (ix4 (x4 1) (x4 0)) (cons4 (ix4 (x4 2) (x4 0)) nil4)))))) nil4)))))
   end4)
  (seq4 (ifS4 (isT4 (x4 1) n4)
   (last4 (ret4 (is4 (x4 0) n4)))
   end4)
  (seq4 (ifS4 (val4 (isi4 Ty4.b m_isinstance m_bool PyProof.Rows.boot_bool (x4 1)))
   (last4 (ret4 (and4 (isi4 Ty4.b m_isinstance m_bool PyProof.Rows.boot_bool (x4 0)) (one4 (eq4 (x4 0) (x4 1))))))
   end4)
  (seq4 (ifS4 (val4 (isi4 Ty4.i m_isinstance m_int PyProof.Rows.boot_int (x4 1)))
   (last4 (ret4 (and4 (isi4 Ty4.i m_isinstance m_int PyProof.Rows.boot_int (x4 0)) (and4 (not4 (isi4 Ty4.b m_isinstance m_bool PyProof.Rows.boot_bool (x4 0))) (one4 (eq4 (x4 0) (x4 1)))))))
   end4)
  (last4 (ret4 (and4 (isi4 Ty4.s m_isinstance m_str PyProof.Rows.boot_str (x4 0)) (one4 (eq4 (x4 0) (x4 1))))))))))
abbrev s_l_order : Stmt := top 25
theorem sc_l_order : FnScope ["_law_draws_here", "_law_n", "_law_thick", "_law_rest", "_law_word", "_law_k", "_law_low", "_law_at", "_law_j", "_law_under", "_law_i"] ["_law_draws_here", "_law_n", "_law_thick"] (defScope s_l_order) := ⟨rfl, rfl, rfl, by decide +kernel, rfl, by decide +kernel, by decide +kernel⟩
theorem ok_l_order {kk : Nat} (F : Fun K "_law_order" "_law_order" s_l_order f fd) (m_range : mg "range" = none) (m_sorted : mg "sorted" = none) (m_tuple : mg "tuple" = none) (m_len : mg "len" = none) (m_list : mg "list" = none) : FnOk P w K mg base CX0 (kk + 1) f fd ["_law_draws_here", "_law_n", "_law_thick"] (sp4 K LL.f_l_order) := by
 refine fun4 F sc_l_order rfl rfl (fun cdv A outer s H E hr => ?_)
 have nd := sc_l_order.nd
 have hu : (A.deeper (PyProof.Rows.envOfC "_law_order" (defScope s_l_order) s.heap.objs.size f cdv)).units + 1 < cLine := by have := hr.un; omega
 exact (seq4 (own4 (i := 3) nd (listRange4 rfl m_list m_range (cons4 (x4 1) nil4)))
  (seq4 (own4 (i := 4) nd (lst4 nil4))
  (seq4 (for4 rfl PassesOwn.never (range14 m_range (x4 1)) (name4 (i := 5) nd)
   (last4 (expr4 (app4 (i := 4) (pop4 (i := 3) (px4 (mod4 (ix4 (x4 0) (x4 5)) (len4 m_len (cons4 (x4 3) nil4)))))))))
  (seq4 (ownDict4 (i := 6) nd)
  (seq4 (set4 (i := 7) nd (x4 1))
  (seq4 (for4 rfl PassesOwn.never (range14 m_range (x4 1)) (name4 (i := 8) nd)
   (seq4 (set4 (i := 9) nd (PF4.pe (lst4 nil4)))
   (seq4 (for4 rfl PassesOwn.never (range14 m_range (x4 8)) (name4 (i := 10) nd)
    (seq4 (ifS4 (ltT4 (mod4 (ix4 (x4 0) (x4 7)) i4) (x4 2))
     (last4 (setF4 (i := 9) nd (catN4 (x4 9) (PF4.pe (comp4 (ls := ["_law_a"]) (fs := ["_law_under"]) (fr := [9]) rfl (walk4 (add4 (ixD4 hu (x4 6) (ix4 (x4 4) (x4 10))) (PF4.pe (lst4 (cons4 (ix4 (x4 4) (x4 10)) nil4))))) (fun _ _ _ _ _ _ nd => bname4 (i := 0) nd (by decide)) (fun _ _ _ _ _ _ => oneif4 (ninT4 (x4 0) (x4 1))) (fun _ _ _ _ _ _ => (x4 0)))))))
     end4)
    (last4 (set4 (i := 7) nd (add4 (x4 7) i4)))))
   (last4 (putN4 (i := 6) hu (pxr4 (x4 9)) (ix4 (x4 4) (x4 8)))))))
  (last4 (ret4 (tuple4 m_tuple (cons4 (PF4.pe (comp4 (ls := ["_law_b"]) (fs := ["_law_low"]) (fr := [6]) rfl (range14 m_range (x4 1)) (fun _ _ _ _ _ _ nd => bname4 (i := 0) nd (by decide)) (fun _ _ _ _ _ _ => noif4) (fun _ _ _ _ _ _ => (tuple4 m_tuple (cons4 (PF4.pe (sorted4 m_sorted (cons4 (ixD4 hu (x4 1) (x4 0)) nil4))) nil4))))) nil4))))))))))
abbrev s_l_ties : Stmt := top 26
theorem sc_l_ties : FnScope ["_law_order_here", "_law_found", "_law_b"] ["_law_order_here"] (defScope s_l_ties) := ⟨rfl, rfl, rfl, by decide +kernel, rfl, by decide +kernel, by decide +kernel⟩
theorem ok_l_ties {kk : Nat} (F : Fun K "_law_ties" "_law_ties" s_l_ties f fd) (m_sorted : mg "sorted" = none) (m_len : mg "len" = none) (m_range : mg "range" = none) : FnOk P w K mg base CX0 (kk + 1) f fd ["_law_order_here"] (sp4 K LL.f_l_ties) := by
 refine fun4 F sc_l_ties rfl rfl (fun cdv A outer s H E hr => ?_)
 have nd := sc_l_ties.nd
 exact (seq4 (set4 (i := 1) nd (PF4.pe (lst4 nil4)))
  (seq4 (for4 rfl PassesOwn.never (range14 m_range (len4 m_len (cons4 (x4 0) nil4))) (name4 (i := 2) nd)
   (last4 (set4 (i := 1) nd (add4 (x4 1) (PF4.pe (comp4 (ls := ["_law_a"]) (fs := ["_law_b"]) (fr := [2]) rfl (walk4 (ix4 (x4 0) (x4 2))) (fun _ _ _ _ _ _ nd => bname4 (i := 0) nd (by decide)) (fun _ _ _ _ _ _ => noif4) (fun _ _ _ _ _ _ => (tup4 (cons4 (x4 0) (cons4 (x4 1) nil4))))))))))
  (last4 (ret4 (PF4.pe (sortedT4 m_sorted (cons4 (x4 1) nil4)))))))
abbrev s_l_asked : Stmt := top 27
theorem sc_l_asked : FnScope ["_law_n", "_law_ties_here", "e"] ["_law_n", "_law_ties_here"] (defScope s_l_asked) := ⟨rfl, rfl, rfl, by decide +kernel, rfl, by decide +kernel, by decide +kernel⟩
theorem ok_l_asked {kk : Nat} {g1 : Addr} {d1 : FuncData} (F : Fun K "_law_asked" "_law_asked" s_l_asked f fd) (F_order_of : FnOk P w K mg base (CXW P w) kk g1 d1 ["n", "ties"] (sp5 K mg f_order_of)) (m_order_of : mg "order_of" = some (.ref g1)) (k_order_of : PySem.W.keepIn K (.ref g1) = true) (b_order_of : Binds K d1 ["n", "ties"] []) {C_Looped C_NoFilling C_NoGoing C_NoLine C_NoName C_NoNumber C_NoOrder C_NoRow C_NoShape C_NoThing C_NotForest C_NotLoose C_RiseError C_TooGreat : Addr} (x_Looped : mg "Looped" = some (.ref C_Looped)) (x_NoFilling : mg "NoFilling" = some (.ref C_NoFilling)) (x_NoGoing : mg "NoGoing" = some (.ref C_NoGoing)) (x_NoLine : mg "NoLine" = some (.ref C_NoLine)) (x_NoName : mg "NoName" = some (.ref C_NoName)) (x_NoNumber : mg "NoNumber" = some (.ref C_NoNumber)) (x_NoOrder : mg "NoOrder" = some (.ref C_NoOrder)) (x_NoRow : mg "NoRow" = some (.ref C_NoRow)) (x_NoShape : mg "NoShape" = some (.ref C_NoShape)) (x_NoThing : mg "NoThing" = some (.ref C_NoThing)) (x_NotForest : mg "NotForest" = some (.ref C_NotForest)) (x_NotLoose : mg "NotLoose" = some (.ref C_NotLoose)) (x_RiseError : mg "RiseError" = some (.ref C_RiseError)) (x_TooGreat : mg "TooGreat" = some (.ref C_TooGreat)) (e1 : PySem.W.subIn K (.ref C_RiseError) (.type "BaseException") = some true) (e2 : PySem.W.isClsIn K C_RiseError = true) (e3 : PySem.W.typeIn K (.ref C_RiseError) = some (.type "type")) (qq_Looped : ExcQ K C_Looped) (sVE_Looped : PySem.W.subIn K (.ref C_Looped) (.type "ValueError") = some true) (d_Looped_NoLine : NotSub K C_Looped C_NoLine) (d_Looped_NoName : NotSub K C_Looped C_NoName) (d_Looped_NoShape : NotSub K C_Looped C_NoShape) (d_Looped_NotForest : NotSub K C_Looped C_NotForest) (d_Looped_NotLoose : NotSub K C_Looped C_NotLoose) (d_Looped_NoFilling : NotSub K C_Looped C_NoFilling) (d_Looped_NoRow : NotSub K C_Looped C_NoRow) (d_Looped_NoGoing : NotSub K C_Looped C_NoGoing) (d_Looped_TooGreat : NotSub K C_Looped C_TooGreat) (d_Looped_NoNumber : NotSub K C_Looped C_NoNumber) (d_Looped_NoOrder : NotSub K C_Looped C_NoOrder) (d_Looped_NoThing : NotSub K C_Looped C_NoThing) (e4_Looped : PySem.W.subIn K (.ref C_Looped) (.ref C_RiseError) = some true) (qq_NoThing : ExcQ K C_NoThing) (sVE_NoThing : PySem.W.subIn K (.ref C_NoThing) (.type "ValueError") = some true) (d_NoThing_NoLine : NotSub K C_NoThing C_NoLine) (d_NoThing_NoName : NotSub K C_NoThing C_NoName) (d_NoThing_NoShape : NotSub K C_NoThing C_NoShape) (d_NoThing_NotForest : NotSub K C_NoThing C_NotForest) (d_NoThing_NotLoose : NotSub K C_NoThing C_NotLoose) (d_NoThing_NoFilling : NotSub K C_NoThing C_NoFilling) (d_NoThing_NoRow : NotSub K C_NoThing C_NoRow) (d_NoThing_NoGoing : NotSub K C_NoThing C_NoGoing) (d_NoThing_TooGreat : NotSub K C_NoThing C_TooGreat) (d_NoThing_NoNumber : NotSub K C_NoThing C_NoNumber) (d_NoThing_NoOrder : NotSub K C_NoThing C_NoOrder) (d_NoThing_Looped : NotSub K C_NoThing C_Looped) (e4_NoThing : PySem.W.subIn K (.ref C_NoThing) (.ref C_RiseError) = some true) (m_isinstance : mg "isinstance" = none) (m_ValueError : mg "ValueError" = none) : FnOk P w K mg base CX0 (kk + 1) f fd ["_law_n", "_law_ties_here"] (sp4 K f_l_asked) := by
 refine fun4 F sc_l_asked rfl rfl (fun cdv A outer s H E hr => ?_)
 have nd := sc_l_asked.nd
 exact (last4 (try5 (i := 2) rfl rfl x_RiseError nd (fun pn xe => (last4 (retR5 (tup4 (cons4 s4 (cons4 (call5 F_order_of hr m_order_of k_order_of b_order_of (cons4 (x4 0) (cons4 (x4 1) nil4))) nil4))) (tupR5 (nextR5 s4 (hereR5 (callR5 rfl F_order_of hr m_order_of k_order_of b_order_of (cons4 (x4 0) (cons4 (x4 1) nil4))) nil4)))))) (fun c d h => by
   by_cases hc0 : c = "NoThing"
   ·subst hc0
    rw [if_pos rfl] at h
    cases h
    refine ⟨C_NoThing, fun e => (sRet (eTup (aCons (eC (.str "refused")) (aCons (eIsE "NoThing" e true 2) (aCons (eIsE "NoThing" e false 2) (aCons (eIsE "NoThing" e false 2) (aCons (eIsE "NoThing" e false 2) (aCons (eIsE "NoThing" e false 2) (aCons (eIsE "NoThing" e false 2) (aCons (eIsE "NoThing" e false 2) (aCons (eIsE "NoThing" e false 2) (aCons (eIsE "NoThing" e false 2) (aCons (eIsE "NoThing" e false 2) (aCons (eIsE "NoThing" e false 2) (aCons (eIsE "NoThing" e false 2) (aCons (eIsE "NoThing" e false 2) (aCons (eIsE "NoThing" e true 2) aNil))))))))))))))))), x_NoThing, exm_of e1 e2 e3 e4_NoThing, fun e => by
     show (sRet (eTup (aCons (eC (.str "refused")) (aCons (eIsE "NoThing" e true 2) (aCons (eIsE "NoThing" e false 2) (aCons (eIsE "NoThing" e false 2) (aCons (eIsE "NoThing" e false 2) (aCons (eIsE "NoThing" e false 2) (aCons (eIsE "NoThing" e false 2) (aCons (eIsE "NoThing" e false 2) (aCons (eIsE "NoThing" e false 2) (aCons (eIsE "NoThing" e false 2) (aCons (eIsE "NoThing" e false 2) (aCons (eIsE "NoThing" e false 2) (aCons (eIsE "NoThing" e false 2) (aCons (eIsE "NoThing" e false 2) (aCons (eIsE "NoThing" e true 2) aNil))))))))))))))))) ((List.replicate 3 Sv.no).set 2 (.ro (.exc "NoThing" e))) = .rt (.tup [.str "refused", .bl true, .bl false, .bl false, .bl false, .bl false, .bl false, .bl false, .bl false, .bl false, .bl false, .bl false, .bl false, .bl false, .bl true])
     simp only [sSeq, sRet, sSet, eVar, eC, eAnd, eOr, eNot, eTup, aNil, aCons, eIsE, boolM, szL, vAll, vRd, Sv.all, Sv.rd, List.map_cons, List.map_nil, List.getElem?_cons_zero, List.getElem?_cons_succ, Option.join_some, Option.join_none, Option.bind_some, Option.map_some, List.set_cons_zero, List.set_cons_succ, List.replicate_succ, List.replicate_zero, and_self, if_true, reduceIte, Bool.false_eq_true, Bool.not_true, Bool.not_false, List.length_cons, List.length_nil, Nat.reduceAdd, Nat.reduceLeDiff], fun e oe pn hoe => ?_⟩
    have cg : ∀ {Y : Cx}, Caught (hcx Y (some (.ref e)) (pn ++ [(e, oe)])) e C_NoThing := fun {Y} => ⟨oe, List.mem_append_right _ List.mem_cons_self, hoe⟩
    exact (last4 (ret4 (tup4 (cons4 s4 (cons4 (isE4 cg qq_NoThing m_isinstance x_NoThing kit_self) (cons4 (isE4 cg qq_NoThing m_isinstance x_Looped d_NoThing_Looped.one) (cons4 (isE4 cg qq_NoThing m_isinstance x_NoOrder d_NoThing_NoOrder.one) (cons4 (isE4 cg qq_NoThing m_isinstance x_NoNumber d_NoThing_NoNumber.one) (cons4 (isE4 cg qq_NoThing m_isinstance x_TooGreat d_NoThing_TooGreat.one) (cons4 (isE4 cg qq_NoThing m_isinstance x_NoGoing d_NoThing_NoGoing.one) (cons4 (isE4 cg qq_NoThing m_isinstance x_NoRow d_NoThing_NoRow.one) (cons4 (isE4 cg qq_NoThing m_isinstance x_NoFilling d_NoThing_NoFilling.one) (cons4 (isE4 cg qq_NoThing m_isinstance x_NotLoose d_NoThing_NotLoose.one) (cons4 (isE4 cg qq_NoThing m_isinstance x_NotForest d_NoThing_NotForest.one) (cons4 (isE4 cg qq_NoThing m_isinstance x_NoShape d_NoThing_NoShape.one) (cons4 (isE4 cg qq_NoThing m_isinstance x_NoName d_NoThing_NoName.one) (cons4 (isE4 cg qq_NoThing m_isinstance x_NoLine d_NoThing_NoLine.one) (cons4 (isET4 cg qq_NoThing m_isinstance m_ValueError PyProof.Rows.Boot.«ValueError» (kitT_of (by decide +kernel) sVE_NoThing)) nil4))))))))))))))))))
   rw [if_neg hc0] at h
   by_cases hc1 : c = "Looped"
   ·subst hc1
    rw [if_pos rfl] at h
    cases h
    refine ⟨C_Looped, fun e => (sRet (eTup (aCons (eC (.str "refused")) (aCons (eIsE "Looped" e false 2) (aCons (eIsE "Looped" e true 2) (aCons (eIsE "Looped" e false 2) (aCons (eIsE "Looped" e false 2) (aCons (eIsE "Looped" e false 2) (aCons (eIsE "Looped" e false 2) (aCons (eIsE "Looped" e false 2) (aCons (eIsE "Looped" e false 2) (aCons (eIsE "Looped" e false 2) (aCons (eIsE "Looped" e false 2) (aCons (eIsE "Looped" e false 2) (aCons (eIsE "Looped" e false 2) (aCons (eIsE "Looped" e false 2) (aCons (eIsE "Looped" e true 2) aNil))))))))))))))))), x_Looped, exm_of e1 e2 e3 e4_Looped, fun e => by
     show (sRet (eTup (aCons (eC (.str "refused")) (aCons (eIsE "Looped" e false 2) (aCons (eIsE "Looped" e true 2) (aCons (eIsE "Looped" e false 2) (aCons (eIsE "Looped" e false 2) (aCons (eIsE "Looped" e false 2) (aCons (eIsE "Looped" e false 2) (aCons (eIsE "Looped" e false 2) (aCons (eIsE "Looped" e false 2) (aCons (eIsE "Looped" e false 2) (aCons (eIsE "Looped" e false 2) (aCons (eIsE "Looped" e false 2) (aCons (eIsE "Looped" e false 2) (aCons (eIsE "Looped" e false 2) (aCons (eIsE "Looped" e true 2) aNil))))))))))))))))) ((List.replicate 3 Sv.no).set 2 (.ro (.exc "Looped" e))) = .rt (.tup [.str "refused", .bl false, .bl true, .bl false, .bl false, .bl false, .bl false, .bl false, .bl false, .bl false, .bl false, .bl false, .bl false, .bl false, .bl true])
     simp only [sSeq, sRet, sSet, eVar, eC, eAnd, eOr, eNot, eTup, aNil, aCons, eIsE, boolM, szL, vAll, vRd, Sv.all, Sv.rd, List.map_cons, List.map_nil, List.getElem?_cons_zero, List.getElem?_cons_succ, Option.join_some, Option.join_none, Option.bind_some, Option.map_some, List.set_cons_zero, List.set_cons_succ, List.replicate_succ, List.replicate_zero, and_self, if_true, reduceIte, Bool.false_eq_true, Bool.not_true, Bool.not_false, List.length_cons, List.length_nil, Nat.reduceAdd, Nat.reduceLeDiff], fun e oe pn hoe => ?_⟩
    have cg : ∀ {Y : Cx}, Caught (hcx Y (some (.ref e)) (pn ++ [(e, oe)])) e C_Looped := fun {Y} => ⟨oe, List.mem_append_right _ List.mem_cons_self, hoe⟩
    exact (last4 (ret4 (tup4 (cons4 s4 (cons4 (isE4 cg qq_Looped m_isinstance x_NoThing d_Looped_NoThing.one) (cons4 (isE4 cg qq_Looped m_isinstance x_Looped kit_self) (cons4 (isE4 cg qq_Looped m_isinstance x_NoOrder d_Looped_NoOrder.one) (cons4 (isE4 cg qq_Looped m_isinstance x_NoNumber d_Looped_NoNumber.one) (cons4 (isE4 cg qq_Looped m_isinstance x_TooGreat d_Looped_TooGreat.one) (cons4 (isE4 cg qq_Looped m_isinstance x_NoGoing d_Looped_NoGoing.one) (cons4 (isE4 cg qq_Looped m_isinstance x_NoRow d_Looped_NoRow.one) (cons4 (isE4 cg qq_Looped m_isinstance x_NoFilling d_Looped_NoFilling.one) (cons4 (isE4 cg qq_Looped m_isinstance x_NotLoose d_Looped_NotLoose.one) (cons4 (isE4 cg qq_Looped m_isinstance x_NotForest d_Looped_NotForest.one) (cons4 (isE4 cg qq_Looped m_isinstance x_NoShape d_Looped_NoShape.one) (cons4 (isE4 cg qq_Looped m_isinstance x_NoName d_Looped_NoName.one) (cons4 (isE4 cg qq_Looped m_isinstance x_NoLine d_Looped_NoLine.one) (cons4 (isET4 cg qq_Looped m_isinstance m_ValueError PyProof.Rows.Boot.«ValueError» (kitT_of (by decide +kernel) sVE_Looped)) nil4))))))))))))))))))
   rw [if_neg hc1] at h
   cases h)))
abbrev s_l_refused : Stmt := top 28
theorem sc_l_refused : FnScope ["_law_word", "_law_known"] ["_law_word"] (defScope s_l_refused) := ⟨rfl, rfl, rfl, by decide +kernel, rfl, by decide +kernel, by decide +kernel⟩
theorem ok_l_refused {kk : Nat} (F : Fun K "_law_refused" "_law_refused" s_l_refused f fd) (m_tuple : mg "tuple" = none) : FnOk P w K mg base CX0 (kk + 1) f fd ["_law_word"] (sp4 K LL.f_l_refused) := by
 refine fun4 F sc_l_refused rfl rfl (fun cdv A outer s H E hr => ?_)
 have nd := sc_l_refused.nd
 exact (seq4 (set4 (i := 1) nd s4)
  (seq4 (set4 (i := 1) nd (add4 (x4 1) s4))
  (last4 (ret4 (add4 (add4 (tup4 (cons4 s4 nil4)) (tuple4 m_tuple (cons4 (PF4.pe (comp4 (ls := ["_law_one"]) (fs := ["_law_word"]) (fr := [0]) rfl (walk4 (PF4.pe (split4 (x4 1) s4))) (fun _ _ _ _ _ _ nd => bname4 (i := 0) nd (by decide)) (fun _ _ _ _ _ _ => noif4) (fun _ _ _ _ _ _ => (eq4 (x4 0) (x4 1))))) nil4))) (tup4 (cons4 b4 nil4)))))))
abbrev s_l_closed : Stmt := top 29
theorem sc_l_closed : FnScope ["_law_n", "_law_ties_here", "_law_found", "_law_b", "_law_under", "_law_fresh", "_law_c", "_law_a", "_law_d"] ["_law_n", "_law_ties_here"] (defScope s_l_closed) := ⟨rfl, rfl, rfl, by decide +kernel, rfl, by decide +kernel, by decide +kernel⟩
theorem ok_l_closed {kk : Nat} (F : Fun K "_law_closed" "_law_closed" s_l_closed f fd) (m_tuple : mg "tuple" = none) (m_range : mg "range" = none) (m_sorted : mg "sorted" = none) (m_len : mg "len" = none) : FnOk P w K mg base CX0 (kk + 1) f fd ["_law_n", "_law_ties_here"] (sp4 K LL.f_l_closed) := by
 refine fun4 F sc_l_closed rfl rfl (fun cdv A outer s H E hr => ?_)
 have nd := sc_l_closed.nd
 exact (seq4 (own4 (i := 2) nd (lst4 nil4))
  (seq4 (for4 rfl PassesOwn.never (range14 m_range (x4 0)) (name4 (i := 3) nd)
   (seq4 (own4 (i := 4) nd (lst4 nil4))
   (seq4 (own4 (i := 5) nd (lst4 (cons4 (x4 3) nil4)))
   (seq4 (while4 PassesOwn.never (gtT4 (len4 m_len (cons4 (x4 5) nil4)) i4)
    (seq4 (setX4 (i := 6) nd (pop04 (i := 5)))
    (last4 (for4 rfl PassesOwn.never (walk4 (x4 1)) (pair4 (i := 7) (j := 8) rfl nd)
     (last4 (ifS4 (PW4.pt (andT4 (eqT4 (x4 8) (x4 6)) (and14 (ninT4 (x4 7) (x4 4)))))
      (seq4 (expr4 (app4 (i := 4) (pxr4 (x4 7))))
      (last4 (expr4 (app4 (i := 5) (pxr4 (x4 7))))))
      end4))))))
   (seq4 (ifS4 (inT4 (x4 3) (x4 4))
    (last4 (ret4 n4))
    end4)
   (last4 (expr4 (app4 (i := 2) (px4 (tuple4 m_tuple (cons4 (PF4.pe (sorted4 m_sorted (cons4 (x4 4) nil4))) nil4)))))))))))
  (last4 (ret4 (tuple4 m_tuple (cons4 (x4 2) nil4))))))
abbrev s_l_made : Stmt := top 30
theorem sc_l_made : FnScope ["_law_script", "_law_k", "_law_salt", "_law_head", "_law_n", "_law_found", "_law_draws_here", "_law_picks", "_law_at", "_law_tie", "_law_last", "_law_bad", "_law_pair"] ["_law_script", "_law_k", "_law_salt"] (defScope s_l_made) := ⟨rfl, rfl, rfl, by decide +kernel, rfl, by decide +kernel, by decide +kernel⟩
theorem ok_l_made {kk : Nat} {g1 g2 g3 g4 : Addr} {d1 d2 d3 d4 : FuncData} (F : Fun K "_law_made" "_law_made" s_l_made f fd) (F_l_ties : FnOk P w K mg base CX0 kk g1 d1 ["_law_order_here"] (sp4 K LL.f_l_ties)) (m_l_ties : mg "_law_ties" = some (.ref g1)) (k_l_ties : PySem.W.keepIn K (.ref g1) = true) (b_l_ties : Binds K d1 ["_law_order_here"] []) (F_l_order : FnOk P w K mg base CX0 kk g2 d2 ["_law_draws_here", "_law_n", "_law_thick"] (sp4 K LL.f_l_order)) (m_l_order : mg "_law_order" = some (.ref g2)) (k_l_order : PySem.W.keepIn K (.ref g2) = true) (b_l_order : Binds K d2 ["_law_draws_here", "_law_n", "_law_thick"] []) (F_l_draws : FnOk P w K mg base CX0 kk g3 d3 ["_law_cell_here", "_law_many", "_law_salt"] (sp4 K LL.f_l_draws)) (m_l_draws : mg "_law_draws" = some (.ref g3)) (k_l_draws : PySem.W.keepIn K (.ref g3) = true) (b_l_draws : Binds K d3 ["_law_cell_here", "_law_many", "_law_salt"] []) (F_l_cell : FnOk P w K mg base CX0 kk g4 d4 ["_law_script", "_law_k"] (sp4 K LL.f_l_cell)) (m_l_cell : mg "_law_cell" = some (.ref g4)) (k_l_cell : PySem.W.keepIn K (.ref g4) = true) (b_l_cell : Binds K d4 ["_law_script", "_law_k"] []) (m_tuple : mg "tuple" = none) (m_len : mg "len" = none) (m_range : mg "range" = none) (m_enumerate : mg "enumerate" = none) : FnOk P w K mg base CX0 (kk + 1) f fd ["_law_script", "_law_k", "_law_salt"] (sp4 K f_l_made) := by
 refine fun4 F sc_l_made rfl rfl (fun cdv A outer s H E hr => ?_)
 have nd := sc_l_made.nd
 exact (seq4 (set4 (i := 3) nd (call4 F_l_draws hr m_l_draws k_l_draws b_l_draws (cons4 (call4 F_l_cell hr m_l_cell k_l_cell b_l_cell (cons4 (x4 0) (cons4 (x4 1) nil4))) (cons4 i4 (cons4 (x4 2) nil4)))))
  (seq4 (set4 (i := 4) nd (mod4 (ix4 (x4 3) i4) i4))
  (seq4 (ifS4 (PW4.pt (andT4 (eqT4 (mod4 (ix4 (x4 3) i4) i4) i4) (and14 (gtT4 (x4 4) i4))))
   (last4 (setComp4 (i := 5) (ls := ["_law_i"]) (fs := ["_law_n", "_law_head"]) (fr := [4, 3]) nd rfl (range14 m_range (mod4 (ix4 (x4 3) i4) i4)) (fun _ _ _ _ _ _ nd => bname4 (i := 0) nd (by decide)) (fun _ _ _ _ _ _ => noif4) (fun _ _ _ _ _ _ => (tup4 (cons4 (mod4 (ix4 (x4 2) (add4 i4 (mul4 i4 (x4 0)))) (x4 1)) (cons4 (mod4 (ix4 (x4 2) (add4 i4 (mul4 i4 (x4 0)))) (x4 1)) nil4))))))
   (seq4 (set4 (i := 6) nd (call4 F_l_draws hr m_l_draws k_l_draws b_l_draws (cons4 (call4 F_l_cell hr m_l_cell k_l_cell b_l_cell (cons4 (x4 0) (cons4 (add4 (x4 1) i4) nil4))) (cons4 (add4 (x4 4) (div4 (mul4 (x4 4) (sub4 (x4 4) i4)) i4)) (cons4 (add4 (x4 2) i4) nil4)))))
   (seq4 (own4 (i := 5) nd (lst4 nil4))
   (seq4 (set4 (i := 7) nd (call4 F_l_draws hr m_l_draws k_l_draws b_l_draws (cons4 (call4 F_l_cell hr m_l_cell k_l_cell b_l_cell (cons4 (x4 0) (cons4 (add4 (x4 1) i4) nil4))) (cons4 i4 (cons4 (add4 (x4 2) i4) nil4)))))
   (last4 (for4 rfl PassesOwn.never (enumerate4 m_enumerate (cons4 (call4 F_l_ties hr m_l_ties k_l_ties b_l_ties (cons4 (call4 F_l_order hr m_l_order k_l_order b_l_order (cons4 (x4 6) (cons4 (x4 4) (cons4 (add4 i4 (mod4 (ix4 (x4 3) i4) i4)) nil4)))) nil4)) nil4)) (pair4 (i := 8) (j := 9) rfl nd)
    (seq4 (ifS4 (gtT4 (mod4 (ix4 (x4 7) (x4 8)) i4) i4)
     (last4 (expr4 (ins4 (i := 5) (mod4 (div4 (ix4 (x4 7) (x4 8)) i4) (add4 (len4 m_len (cons4 (x4 5) nil4)) i4)) (x4 9))))
     end4)
    (last4 (ifS4 (eqT4 (mod4 (ix4 (x4 7) (x4 8)) i4) i4)
     (last4 (expr4 (app4 (i := 5) (pxr4 (x4 9)))))
     end4)))))))))
  (seq4 (ifS4 (PW4.pt (andT4 (eqT4 (mod4 (ix4 (x4 3) i4) i4) i4) (and14 (gtT4 (len4 m_len (cons4 (x4 5) nil4)) i4))))
   (seq4 (setX4 (i := 10) nd (pop4 (i := 5) (px4 (mod4 (ix4 (x4 3) i4) (len4 m_len (cons4 (x4 5) nil4))))))
   (last4 (ownI4 (i := 5) nd (catN4 (sl4 (PF4.pe (repL4 (x4 5) i4)) no4 (po4 i4)) (PF4.pe (lst4 (cons4 (x4 10) nil4)))))))
   end4)
  (seq4 (ifS4 (eqT4 (mod4 (ix4 (x4 3) i4) i4) i4)
   (seq4 (set4 (i := 11) nd (ix4 (PF4.pe (lst4 (cons4 (neg4 i4) (cons4 (x4 4) (cons4 (add4 (x4 4) i4) (cons4 (sub4 (neg4 (x4 4)) i4) (cons4 (sub4 (powG4 (pow4 i4 i4) i4) i4) nil4))))))) (mod4 (ix4 (x4 3) i4) i4)))
   (seq4 (set4 (i := 12) nd (ix4 (PF4.pe (lst4 (cons4 (tup4 (cons4 (x4 11) (cons4 i4 nil4))) (cons4 (tup4 (cons4 i4 (cons4 (x4 11) nil4))) (cons4 (tup4 (cons4 (x4 11) (cons4 (x4 11) nil4))) nil4))))) (mod4 (ix4 (x4 3) i4) i4)))
   (last4 (expr4 (ins4 (i := 5) (mod4 (ix4 (x4 3) i4) (add4 (len4 m_len (cons4 (x4 5) nil4)) i4)) (x4 12))))))
   end4)
  (last4 (ret4 (tup4 (cons4 (x4 4) (cons4 (tuple4 m_tuple (cons4 (x4 5) nil4)) nil4))))))))))
abbrev s_l_due : Stmt := top 31
theorem sc_l_due : FnScope ["_law_n", "_law_ties_here", "_law_a", "_law_b", "_law_order_here"] ["_law_n", "_law_ties_here"] (defScope s_l_due) := ⟨rfl, rfl, rfl, by decide +kernel, rfl, by decide +kernel, by decide +kernel⟩
theorem ok_l_due {kk : Nat} {g1 g2 : Addr} {d1 d2 : FuncData} (F : Fun K "_law_due" "_law_due" s_l_due f fd) (F_l_refused : FnOk P w K mg base CX0 kk g1 d1 ["_law_word"] (sp4 K LL.f_l_refused)) (m_l_refused : mg "_law_refused" = some (.ref g1)) (k_l_refused : PySem.W.keepIn K (.ref g1) = true) (b_l_refused : Binds K d1 ["_law_word"] []) (F_l_closed : FnOk P w K mg base CX0 kk g2 d2 ["_law_n", "_law_ties_here"] (sp4 K LL.f_l_closed)) (m_l_closed : mg "_law_closed" = some (.ref g2)) (k_l_closed : PySem.W.keepIn K (.ref g2) = true) (b_l_closed : Binds K d2 ["_law_n", "_law_ties_here"] []) : FnOk P w K mg base CX0 (kk + 1) f fd ["_law_n", "_law_ties_here"] (sp4 K f_l_due) := by
 refine fun4 F sc_l_due rfl rfl (fun cdv A outer s H E hr => ?_)
 have nd := sc_l_due.nd
 exact (seq4 (for4 rfl PassesOwn.never (walk4 (x4 1)) (pair4 (i := 2) (j := 3) rfl nd)
   (last4 (ifS4 (PW4.pt (orT4 (ltT4 (x4 2) i4) (orT4 (geT4 (x4 2) (x4 0)) (orT4 (ltT4 (x4 3) i4) (or14 (geT4 (x4 3) (x4 0)))))))
    (last4 (ret4 (call4 F_l_refused hr m_l_refused k_l_refused b_l_refused (cons4 s4 nil4))))
    end4)))
  (seq4 (set4 (i := 4) nd (call4 F_l_closed hr m_l_closed k_l_closed b_l_closed (cons4 (x4 0) (cons4 (x4 1) nil4))))
  (seq4 (ifS4 (isT4 (x4 4) n4)
   (last4 (ret4 (call4 F_l_refused hr m_l_refused k_l_refused b_l_refused (cons4 s4 nil4))))
   end4)
  (last4 (ret4 (tup4 (cons4 s4 (cons4 (x4 4) nil4))))))))
abbrev s_law : Stmt := top 32
theorem sc_law : FnScope ["_law_script", "_law_n", "_law_ties_here", "_law_many", "_law_other", "_law_due_here"] ["_law_script"] (defScope s_law) := ⟨rfl, rfl, rfl, by decide +kernel, rfl, by decide +kernel, by decide +kernel⟩
theorem ok_law {kk : Nat} {g1 g2 g3 g4 : Addr} {d1 d2 d3 d4 : FuncData} (F : Fun K "law" "law" s_law f fd) (F_l_same : FnOk P w K mg base CX0 kk g1 d1 ["_law_found", "_law_due_here"] (sp4 K (LL.f_l_same 6))) (m_l_same : mg "_law_same" = some (.ref g1)) (k_l_same : PySem.W.keepIn K (.ref g1) = true) (b_l_same : Binds K d1 ["_law_found", "_law_due_here"] []) (F_l_asked : FnOk P w K mg base CX0 kk g2 d2 ["_law_n", "_law_ties_here"] (sp4 K f_l_asked)) (m_l_asked : mg "_law_asked" = some (.ref g2)) (k_l_asked : PySem.W.keepIn K (.ref g2) = true) (b_l_asked : Binds K d2 ["_law_n", "_law_ties_here"] []) (F_l_due : FnOk P w K mg base CX0 kk g3 d3 ["_law_n", "_law_ties_here"] (sp4 K f_l_due)) (m_l_due : mg "_law_due" = some (.ref g3)) (k_l_due : PySem.W.keepIn K (.ref g3) = true) (b_l_due : Binds K d3 ["_law_n", "_law_ties_here"] []) (F_l_made : FnOk P w K mg base CX0 kk g4 d4 ["_law_script", "_law_k", "_law_salt"] (sp4 K f_l_made)) (m_l_made : mg "_law_made" = some (.ref g4)) (k_l_made : PySem.W.keepIn K (.ref g4) = true) (b_l_made : Binds K d4 ["_law_script", "_law_k", "_law_salt"] []) : FnOk P w K mg base CX0 (kk + 1) f fd ["_law_script"] (sp4 K f_law) := by
 refine fun4 F sc_law rfl rfl (fun cdv A outer s H E hr => ?_)
 have nd := sc_law.nd
 exact (seq4 (asgG4 (pxr4 (call4 F_l_made hr m_l_made k_l_made b_l_made (cons4 (x4 0) (cons4 i4 (cons4 i4 nil4))))) (pair4 (i := 1) (j := 2) rfl nd))
  (seq4 (asgG4 (pxr4 (call4 F_l_made hr m_l_made k_l_made b_l_made (cons4 (x4 0) (cons4 i4 (cons4 i4 nil4))))) (pair4 (i := 3) (j := 4) rfl nd))
  (seq4 (set4 (i := 5) nd (call4 F_l_due hr m_l_due k_l_due b_l_due (cons4 (x4 1) (cons4 (x4 2) nil4))))
  (seq4 (ifS4 (PW4.pt (orT4 (notT4 (val4 (call4 F_l_same hr m_l_same k_l_same b_l_same (cons4 (call4 F_l_asked hr m_l_asked k_l_asked b_l_asked (cons4 (x4 1) (cons4 (x4 2) nil4))) (cons4 (x4 5) nil4))))) (or14 (notT4 (val4 (call4 F_l_same hr m_l_same k_l_same b_l_same (cons4 (call4 F_l_asked hr m_l_asked k_l_asked b_l_asked (cons4 (x4 3) (cons4 (x4 4) nil4))) (cons4 (call4 F_l_due hr m_l_due k_l_due b_l_due (cons4 (x4 3) (cons4 (x4 4) nil4))) nil4))))))))
   (last4 (ret4 b4))
   end4)
  (last4 (ret4 (call4 F_l_same hr m_l_same k_l_same b_l_same (cons4 (call4 F_l_asked hr m_l_asked k_l_asked b_l_asked (cons4 (x4 1) (cons4 (x4 2) nil4))) (cons4 (x4 5) nil4)))))))))
end
theorem len_is1 : ∀ (us : List Value), us.length = 1 -> ∃ a0, us = [a0]
 | [a0], _ => ⟨a0, rfl⟩
theorem len_is2 : ∀ (us : List Value), us.length = 2 -> ∃ a0 a1, us = [a0, a1]
 | [a0, a1], _ => ⟨a0, a1, rfl⟩
theorem len_is3 : ∀ (us : List Value), us.length = 3 -> ∃ a0 a1 a2, us = [a0, a1, a2]
 | [a0, a1, a2], _ => ⟨a0, a1, a2, rfl⟩
theorem all_mk {l : PySem.W.OpenLaw} {w : World} {K : PySem.W.Frag} {h : Heap} {mg : Str -> Option Value} {fa f1 f2 f3 f4 f5 f6 f7 f8 f9 f10 f11 f12 f13 f14 f15 f16 : Addr} (X : K.In h) (G : h.Ns mainGlobals mg) (hfa : mg "law" = some (.ref fa))
  {od1 an1 od2 an2 od3 an3 od4 an4 od5 an5 od6 an6 od7 an7 od8 an8 od9 an9 od10 an10 od11 an11 od12 an12 od13 an13 od14 an14 od15 an15 od16 an16 : Option Addr} {sl1 sl2 sl3 sl4 sl5 sl6 sl7 sl8 sl9 sl10 sl11 sl12 sl13 sl14 sl15 sl16 : Array (Option Value)}
  {oc1 kV1 dc1 pm1 cd1 ct1 oc2 kV2 dc2 pm2 cd2 ct2 oc3 kV3 dc3 pm3 cd3 ct3 oc4 kV4 dc4 pm4 cd4 ct4 oc5 kV5 dc5 pm5 cd5 ct5 oc6 kV6 dc6 pm6 cd6 ct6 oc7 kV7 dc7 pm7 cd7 ct7 oc8 kV8 dc8 pm8 cd8 ct8 oc9 kV9 dc9 pm9 cd9 ct9 oc10 kV10 dc10 pm10 cd10 ct10 oc11 kV11 dc11 pm11 cd11 ct11 oc12 kV12 dc12 pm12 cd12 ct12 oc13 kV13 dc13 pm13 cd13 ct13 oc14 kV14 dc14 pm14 cd14 ct14 oc15 kV15 dc15 pm15 cd15 ct15 oc16 kV16 dc16 pm16 cd16 ct16 : Value}
  {C_Looped C_NoFilling C_NoGoing C_NoLine C_NoName C_NoNumber C_NoOrder C_NoRow C_NoShape C_NoThing C_NotForest C_NotLoose C_RiseError C_TooGreat : Addr}
  (a1 : PySem.W.nsIn K mainGlobals "is_thing" = some (some (.ref f1))) (l1 : K.lookup f1 = some ⟨oc1, od1, .func (PySem.W.fnOf "is_thing" "is_thing" (defArgs s_is_thing) (defBody s_is_thing) (defScope s_is_thing) .none kV1 dc1 pm1 an1 cd1 ct1), sl1⟩) (c1 : PySem.W.codeIn K cd1 "is_thing" = true) (k1 : PySem.W.keepIn K (.ref f1) = true)
  (a2 : PySem.W.nsIn K mainGlobals "refuse_strangers" = some (some (.ref f2))) (l2 : K.lookup f2 = some ⟨oc2, od2, .func (PySem.W.fnOf "refuse_strangers" "refuse_strangers" (defArgs s_refuse_strangers) (defBody s_refuse_strangers) (defScope s_refuse_strangers) .none kV2 dc2 pm2 an2 cd2 ct2), sl2⟩) (c2 : PySem.W.codeIn K cd2 "refuse_strangers" = true) (k2 : PySem.W.keepIn K (.ref f2) = true)
  (a3 : PySem.W.nsIn K mainGlobals "put_under" = some (some (.ref f3))) (l3 : K.lookup f3 = some ⟨oc3, od3, .func (PySem.W.fnOf "put_under" "put_under" (defArgs s_put_under) (defBody s_put_under) (defScope s_put_under) .none kV3 dc3 pm3 an3 cd3 ct3), sl3⟩) (c3 : PySem.W.codeIn K cd3 "put_under" = true) (k3 : PySem.W.keepIn K (.ref f3) = true)
  (a4 : PySem.W.nsIn K mainGlobals "order_of" = some (some (.ref f4))) (l4 : K.lookup f4 = some ⟨oc4, od4, .func (PySem.W.fnOf "order_of" "order_of" (defArgs s_order_of) (defBody s_order_of) (defScope s_order_of) .none kV4 dc4 pm4 an4 cd4 ct4), sl4⟩) (c4 : PySem.W.codeIn K cd4 "order_of" = true) (k4 : PySem.W.keepIn K (.ref f4) = true)
  (a5 : PySem.W.nsIn K mainGlobals "_law_cell" = some (some (.ref f5))) (l5 : K.lookup f5 = some ⟨oc5, od5, .func (PySem.W.fnOf "_law_cell" "_law_cell" (defArgs s_l_cell) (defBody s_l_cell) (defScope s_l_cell) .none kV5 dc5 pm5 an5 cd5 ct5), sl5⟩) (c5 : PySem.W.codeIn K cd5 "_law_cell" = true) (k5 : PySem.W.keepIn K (.ref f5) = true)
  (a6 : PySem.W.nsIn K mainGlobals "_law_mixed" = some (some (.ref f6))) (l6 : K.lookup f6 = some ⟨oc6, od6, .func (PySem.W.fnOf "_law_mixed" "_law_mixed" (defArgs s_l_mixed) (defBody s_l_mixed) (defScope s_l_mixed) .none kV6 dc6 pm6 an6 cd6 ct6), sl6⟩) (c6 : PySem.W.codeIn K cd6 "_law_mixed" = true) (k6 : PySem.W.keepIn K (.ref f6) = true)
  (a7 : PySem.W.nsIn K mainGlobals "_law_draws" = some (some (.ref f7))) (l7 : K.lookup f7 = some ⟨oc7, od7, .func (PySem.W.fnOf "_law_draws" "_law_draws" (defArgs s_l_draws) (defBody s_l_draws) (defScope s_l_draws) .none kV7 dc7 pm7 an7 cd7 ct7), sl7⟩) (c7 : PySem.W.codeIn K cd7 "_law_draws" = true) (k7 : PySem.W.keepIn K (.ref f7) = true)
  (a8 : PySem.W.nsIn K mainGlobals "_law_same" = some (some (.ref f8))) (l8 : K.lookup f8 = some ⟨oc8, od8, .func (PySem.W.fnOf "_law_same" "_law_same" (defArgs s_l_same) (defBody s_l_same) (defScope s_l_same) .none kV8 dc8 pm8 an8 cd8 ct8), sl8⟩) (c8 : PySem.W.codeIn K cd8 "_law_same" = true) (k8 : PySem.W.keepIn K (.ref f8) = true)
  (a9 : PySem.W.nsIn K mainGlobals "_law_order" = some (some (.ref f9))) (l9 : K.lookup f9 = some ⟨oc9, od9, .func (PySem.W.fnOf "_law_order" "_law_order" (defArgs s_l_order) (defBody s_l_order) (defScope s_l_order) .none kV9 dc9 pm9 an9 cd9 ct9), sl9⟩) (c9 : PySem.W.codeIn K cd9 "_law_order" = true) (k9 : PySem.W.keepIn K (.ref f9) = true)
  (a10 : PySem.W.nsIn K mainGlobals "_law_ties" = some (some (.ref f10))) (l10 : K.lookup f10 = some ⟨oc10, od10, .func (PySem.W.fnOf "_law_ties" "_law_ties" (defArgs s_l_ties) (defBody s_l_ties) (defScope s_l_ties) .none kV10 dc10 pm10 an10 cd10 ct10), sl10⟩) (c10 : PySem.W.codeIn K cd10 "_law_ties" = true) (k10 : PySem.W.keepIn K (.ref f10) = true)
  (a11 : PySem.W.nsIn K mainGlobals "_law_asked" = some (some (.ref f11))) (l11 : K.lookup f11 = some ⟨oc11, od11, .func (PySem.W.fnOf "_law_asked" "_law_asked" (defArgs s_l_asked) (defBody s_l_asked) (defScope s_l_asked) .none kV11 dc11 pm11 an11 cd11 ct11), sl11⟩) (c11 : PySem.W.codeIn K cd11 "_law_asked" = true) (k11 : PySem.W.keepIn K (.ref f11) = true)
  (a12 : PySem.W.nsIn K mainGlobals "_law_refused" = some (some (.ref f12))) (l12 : K.lookup f12 = some ⟨oc12, od12, .func (PySem.W.fnOf "_law_refused" "_law_refused" (defArgs s_l_refused) (defBody s_l_refused) (defScope s_l_refused) .none kV12 dc12 pm12 an12 cd12 ct12), sl12⟩) (c12 : PySem.W.codeIn K cd12 "_law_refused" = true) (k12 : PySem.W.keepIn K (.ref f12) = true)
  (a13 : PySem.W.nsIn K mainGlobals "_law_closed" = some (some (.ref f13))) (l13 : K.lookup f13 = some ⟨oc13, od13, .func (PySem.W.fnOf "_law_closed" "_law_closed" (defArgs s_l_closed) (defBody s_l_closed) (defScope s_l_closed) .none kV13 dc13 pm13 an13 cd13 ct13), sl13⟩) (c13 : PySem.W.codeIn K cd13 "_law_closed" = true) (k13 : PySem.W.keepIn K (.ref f13) = true)
  (a14 : PySem.W.nsIn K mainGlobals "_law_made" = some (some (.ref f14))) (l14 : K.lookup f14 = some ⟨oc14, od14, .func (PySem.W.fnOf "_law_made" "_law_made" (defArgs s_l_made) (defBody s_l_made) (defScope s_l_made) .none kV14 dc14 pm14 an14 cd14 ct14), sl14⟩) (c14 : PySem.W.codeIn K cd14 "_law_made" = true) (k14 : PySem.W.keepIn K (.ref f14) = true)
  (a15 : PySem.W.nsIn K mainGlobals "_law_due" = some (some (.ref f15))) (l15 : K.lookup f15 = some ⟨oc15, od15, .func (PySem.W.fnOf "_law_due" "_law_due" (defArgs s_l_due) (defBody s_l_due) (defScope s_l_due) .none kV15 dc15 pm15 an15 cd15 ct15), sl15⟩) (c15 : PySem.W.codeIn K cd15 "_law_due" = true) (k15 : PySem.W.keepIn K (.ref f15) = true)
  (a16 : PySem.W.nsIn K mainGlobals "law" = some (some (.ref f16))) (l16 : K.lookup f16 = some ⟨oc16, od16, .func (PySem.W.fnOf "law" "law" (defArgs s_law) (defBody s_law) (defScope s_law) .none kV16 dc16 pm16 an16 cd16 ct16), sl16⟩) (c16 : PySem.W.codeIn K cd16 "law" = true) (k16 : PySem.W.keepIn K (.ref f16) = true)
  (u_Looped : PySem.W.nsIn K mainGlobals "Looped" = some (some (.ref C_Looped)))
  (u_NoFilling : PySem.W.nsIn K mainGlobals "NoFilling" = some (some (.ref C_NoFilling)))
  (u_NoGoing : PySem.W.nsIn K mainGlobals "NoGoing" = some (some (.ref C_NoGoing)))
  (u_NoLine : PySem.W.nsIn K mainGlobals "NoLine" = some (some (.ref C_NoLine)))
  (u_NoName : PySem.W.nsIn K mainGlobals "NoName" = some (some (.ref C_NoName)))
  (u_NoNumber : PySem.W.nsIn K mainGlobals "NoNumber" = some (some (.ref C_NoNumber)))
  (u_NoOrder : PySem.W.nsIn K mainGlobals "NoOrder" = some (some (.ref C_NoOrder)))
  (u_NoRow : PySem.W.nsIn K mainGlobals "NoRow" = some (some (.ref C_NoRow)))
  (u_NoShape : PySem.W.nsIn K mainGlobals "NoShape" = some (some (.ref C_NoShape)))
  (u_NoThing : PySem.W.nsIn K mainGlobals "NoThing" = some (some (.ref C_NoThing)))
  (u_NotForest : PySem.W.nsIn K mainGlobals "NotForest" = some (some (.ref C_NotForest)))
  (u_NotLoose : PySem.W.nsIn K mainGlobals "NotLoose" = some (some (.ref C_NotLoose)))
  (u_RiseError : PySem.W.nsIn K mainGlobals "RiseError" = some (some (.ref C_RiseError)))
  (u_TooGreat : PySem.W.nsIn K mainGlobals "TooGreat" = some (some (.ref C_TooGreat)))
  (v_Looped : PySem.W.excIn K C_Looped bmV "ValueError.__new__" = true)
  (v_NoThing : PySem.W.excIn K C_NoThing bmV "ValueError.__new__" = true)
  (e1 : PySem.W.subIn K (.ref C_RiseError) (.type "BaseException") = some true)
  (e2 : PySem.W.isClsIn K C_RiseError = true)
  (e3 : PySem.W.typeIn K (.ref C_RiseError) = some (.type "type"))
  (qq_Looped : ExcQ K C_Looped)
  (sVE_Looped : PySem.W.subIn K (.ref C_Looped) (.type "ValueError") = some true)
  (d_Looped_NoLine : NotSub K C_Looped C_NoLine)
  (d_Looped_NoName : NotSub K C_Looped C_NoName)
  (d_Looped_NoShape : NotSub K C_Looped C_NoShape)
  (d_Looped_NotForest : NotSub K C_Looped C_NotForest)
  (d_Looped_NotLoose : NotSub K C_Looped C_NotLoose)
  (d_Looped_NoFilling : NotSub K C_Looped C_NoFilling)
  (d_Looped_NoRow : NotSub K C_Looped C_NoRow)
  (d_Looped_NoGoing : NotSub K C_Looped C_NoGoing)
  (d_Looped_TooGreat : NotSub K C_Looped C_TooGreat)
  (d_Looped_NoNumber : NotSub K C_Looped C_NoNumber)
  (d_Looped_NoOrder : NotSub K C_Looped C_NoOrder)
  (d_Looped_NoThing : NotSub K C_Looped C_NoThing)
  (e4_Looped : PySem.W.subIn K (.ref C_Looped) (.ref C_RiseError) = some true)
  (qq_NoThing : ExcQ K C_NoThing)
  (sVE_NoThing : PySem.W.subIn K (.ref C_NoThing) (.type "ValueError") = some true)
  (d_NoThing_NoLine : NotSub K C_NoThing C_NoLine)
  (d_NoThing_NoName : NotSub K C_NoThing C_NoName)
  (d_NoThing_NoShape : NotSub K C_NoThing C_NoShape)
  (d_NoThing_NotForest : NotSub K C_NoThing C_NotForest)
  (d_NoThing_NotLoose : NotSub K C_NoThing C_NotLoose)
  (d_NoThing_NoFilling : NotSub K C_NoThing C_NoFilling)
  (d_NoThing_NoRow : NotSub K C_NoThing C_NoRow)
  (d_NoThing_NoGoing : NotSub K C_NoThing C_NoGoing)
  (d_NoThing_TooGreat : NotSub K C_NoThing C_TooGreat)
  (d_NoThing_NoNumber : NotSub K C_NoThing C_NoNumber)
  (d_NoThing_NoOrder : NotSub K C_NoThing C_NoOrder)
  (d_NoThing_Looped : NotSub K C_NoThing C_Looped)
  (e4_NoThing : PySem.W.subIn K (.ref C_NoThing) (.ref C_RiseError) = some true)
  (z1 : PySem.W.nsIn K mainGlobals "tuple" = some none) (z2 : PySem.W.nsIn K mainGlobals "enumerate" = some none) (z3 : PySem.W.nsIn K mainGlobals "sorted" = some none) (z4 : PySem.W.nsIn K mainGlobals "set" = some none) (z5 : PySem.W.nsIn K mainGlobals "len" = some none) (z6 : PySem.W.nsIn K mainGlobals "range" = some none) (z7 : PySem.W.nsIn K mainGlobals "isinstance" = some none) (z8 : PySem.W.nsIn K mainGlobals "str" = some none) (z9 : PySem.W.nsIn K mainGlobals "int" = some none) (z10 : PySem.W.nsIn K mainGlobals "bool" = some none) (z11 : PySem.W.nsIn K mainGlobals "all" = some none) (z12 : PySem.W.nsIn K mainGlobals "list" = some none) (z13 : PySem.W.nsIn K mainGlobals "ValueError" = some none) :
  ∃ fd : FuncData, (∀ (s : Shared) (v : Value), BindsTo s fd ⟨[v], []⟩ [("_law_script", v)]) /\ ∀ base : Heap, K.In base -> base.Ns mainGlobals mg -> FnOk l.prog w K mg base CX0 10 fa fd ["_law_script"] (sp4 K f_law) := by
 have e := hfa.symm.trans (PySem.W.mg_of X G a16)
 cases e
 have F1 := fun_mk (st := s_is_thing) l1 c1 k1
 have F2 := fun_mk (st := s_refuse_strangers) l2 c2 k2
 have F3 := fun_mk (st := s_put_under) l3 c3 k3
 have F4 := fun_mk (st := s_order_of) l4 c4 k4
 have F5 := fun_mk (st := s_l_cell) l5 c5 k5
 have F6 := fun_mk (st := s_l_mixed) l6 c6 k6
 have F7 := fun_mk (st := s_l_draws) l7 c7 k7
 have F8 := fun_mk (st := s_l_same) l8 c8 k8
 have F9 := fun_mk (st := s_l_order) l9 c9 k9
 have F10 := fun_mk (st := s_l_ties) l10 c10 k10
 have F11 := fun_mk (st := s_l_asked) l11 c11 k11
 have F12 := fun_mk (st := s_l_refused) l12 c12 k12
 have F13 := fun_mk (st := s_l_closed) l13 c13 k13
 have F14 := fun_mk (st := s_l_made) l14 c14 k14
 have F15 := fun_mk (st := s_l_due) l15 c15 k15
 have F16 := fun_mk (st := s_law) l16 c16 k16
 have b1 := F1.binds (ps := ["number", "n"]) fun _ _ _ _ _ _ us hl => by obtain ⟨_, _, rfl⟩ := len_is2 us hl; rfl
 have g1 := PySem.W.mg_of X G a1
 have b2 := F2.binds (ps := ["n", "a", "b"]) fun _ _ _ _ _ _ us hl => by obtain ⟨_, _, _, rfl⟩ := len_is3 us hl; rfl
 have g2 := PySem.W.mg_of X G a2
 have b3 := F3.binds (ps := ["order", "a", "b"]) fun _ _ _ _ _ _ us hl => by obtain ⟨_, _, _, rfl⟩ := len_is3 us hl; rfl
 have g3 := PySem.W.mg_of X G a3
 have b4 := F4.binds (ps := ["n", "ties"]) fun _ _ _ _ _ _ us hl => by obtain ⟨_, _, rfl⟩ := len_is2 us hl; rfl
 have g4 := PySem.W.mg_of X G a4
 have b5 := F5.binds (ps := ["_law_script", "_law_k"]) fun _ _ _ _ _ _ us hl => by obtain ⟨_, _, rfl⟩ := len_is2 us hl; rfl
 have g5 := PySem.W.mg_of X G a5
 have b6 := F6.binds (ps := ["_law_cell_here", "_law_k", "_law_salt"]) fun _ _ _ _ _ _ us hl => by obtain ⟨_, _, _, rfl⟩ := len_is3 us hl; rfl
 have g6 := PySem.W.mg_of X G a6
 have b7 := F7.binds (ps := ["_law_cell_here", "_law_many", "_law_salt"]) fun _ _ _ _ _ _ us hl => by obtain ⟨_, _, _, rfl⟩ := len_is3 us hl; rfl
 have g7 := PySem.W.mg_of X G a7
 have b8 := F8.binds (ps := ["_law_found", "_law_due_here"]) fun _ _ _ _ _ _ us hl => by obtain ⟨_, _, rfl⟩ := len_is2 us hl; rfl
 have g8 := PySem.W.mg_of X G a8
 have b9 := F9.binds (ps := ["_law_draws_here", "_law_n", "_law_thick"]) fun _ _ _ _ _ _ us hl => by obtain ⟨_, _, _, rfl⟩ := len_is3 us hl; rfl
 have g9 := PySem.W.mg_of X G a9
 have b10 := F10.binds (ps := ["_law_order_here"]) fun _ _ _ _ _ _ us hl => by obtain ⟨_, rfl⟩ := len_is1 us hl; rfl
 have g10 := PySem.W.mg_of X G a10
 have b11 := F11.binds (ps := ["_law_n", "_law_ties_here"]) fun _ _ _ _ _ _ us hl => by obtain ⟨_, _, rfl⟩ := len_is2 us hl; rfl
 have g11 := PySem.W.mg_of X G a11
 have b12 := F12.binds (ps := ["_law_word"]) fun _ _ _ _ _ _ us hl => by obtain ⟨_, rfl⟩ := len_is1 us hl; rfl
 have g12 := PySem.W.mg_of X G a12
 have b13 := F13.binds (ps := ["_law_n", "_law_ties_here"]) fun _ _ _ _ _ _ us hl => by obtain ⟨_, _, rfl⟩ := len_is2 us hl; rfl
 have g13 := PySem.W.mg_of X G a13
 have b14 := F14.binds (ps := ["_law_script", "_law_k", "_law_salt"]) fun _ _ _ _ _ _ us hl => by obtain ⟨_, _, _, rfl⟩ := len_is3 us hl; rfl
 have g14 := PySem.W.mg_of X G a14
 have b15 := F15.binds (ps := ["_law_n", "_law_ties_here"]) fun _ _ _ _ _ _ us hl => by obtain ⟨_, _, rfl⟩ := len_is2 us hl; rfl
 have g15 := PySem.W.mg_of X G a15
 have m_tuple := PySem.W.mg_none_of X G z1
 have m_enumerate := PySem.W.mg_none_of X G z2
 have m_sorted := PySem.W.mg_none_of X G z3
 have m_set := PySem.W.mg_none_of X G z4
 have m_len := PySem.W.mg_none_of X G z5
 have m_range := PySem.W.mg_none_of X G z6
 have m_isinstance := PySem.W.mg_none_of X G z7
 have m_str := PySem.W.mg_none_of X G z8
 have m_int := PySem.W.mg_none_of X G z9
 have m_bool := PySem.W.mg_none_of X G z10
 have m_all := PySem.W.mg_none_of X G z11
 have m_list := PySem.W.mg_none_of X G z12
 have m_ValueError := PySem.W.mg_none_of X G z13
 have x_Looped := PySem.W.mg_of X G u_Looped
 have x_NoFilling := PySem.W.mg_of X G u_NoFilling
 have x_NoGoing := PySem.W.mg_of X G u_NoGoing
 have x_NoLine := PySem.W.mg_of X G u_NoLine
 have x_NoName := PySem.W.mg_of X G u_NoName
 have x_NoNumber := PySem.W.mg_of X G u_NoNumber
 have x_NoOrder := PySem.W.mg_of X G u_NoOrder
 have x_NoRow := PySem.W.mg_of X G u_NoRow
 have x_NoShape := PySem.W.mg_of X G u_NoShape
 have x_NoThing := PySem.W.mg_of X G u_NoThing
 have x_NotForest := PySem.W.mg_of X G u_NotForest
 have x_NotLoose := PySem.W.mg_of X G u_NotLoose
 have x_RiseError := PySem.W.mg_of X G u_RiseError
 have x_TooGreat := PySem.W.mg_of X G u_TooGreat
 have q_Looped := excC_of v_Looped
 have q_NoThing := excC_of v_NoThing
 refine ⟨PySem.W.fnOf "law" "law" (defArgs s_law) (defBody s_law) (defScope s_law) .none kV16 dc16 pm16 an16 cd16 ct16, fun s v => .of_eq rfl, fun base _ _ => ?_⟩
 have o1 : FnOk l.prog w K mg base CX0 4 f1 _ _ (sp4 K LL.f_is_thing) := ok_is_thing (kk := 3) F1 
 have o2 : FnOk l.prog w K mg base (CXW l.prog w) 5 f2 _ _ (sp5 K mg LL.f_refuse_strangers) := ok_refuse_strangers (kk := 4) F2 (o1.mono (by decide)) g1 k1 b1 x_NoThing q_NoThing
 have o3 : FnOk l.prog w K mg base (CXW l.prog w) 6 f3 _ _ (sp5 K mg LL.f_put_under) := ok_put_under (kk := 5) F3 (o2.mono (by decide)) g2 k2 b2 x_Looped q_Looped m_tuple m_enumerate m_sorted m_set m_len
 have o4 : FnOk l.prog w K mg base (CXW l.prog w) 7 f4 _ _ (sp5 K mg f_order_of) := ok_order_of (kk := 6) F4 (o3.mono (by decide)) g3 k3 b3 (o2.mono (by decide)) g2 k2 b2
 have o5 : FnOk l.prog w K mg base CX0 4 f5 _ _ (sp4 K LL.f_l_cell) := ok_l_cell (kk := 3) F5 m_len
 have o6 : FnOk l.prog w K mg base CX0 4 f6 _ _ (sp4 K LL.f_l_mixed) := ok_l_mixed (kk := 3) F6 
 have o7 : FnOk l.prog w K mg base CX0 5 f7 _ _ (sp4 K LL.f_l_draws) := ok_l_draws (kk := 4) F7 (o6.mono (by decide)) g6 k6 b6 m_range
 have o8 : FnOk l.prog w K mg base CX0 9 f8 _ _ (sp4 K (LL.f_l_same 6)) := ok_l_same (kk := 3) F8 g8 k8 b8 m_isinstance m_str m_int m_bool m_tuple m_len m_range m_all 6
 have o9 : FnOk l.prog w K mg base CX0 4 f9 _ _ (sp4 K LL.f_l_order) := ok_l_order (kk := 3) F9 m_range m_sorted m_tuple m_len m_list
 have o10 : FnOk l.prog w K mg base CX0 4 f10 _ _ (sp4 K LL.f_l_ties) := ok_l_ties (kk := 3) F10 m_sorted m_len m_range
 have o11 : FnOk l.prog w K mg base CX0 8 f11 _ _ (sp4 K f_l_asked) := ok_l_asked (kk := 7) F11 (o4.mono (by decide)) g4 k4 b4 x_Looped x_NoFilling x_NoGoing x_NoLine x_NoName x_NoNumber x_NoOrder x_NoRow x_NoShape x_NoThing x_NotForest x_NotLoose x_RiseError x_TooGreat e1 e2 e3 qq_Looped sVE_Looped d_Looped_NoLine d_Looped_NoName d_Looped_NoShape d_Looped_NotForest d_Looped_NotLoose d_Looped_NoFilling d_Looped_NoRow d_Looped_NoGoing d_Looped_TooGreat d_Looped_NoNumber d_Looped_NoOrder d_Looped_NoThing e4_Looped qq_NoThing sVE_NoThing d_NoThing_NoLine d_NoThing_NoName d_NoThing_NoShape d_NoThing_NotForest d_NoThing_NotLoose d_NoThing_NoFilling d_NoThing_NoRow d_NoThing_NoGoing d_NoThing_TooGreat d_NoThing_NoNumber d_NoThing_NoOrder d_NoThing_Looped e4_NoThing m_isinstance m_ValueError
 have o12 : FnOk l.prog w K mg base CX0 4 f12 _ _ (sp4 K LL.f_l_refused) := ok_l_refused (kk := 3) F12 m_tuple
 have o13 : FnOk l.prog w K mg base CX0 4 f13 _ _ (sp4 K LL.f_l_closed) := ok_l_closed (kk := 3) F13 m_tuple m_range m_sorted m_len
 have o14 : FnOk l.prog w K mg base CX0 6 f14 _ _ (sp4 K f_l_made) := ok_l_made (kk := 5) F14 (o10.mono (by decide)) g10 k10 b10 (o9.mono (by decide)) g9 k9 b9 (o7.mono (by decide)) g7 k7 b7 (o5.mono (by decide)) g5 k5 b5 m_tuple m_len m_range m_enumerate
 have o15 : FnOk l.prog w K mg base CX0 5 f15 _ _ (sp4 K f_l_due) := ok_l_due (kk := 4) F15 (o12.mono (by decide)) g12 k12 b12 (o13.mono (by decide)) g13 k13 b13
 exact ok_law (kk := 9) F16 (o8.mono (by decide)) g8 k8 b8 (o11.mono (by decide)) g11 k11 b11 (o15.mono (by decide)) g15 k15 b15 (o14.mono (by decide)) g14 k14 b14
theorem scr_of {K : PySem.W.Frag} {H : Hp} {a : Addr} {ns : List Int} (o : Only H) (h : SqL K H a (ns.map V.int)) : Scr K H a ns := by
 rcases h with h | h
 ·rcases h with h | ⟨b, h⟩
  ·rcases o a with z | ⟨_, _, z⟩ <;> rw [z] at h <;> cases h
  ·exact .inl ⟨b, h⟩
 ·exact .inr (.inr h)
theorem walk {l : PySem.W.OpenLaw} {q : Program} {loose : List Str} {XP : (Str -> Option Value) -> Heap -> Prop} {YP : World -> Heap -> Prop} {d : DefRec} {K : Params -> PySem.W.Frag} (hn : l.most = some 63) (hdf : d.params.defaults = [])
  (hY : ∀ (w : World) (h : Heap), YP w h -> (K w.params).In h)
  (F : ∀ (w : World) (mg : Str -> Option Value) (fa : Addr) (h : Heap), (K w.params).In h -> h.Ns mainGlobals mg -> mg d.name = some (.ref fa) ->
   ∃ fd : FuncData, (∀ (s : Shared) (u : Value), BindsTo s fd ⟨[u], []⟩ [("_law_script", u)]) /\ ∀ base : Heap, (K w.params).In base -> base.Ns mainGlobals mg -> FnOk l.prog w (K w.params) mg base CX0 10 fa fd ["_law_script"] (sp4 (K w.params) f_law)) :
  PySem.W.WalkO q loose XP YP l.row.toRowW d [] (fun f vs => PySem.call f vs) :=
 L2.walk_of (n := 63) (k := 10) (x := "_law_script") (CX := fun _ => CX0) (sp := fun w => sp4 (K w.params) f_law) hn (by decide) hdf ⟨rfl, by decide, by decide⟩ hY F
  (fun _ H a ns hl o hS => ⟨fun a => H a = none, [.scr ns], fun d => d = .bl true, fun _ h => h, ⟨_, _, rfl, ⟨a, rfl, scr_of o hS⟩, rfl⟩, ⟨_, law_true ns hl, rfl⟩, fun v H' d _ hd e => by subst e; exact hd⟩) fun _ _ _ _ _ z => z
end K02
open PySem PySem.W PyProof.Rows
def PySem.W.Fast.tw5893145162720040987 := 0
def PySem.W.Fast.tw3169708039876530211 := 0
def PySem.W.Fast.tw343777496010128815 := 0
def PySem.W.Fast.tw9157450466458508156 := 0
def PySem.W.Fast.tw2035286770917141899 := 0
def PySem.W.Fast.tw3660509335652592977 := 0
def PySem.W.Fast.tw4460812658595054318 := 0
def PySem.W.Fast.tw15362887420182360465 := 0
def PySem.W.Fast.tw3650923853535742329 := 0
def PySem.W.Fast.tw2903080715446736010 := 0
def PySem.W.Fast.tw1859987277296674409 := 0
def PySem.W.Fast.tw16758671524576174512 := 0
def PySem.W.Fast.tw18384863374633955714 := 0
def PySem.W.Fast.tw12184638346178195539 := 0
def PySem.W.Fast.tw2209242095666305102 := 0
def PySem.W.Fast.tw9456635219314728093 := 0
def PySem.W.Fast.tw10798202952407668575 := 0
def PySem.W.Fast.tw11208152442071765123 := 0
def PySem.W.Fast.tw8039772397977632336 := 0
set_option maxRecDepth 100000 in
set_option maxHeartbeats 0 in
theorem PySem.Challenge.cw_risecount_k02_made_of_ties_holds : PySem.Challenge.rw_risecount_k02_made_of_ties.Holds := by
 w_on; o_law; k_head; (case hw => w_witness2)
 k_fill
 refine K02.walk (l := PySem.Challenge.rw_risecount_k02_made_of_ties) rfl rfl (fun w h Y => PySem.W.kIn_of Y) ?F
 case F =>
  intro w mg fa h KX G hmg
  refine' K02.all_mk KX G hmg ?a1 ?l1 ?c1 ?k1 ?a2 ?l2 ?c2 ?k2 ?a3 ?l3 ?c3 ?k3 ?a4 ?l4 ?c4 ?k4 ?a5 ?l5 ?c5 ?k5 ?a6 ?l6 ?c6 ?k6 ?a7 ?l7 ?c7 ?k7 ?a8 ?l8 ?c8 ?k8 ?a9 ?l9 ?c9 ?k9 ?a10 ?l10 ?c10 ?k10 ?a11 ?l11 ?c11 ?k11 ?a12 ?l12 ?c12 ?k12 ?a13 ?l13 ?c13 ?k13 ?a14 ?l14 ?c14 ?k14 ?a15 ?l15 ?c15 ?k15 ?a16 ?l16 ?c16 ?k16 ?u_Looped ?u_NoFilling ?u_NoGoing ?u_NoLine ?u_NoName ?u_NoNumber ?u_NoOrder ?u_NoRow ?u_NoShape ?u_NoThing ?u_NotForest ?u_NotLoose ?u_RiseError ?u_TooGreat ?v_Looped ?v_NoThing ?e1 ?e2 ?e3 ?qq_Looped ?sVE_Looped ?d_Looped_NoLine ?d_Looped_NoName ?d_Looped_NoShape ?d_Looped_NotForest ?d_Looped_NotLoose ?d_Looped_NoFilling ?d_Looped_NoRow ?d_Looped_NoGoing ?d_Looped_TooGreat ?d_Looped_NoNumber ?d_Looped_NoOrder ?d_Looped_NoThing ?e4_Looped ?qq_NoThing ?sVE_NoThing ?d_NoThing_NoLine ?d_NoThing_NoName ?d_NoThing_NoShape ?d_NoThing_NotForest ?d_NoThing_NotLoose ?d_NoThing_NoFilling ?d_NoThing_NoRow ?d_NoThing_NoGoing ?d_NoThing_TooGreat ?d_NoThing_NoNumber ?d_NoThing_NoOrder ?d_NoThing_Looped ?e4_NoThing ?z1 ?z2 ?z3 ?z4 ?z5 ?z6 ?z7 ?z8 ?z9 ?z10 ?z11 ?z12 ?z13 
  (case a1 => k_is); (case l1 => k_is); (case c1 => k_is); (case k1 => k_is)
  (case a2 => k_is); (case l2 => k_is); (case c2 => k_is); (case k2 => k_is)
  (case a3 => k_is); (case l3 => k_is); (case c3 => k_is); (case k3 => k_is)
  (case a4 => k_is); (case l4 => k_is); (case c4 => k_is); (case k4 => k_is)
  (case a5 => k_is); (case l5 => k_is); (case c5 => k_is); (case k5 => k_is)
  (case a6 => k_is); (case l6 => k_is); (case c6 => k_is); (case k6 => k_is)
  (case a7 => k_is); (case l7 => k_is); (case c7 => k_is); (case k7 => k_is)
  (case a8 => k_is); (case l8 => k_is); (case c8 => k_is); (case k8 => k_is)
  (case a9 => k_is); (case l9 => k_is); (case c9 => k_is); (case k9 => k_is)
  (case a10 => k_is); (case l10 => k_is); (case c10 => k_is); (case k10 => k_is)
  (case a11 => k_is); (case l11 => k_is); (case c11 => k_is); (case k11 => k_is)
  (case a12 => k_is); (case l12 => k_is); (case c12 => k_is); (case k12 => k_is)
  (case a13 => k_is); (case l13 => k_is); (case c13 => k_is); (case k13 => k_is)
  (case a14 => k_is); (case l14 => k_is); (case c14 => k_is); (case k14 => k_is)
  (case a15 => k_is); (case l15 => k_is); (case c15 => k_is); (case k15 => k_is)
  (case a16 => k_is); (case l16 => k_is); (case c16 => k_is); (case k16 => k_is)
  (case u_Looped => k_is)
  (case u_NoFilling => k_is)
  (case u_NoGoing => k_is)
  (case u_NoLine => k_is)
  (case u_NoName => k_is)
  (case u_NoNumber => k_is)
  (case u_NoOrder => k_is)
  (case u_NoRow => k_is)
  (case u_NoShape => k_is)
  (case u_NoThing => k_is)
  (case u_NotForest => k_is)
  (case u_NotLoose => k_is)
  (case u_RiseError => k_is)
  (case u_TooGreat => k_is)
  (case v_Looped => k_exc)
  (case v_NoThing => k_exc)
  (case e1 => k_is)
  (case e2 => k_is)
  (case e3 => k_is)
  (case qq_Looped => exact ⟨by k_is, by k_is, by k_is, by k_is, by k_is, by k_is, by k_is, by k_is⟩)
  (case sVE_Looped => k_is)
  (case d_Looped_NoLine => exact ⟨by rfl, by k_is, by k_is, by k_is⟩)
  (case d_Looped_NoName => exact ⟨by rfl, by k_is, by k_is, by k_is⟩)
  (case d_Looped_NoShape => exact ⟨by rfl, by k_is, by k_is, by k_is⟩)
  (case d_Looped_NotForest => exact ⟨by rfl, by k_is, by k_is, by k_is⟩)
  (case d_Looped_NotLoose => exact ⟨by rfl, by k_is, by k_is, by k_is⟩)
  (case d_Looped_NoFilling => exact ⟨by rfl, by k_is, by k_is, by k_is⟩)
  (case d_Looped_NoRow => exact ⟨by rfl, by k_is, by k_is, by k_is⟩)
  (case d_Looped_NoGoing => exact ⟨by rfl, by k_is, by k_is, by k_is⟩)
  (case d_Looped_TooGreat => exact ⟨by rfl, by k_is, by k_is, by k_is⟩)
  (case d_Looped_NoNumber => exact ⟨by rfl, by k_is, by k_is, by k_is⟩)
  (case d_Looped_NoOrder => exact ⟨by rfl, by k_is, by k_is, by k_is⟩)
  (case d_Looped_NoThing => exact ⟨by rfl, by k_is, by k_is, by k_is⟩)
  (case e4_Looped => k_is)
  (case qq_NoThing => exact ⟨by k_is, by k_is, by k_is, by k_is, by k_is, by k_is, by k_is, by k_is⟩)
  (case sVE_NoThing => k_is)
  (case d_NoThing_NoLine => exact ⟨by rfl, by k_is, by k_is, by k_is⟩)
  (case d_NoThing_NoName => exact ⟨by rfl, by k_is, by k_is, by k_is⟩)
  (case d_NoThing_NoShape => exact ⟨by rfl, by k_is, by k_is, by k_is⟩)
  (case d_NoThing_NotForest => exact ⟨by rfl, by k_is, by k_is, by k_is⟩)
  (case d_NoThing_NotLoose => exact ⟨by rfl, by k_is, by k_is, by k_is⟩)
  (case d_NoThing_NoFilling => exact ⟨by rfl, by k_is, by k_is, by k_is⟩)
  (case d_NoThing_NoRow => exact ⟨by rfl, by k_is, by k_is, by k_is⟩)
  (case d_NoThing_NoGoing => exact ⟨by rfl, by k_is, by k_is, by k_is⟩)
  (case d_NoThing_TooGreat => exact ⟨by rfl, by k_is, by k_is, by k_is⟩)
  (case d_NoThing_NoNumber => exact ⟨by rfl, by k_is, by k_is, by k_is⟩)
  (case d_NoThing_NoOrder => exact ⟨by rfl, by k_is, by k_is, by k_is⟩)
  (case d_NoThing_Looped => exact ⟨by rfl, by k_is, by k_is, by k_is⟩)
  (case e4_NoThing => k_is)
  (case z1 => k_is)
  (case z2 => k_is)
  (case z3 => k_is)
  (case z4 => k_is)
  (case z5 => k_is)
  (case z6 => k_is)
  (case z7 => k_is)
  (case z8 => k_is)
  (case z9 => k_is)
  (case z10 => k_is)
  (case z11 => k_is)
  (case z12 => k_is)
  (case z13 => k_is)
end
